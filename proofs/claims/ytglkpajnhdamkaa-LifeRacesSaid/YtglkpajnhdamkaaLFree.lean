/- The list of the nodes that are free; whether a number is in a list. -/
import Derived.Test.YtglkpajnhdamkaaLNew
import Derived.Laws.AppendOwn
import Derived.Deep.AppendSrc
namespace Go.Proofs.Ytglkpajnhdamkaa.life
open Go.RowKit mem

def intCells (L : List Int) : Array Value := (L.map (Value.int .i64)).toArray
theorem intCells_get (L : List Int) (i : Nat) (h : i < L.length) : (intCells L)[i]? = some (.int .i64 (L.getD i 0)) := by
  unfold intCells
  simp [List.getElem?_eq_getElem h]
/-- A row of numbers. -/
def IntRow (w : World) (g : Nat) (L : List Int) : Prop := ∃ ex, w.heap[g]? = some (.cells (intCells L ++ ex) 3 (0, 0))
theorem IntRow.cell {w : World} {g : Nat} {L : List Int} (h : IntRow w g L) {i : Nat} (hi : i < L.length) : w.cell? ⟨g, i, none⟩ = some (.int .i64 (L.getD i 0)) := by
  obtain ⟨ex, h⟩ := h
  rw [Joins.cell_of_block h, Array.getElem?_append_left (by simpa [intCells] using hi)]
  exact intCells_get L i hi
theorem IntRow.lt {w : World} {g : Nat} {L : List Int} (h : IntRow w g L) : g < w.heap.size := by
  obtain ⟨ex, h⟩ := h
  exact (Array.getElem?_eq_some_iff.1 h).1
theorem IntRow.moved {w w' : World} {g : Nat} {L : List Int} (h : IntRow w g L) (hb : w'.heap[g]? = w.heap[g]?) : IntRow w' g L := let ⟨ex, h⟩ := h; ⟨ex, hb.trans h⟩
/-- A list of numbers, in a block from lo on. -/
def ListAt (w : World) (lo : Nat) (a : Option Addr) (L : List Int) : Prop := (L = [] ∧ a = none) ∨ ∃ g, a = some ⟨g, 0, none⟩ ∧ lo ≤ g ∧ IntRow w g L
theorem ListAt.below {w w' : World} {lo : Nat} {a : Option Addr} {L : List Int} (h : ListAt w lo a L) (hb : Below w.heap.size w w') : ListAt w' lo a L := by
  rcases h with h | ⟨g, h1, h2, h3⟩
  · exact Or.inl h
  · exact Or.inr ⟨g, h1, h2, h3.moved (hb.block g h3.lt)⟩
theorem ListAt.cell {w : World} {lo : Nat} {a : Option Addr} {L : List Int} (h : ListAt w lo a L) {i : Nat} (hi : i < L.length) : ∃ g, a = some ⟨g, 0, none⟩ ∧ w.cell? ⟨g, i, none⟩ = some (.int .i64 (L.getD i 0)) := by
  rcases h with ⟨h, _⟩ | ⟨g, h1, _, h3⟩
  · subst h
    simp at hi
  · exact ⟨g, h1, h3.cell hi⟩
/-- What owns numbers is a list of them. -/
theorem list_of_owns {w : World} {base : Nat} {v : Value} {L : List Int} (h : w.ownsRow base 3 1 v L.length (L.map (Value.int .i64))) : ∃ a c, v = .slice a L.length c ∧ ListAt w base a L := by
  obtain ⟨hl, ⟨rfl, h0⟩ | ⟨g, cap, cur, rfl, hb, hg, hn, hc, hs, ht⟩⟩ := h
  · have : L = [] := List.eq_nil_of_length_eq_zero h0
    subst this
    exact ⟨none, 0, rfl, Or.inl ⟨rfl, rfl⟩⟩
  · refine ⟨_, cap, rfl, Or.inr ⟨g, rfl, hb, (cur.toList.drop (L.length * 1)).toArray, ?_⟩⟩
    rw [hg]
    congr 2
    unfold intCells
    rw [← ht]
    apply Array.ext'
    simp

set_option maxHeartbeats 1000000 in
theorem contains_any (w : World) (lo : Nat) (a : Option Addr) (L : List Int) (N cap : Nat) (x : Int) (hN : L.length = N) (hl : N ≤ 1000) (h : ListAt w lo a L) :
    Calls Try.prog 16 #[.slice a N cap, .int .i64 x] w fun e w' => e = .returned (.bool (decide (x ∈ L))) ∧ w = w' := by
  have H := Lib.hid h
  have HN := Lib.hid hN
  clear h hN
  go_enter Try.func16, Try.ntmps16
  go_wp2
  go_loopw [5] (fun i wr => ∃ k : Nat, k ≤ N ∧ i = .int .i64 k ∧ wr = w ∧ x ∉ L.take k) (fun i _ => N - (intOf i).toNat)
  case atStart => refine ⟨0, Nat.zero_le _, ?_, ?_, ?_⟩ <;> simp
  case round =>
    obtain ⟨k, hk, rfl, rfl, hx⟩ := hrel
    have HX := Lib.hid hx
    clear hx
    by_cases hlt : k < N
    · obtain ⟨g, rfl, hc⟩ := H.out.cell (i := k) (by rw [HN.out]; exact hlt)
      obtain ⟨y, hy⟩ : ∃ y, y = L.getD k 0 := ⟨_, rfl⟩
      rw [← hy] at hc
      have HY := Lib.hid hy
      clear hy
      by_cases he : y = x
      · subst he
        go_wp2
        go_returns
        refine ⟨ret_bool ?_, rfl⟩
        symm
        apply decide_eq_true
        rw [HY.out, List.getD_eq_getElem?_getD, List.getElem?_eq_getElem (by rw [HN.out]; exact hlt)]
        exact List.getElem_mem _
      · have hq : (y == x) = false := by simpa using he
        have HE := Lib.hid he
        clear he
        go_wp2
        go_roundw
        case rel =>
          refine ⟨k + 1, by omega, by go_num, by first | trivial | rfl, ?_⟩
          have hlt2 : k < L.length := by rw [HN.out]; exact hlt
          rw [List.take_succ_eq_append_getElem hlt2]
          intro hm
          rcases List.mem_append.1 hm with hm | hm
          · exact HX.out hm
          · apply HE.out
            rw [HY.out, List.getD_eq_getElem?_getD, List.getElem?_eq_getElem hlt2]
            exact (List.mem_singleton.1 hm).symm
        case measure => simp [intOf]; omega
    · have hkn : N = k := by omega
      subst hkn
      go_wp2
      go_returns
      refine ⟨ret_bool ?_, rfl⟩
      symm
      apply decide_eq_false
      have h := HX.out
      rwa [List.take_of_length_le (by rw [HN.out]; exact Nat.le_refl _)] at h

/-- The nodes that are free, up to the k-th one. -/
def freeTo (n : Int) (zs : List Int) : Nat → List Int
  | 0 => []
  | k + 1 => freeTo n zs k ++ (if takenB n zs ((k + 1 : Nat) : Int) = true then [] else [((k + 1 : Nat) : Int)])
theorem freeTo_length (n : Int) (zs : List Int) : ∀ k, (freeTo n zs k).length ≤ k
  | 0 => by simp [freeTo]
  | k + 1 => by
    have := freeTo_length n zs k
    unfold freeTo
    split <;> simp <;> omega
theorem mem_freeTo (n : Int) (zs : List Int) (x : Int) : ∀ k, x ∈ freeTo n zs k ↔ 1 ≤ x ∧ x ≤ k ∧ takenB n zs x = false
  | 0 => by simp [freeTo]; omega
  | k + 1 => by
    have ih := mem_freeTo n zs x k
    unfold freeTo
    by_cases hx : x = ((k + 1 : Nat) : Int)
    · subst hx
      by_cases ht : takenB n zs ((k + 1 : Nat) : Int) = true
      · rw [if_pos ht, List.append_nil, ih, ht]
        simp
      · rw [if_neg ht]
        simp at ht
        simp [ht]
        omega
    · have e : x ∈ (if takenB n zs ((k + 1 : Nat) : Int) = true then [] else [((k + 1 : Nat) : Int)]) ↔ False := by
        split
        · simp
        · simp only [List.mem_singleton, iff_false]; exact hx
      rw [List.mem_append, e, or_false, ih]
      constructor <;> rintro ⟨a, b, c⟩ <;> exact ⟨a, by omega, c⟩
/-- All of them. -/
def freeL (n : Int) (zs : List Int) : List Int := freeTo n zs n.toNat

/-- On the way to the list. -/
structure FreeSt (w wr : World) (b X Y : Nat) (t n : Int) (zs : List Int) (v : Value) (L : List Int) : Prop where
  lay : Box wr b (layCells t n) 26
  mem : MemS wr X Y t n zs
  own : wr.ownsRow (w.heap.size + 1) 3 1 v L.length (L.map (Value.int .i64))
  below : Below w.heap.size w wr
  b0 : b = w.heap.size
  x0 : X < w.heap.size
  y0 : Y < w.heap.size
theorem FreeSt.next {w wr w1 : World} {b X Y : Nat} {t n : Int} {zs : List Int} {v : Value} {L : List Int} (h : FreeSt w wr b X Y t n zs v L) (hb : Below wr.heap.size wr w1) : FreeSt w w1 b X Y t n zs v L := by
  refine ⟨h.lay.below hb, h.mem.below hb, ?_, past h.below hb, h.b0, h.x0, h.y0⟩
  obtain ⟨hl, ⟨rfl, h0⟩ | ⟨g, cap, cur, rfl, hb2, hg, hn, hc, hs, ht⟩⟩ := h.own
  · exact ⟨hl, Or.inl ⟨rfl, h0⟩⟩
  · exact ⟨hl, Or.inr ⟨g, cap, cur, rfl, hb2, (hb.block g (Array.getElem?_eq_some_iff.1 hg).1).trans hg, hn, hc, hs, ht⟩⟩
theorem FreeSt.more {w wr w1 : World} {b X Y : Nat} {t n x : Int} {zs : List Int} {v v' : Value} {L : List Int} {T : TypeId} (h : FreeSt w wr b X Y t n zs v L)
    (hown : w1.ownsRow (w.heap.size + 1) 3 1 v' (L.length + 1) (L.map (Value.int .i64) ++ [.int .i64 x]))
    (hg : (wr.alloc (.cells #[.int .i64 x] T)).grownBy w1 v.ownBlock) : FreeSt w w1 b X Y t n zs v' (L ++ [x]) := by
  have hlt := h.lay.lt
  have hb0 := h.b0
  have hne : ∀ c, c < w.heap.size + 1 → some c ≠ v.ownBlock := by
    intro c hc he
    rcases h.own.2 with ⟨rfl, _⟩ | ⟨g, cap, cur, rfl, hge, _⟩
    · cases he
    · obtain rfl : c = g := Option.some.inj he
      omega
  have hkeep : ∀ c, c < w.heap.size + 1 → w1.heap[c]? = wr.heap[c]? := fun c hc => by
    rw [hg.block c (by simp; omega) (hne c hc), Below.heap_alloc _ _ _ (by omega)]
  have x0 := h.x0
  have y0 := h.y0
  refine ⟨(hkeep b (by omega)).trans h.lay, h.mem.moved (hkeep X (by omega)) (hkeep Y (by omega)), ?_, ?_, hb0, x0, y0⟩
  · rw [List.length_append, List.map_append]
    exact hown
  · refine (h.below.alloc h.below.size _).grown hg (by have := h.below.size; simp; omega) ?_
    intro k hk
    rcases h.own.2 with ⟨rfl, _⟩ | ⟨g, cap, cur, rfl, hge, _⟩
    · cases hk
    · obtain rfl : g = k := Option.some.inj hk
      omega
theorem Tryinfo_int : (Try.prog.info? 3).map (fun i => (i.zero, i.size, i.bytes)) = some (some (.int .i64 0), 1, 8) := by kernel_rfl
theorem cell_one (w : World) (x : Value) (T : TypeId) {g : Nat} (hg : w.heap.size = g) : ∀ j u, [x][j]? = some u → (w.alloc (.cells #[x] T)).cell? ((⟨g, 0, none⟩ : Addr).add j) = some u := by
  intro j u hu
  have hj : j = 0 := by
    have := (List.getElem?_eq_some_iff.1 hu).1
    simpa using this
  subst hj
  have h := (new_block w #[x] T hg)
  rw [Addr.add_lit, Joins.cell_of_block h]
  simpa using hu
theorem one_cell (x : Value) (h : x.oneCell' = true) : ∀ u ∈ [x], u.oneCell' = true := by
  intro u hu
  obtain rfl := List.mem_singleton.1 hu
  exact h

/-- What comes back: a list. -/
def Listed (w : World) (L : List Int) (e : Ending) (w' : World) : Prop := ∃ a cap, e = .returned (.slice a L.length cap) ∧ ListAt w' (w.heap.size + 1) a L ∧ Below w.heap.size w w'
set_option maxHeartbeats 2000000 in
theorem free_any (w : World) (X Y : Nat) (t n : Int) (zs : List Int) (hs : Sound t n zs) (hm : MemS w X Y t n zs) :
    Calls Try.prog 17 #[.pointer (some ⟨X, 0, none⟩), .agg #[.int .i64 t, .int .i64 n]] w (Listed w (freeL n zs)) := by
  have HR := Lib.hid (rightB_yes ⟨hs.t0, hs.t1, hs.n0, hs.n1⟩)
  have n0 := hs.n0
  have n1 := hs.n1
  have HS := Lib.hid hs
  have S0 : Hid (FreeSt w (w.alloc (.cells #[.int .i64 t, .int .i64 n] 26)) w.heap.size X Y t n zs (.slice none 0 0) []) :=
    Lib.hid ⟨Box.new _ _ _, hm.alloc _, World.ownsRow_nil _ _ _ _, (Below.refl _ _).alloc (Nat.le_refl _) _, rfl, hm.ltX, hm.ltY⟩
  clear hs hm
  go_enter Try.func17, Try.ntmps17
  go_wp2_with (go_at_call 28; refine (Right_any _ t n).mono ?_; rintro e w1 ⟨rfl, hb1⟩; rw [HR.out]; have S1 := Lib.hid (S0.out.next hb1); clear hb1 S0)
  go_loopw [5, 6] (fun v i wr => ∃ k : Nat, (k : Int) ≤ n ∧ i = .int .i64 (k + 1) ∧ FreeSt w wr w.heap.size X Y t n zs v (freeTo n zs k)) (fun _ i _ => n.toNat + 1 - (intOf i).toNat)
  case atStart => exact ⟨0, by omega, by go_num, S1.out⟩
  case round =>
    clear S1
    obtain ⟨k, hk, rfl, hst⟩ := hrel
    have HF := Lib.hid hst
    clear hst
    have d0 := HF.out.lay.at 0 rfl
    have d1 : wr.cell? ⟨w.heap.size, 1, none⟩ = some (.int .i64 n) := HF.out.lay.at 1 rfl
    have d0 : wr.cell? ⟨w.heap.size, 0, none⟩ = some (.int .i64 t) := HF.out.lay.at 0 rfl
    by_cases hlt : (k : Int) < n
    · by_cases ht : takenB n zs ((k + 1 : Nat) : Int) = true
      · have HT := Lib.hid ht
        have HE : Hid (freeTo n zs (k + 1) = freeTo n zs k) := by show freeTo n zs (k + 1) = _; rw [freeTo, if_pos ht, List.append_nil]
        have hcast : ((k + 1 : Nat) : Int) = (k : Int) + 1 := by omega
        have HC := Lib.hid hcast
        clear ht hcast
        go_wp2_with (go_at_call 20; refine (taken_in HS.out HF.out.mem ((k : Int) + 1) (by omega) (by omega)).mono ?_; rintro e w2 ⟨rfl, hb2⟩; rw [← HC.out, HT.out]; have F2 := Lib.hid (HF.out.next hb2); clear hb2)
        go_roundw
        case rel => exact ⟨k + 1, by omega, by go_num, by rw [HE.out]; exact F2.out⟩
        case measure => simp [intOf]; omega
      · have ht : takenB n zs ((k + 1 : Nat) : Int) = false := by simpa using ht
        have HT := Lib.hid ht
        have HE : Hid (freeTo n zs (k + 1) = freeTo n zs k ++ [(k : Int) + 1]) := by
          show freeTo n zs (k + 1) = _
          rw [freeTo, if_neg (by rw [ht]; simp), show ((k + 1 : Nat) : Int) = (k : Int) + 1 by omega]
        have hcast : ((k + 1 : Nat) : Int) = (k : Int) + 1 := by omega
        have HC := Lib.hid hcast
        clear ht hcast
        obtain ⟨i0, hi, hz0, hz1, hz2⟩ := info_parts Tryinfo_int
        have hlen := freeTo_length n zs k
        have hml : (freeTo n zs k).length + 1 ≤ maxLen := by unfold maxLen; omega
        go_wp2_with (first
          | (go_at_call 20; refine (taken_in HS.out HF.out.mem ((k : Int) + 1) (by omega) (by omega)).mono ?_; rintro e w2 ⟨rfl, hb2⟩; rw [← HC.out, HT.out]; have F2 := Lib.hid (HF.out.next hb2); clear hb2; have hlt2 := F2.out.lay.lt)
          | (at_builtin; go_loud (refine wpList_append_own _ rfl (.tmp 21) (.tmp 23) 42 rfl (w.heap.size + 1) 3 i0 (.int .i64 0) 1 8 Try.underlying42 hi hz0 hz1 hz2 rfl (by decide) _ (freeTo n zs k).length ((freeTo n zs k).map (Value.int .i64)) rfl (F2.out.own.alloc (.cells #[.int .i64 ((k : Int) + 1)] 3)) ⟨w2.heap.size, 0, none⟩ 1 1 [.int .i64 ((k : Int) + 1)] rfl rfl (cell_one _ _ _ rfl) (one_cell _ rfl) hml (by omega) (by simp; omega) ?_; intro v' w3 hown' hgrow hiff; have F3 := Lib.hid (F2.out.more hown' hgrow); clear hown' hgrow hiff)))
        go_roundw
        case rel => exact ⟨k + 1, by omega, by go_num, by rw [HE.out]; exact F3.out⟩
        case measure => simp [intOf]; omega
    · have hkn : n.toNat = k := by omega
      have HL : Hid (freeL n zs = freeTo n zs k) := by show freeL n zs = _; unfold freeL; rw [hkn]
      clear hkn
      obtain ⟨a, c, rfl, hla⟩ := list_of_owns HF.out.own
      have HA := Lib.hid hla
      clear hla
      go_wp2
      go_returns
      rw [HL.out]
      exact ⟨a, c, rfl, HA.out, HF.out.below⟩
end Go.Proofs.Ytglkpajnhdamkaa.life
