/- Bytes as they came in. -/
import Derived.Test.YtnphnhafifaaoaaM2
import Derived.Test.YtnphnhafifaaoaaL1
import Derived.Laws.AppendOwn
import Derived.Deep.AppendSrc
namespace Go.Proofs.Ytnphnhafifaaoaa.life
open Go.RowKit mem

/-- Bytes in memory, nil or not. -/
def BytesAt (w : World) (a : Option Addr) (xs : List Int) : Prop := ∀ i, i < xs.length → 0 ≤ xs.getD i 0 ∧ xs.getD i 0 < 256 ∧ ∃ b, a = some b ∧ w.cell? (b.add i) = some (.int .u8 (xs.getD i 0))
theorem BytesAt.later {w w' : World} {a : Option Addr} {xs : List Int} (h : BytesAt w a xs) (hb : Below w.heap.size w w') : BytesAt w' a xs := by
  intro i hi
  obtain ⟨h0, h1, b, hb1, hc⟩ := h i hi
  exact ⟨h0, h1, b, hb1, (hb.cell (World.block_lt_of_cell? w _ hc)).trans hc⟩
end Go.Proofs.Ytnphnhafifaaoaa.life
/- The list of the nodes that are free; whether a number is in a list. -/
namespace Go.Proofs.Ytnphnhafifaaoaa.life
open Go.RowKit mem

def intCells (L : List Int) : Array Value := (L.map (Value.int .i64)).toArray
theorem intCells_get (L : List Int) (i : Nat) (h : i < L.length) : (intCells L)[i]? = some (.int .i64 (L.getD i 0)) := by
  unfold intCells
  simp [List.getElem?_eq_getElem h]
/-- A row of numbers. -/
def IntRow (w : World) (g : Nat) (L : List Int) : Prop := ∃ ex, w.heap[g]? = some (.cells (intCells L ++ ex) 3 (0, 0))
theorem IntRow.cell {w : World} {g : Nat} {L : List Int} (h : IntRow w g L) {i : Nat} (hi : i < L.length) : w.cell? ⟨g, i, none⟩ = some (.int .i64 (L.getD i 0)) := by
  obtain ⟨ex, h⟩ := h
  rw [Joins.cell_of_block h, Array.getElem?_append_left (by simpa [intCells] using hi)]
  exact intCells_get L i hi
theorem IntRow.lt {w : World} {g : Nat} {L : List Int} (h : IntRow w g L) : g < w.heap.size := by
  obtain ⟨ex, h⟩ := h
  exact (Array.getElem?_eq_some_iff.1 h).1
theorem IntRow.moved {w w' : World} {g : Nat} {L : List Int} (h : IntRow w g L) (hb : w'.heap[g]? = w.heap[g]?) : IntRow w' g L := let ⟨ex, h⟩ := h; ⟨ex, hb.trans h⟩
/-- A list of numbers, in a block from lo on. -/
def ListAt (w : World) (lo : Nat) (a : Option Addr) (L : List Int) : Prop := (L = [] ∧ a = none) ∨ ∃ g, a = some ⟨g, 0, none⟩ ∧ lo ≤ g ∧ IntRow w g L
theorem ListAt.below {w w' : World} {lo : Nat} {a : Option Addr} {L : List Int} (h : ListAt w lo a L) (hb : Below w.heap.size w w') : ListAt w' lo a L := by
  rcases h with h | ⟨g, h1, h2, h3⟩
  · exact Or.inl h
  · exact Or.inr ⟨g, h1, h2, h3.moved (hb.block g h3.lt)⟩
theorem ListAt.cell {w : World} {lo : Nat} {a : Option Addr} {L : List Int} (h : ListAt w lo a L) {i : Nat} (hi : i < L.length) : ∃ g, a = some ⟨g, 0, none⟩ ∧ w.cell? ⟨g, i, none⟩ = some (.int .i64 (L.getD i 0)) := by
  rcases h with ⟨h, _⟩ | ⟨g, h1, _, h3⟩
  · subst h
    simp at hi
  · exact ⟨g, h1, h3.cell hi⟩
/-- What owns numbers is a list of them. -/
theorem list_of_owns {w : World} {base : Nat} {v : Value} {L : List Int} (h : w.ownsRow base 3 1 v L.length (L.map (Value.int .i64))) : ∃ a c, v = .slice a L.length c ∧ ListAt w base a L := by
  obtain ⟨hl, ⟨rfl, h0⟩ | ⟨g, cap, cur, rfl, hb, hg, hn, hc, hs, ht⟩⟩ := h
  · have : L = [] := List.eq_nil_of_length_eq_zero h0
    subst this
    exact ⟨none, 0, rfl, Or.inl ⟨rfl, rfl⟩⟩
  · refine ⟨_, cap, rfl, Or.inr ⟨g, rfl, hb, (cur.toList.drop (L.length * 1)).toArray, ?_⟩⟩
    rw [hg]
    congr 2
    unfold intCells
    rw [← ht]
    apply Array.ext'
    simp

set_option maxHeartbeats 1000000 in
theorem contains_any (w : World) (lo : Nat) (a : Option Addr) (L : List Int) (N cap : Nat) (x : Int) (hN : L.length = N) (hl : N ≤ 1000) (h : ListAt w lo a L) :
    Calls Try.prog 23 #[.slice a N cap, .int .i64 x] w fun e w' => e = .returned (.bool (decide (x ∈ L))) ∧ w = w' := by
  have H := Lib.hid h
  have HN := Lib.hid hN
  clear h hN
  go_enter Try.func23, Try.ntmps23
  go_wp2
  go_loopw [5] (fun i wr => ∃ k : Nat, k ≤ N ∧ i = .int .i64 k ∧ wr = w ∧ x ∉ L.take k) (fun i _ => N - (intOf i).toNat)
  case atStart => refine ⟨0, Nat.zero_le _, ?_, ?_, ?_⟩ <;> simp
  case round =>
    obtain ⟨k, hk, rfl, rfl, hx⟩ := hrel
    have HX := Lib.hid hx
    clear hx
    by_cases hlt : k < N
    · obtain ⟨g, rfl, hc⟩ := H.out.cell (i := k) (by rw [HN.out]; exact hlt)
      obtain ⟨y, hy⟩ : ∃ y, y = L.getD k 0 := ⟨_, rfl⟩
      rw [← hy] at hc
      have HY := Lib.hid hy
      clear hy
      by_cases he : y = x
      · subst he
        go_wp2
        go_returns
        refine ⟨ret_bool ?_, rfl⟩
        symm
        apply decide_eq_true
        rw [HY.out, List.getD_eq_getElem?_getD, List.getElem?_eq_getElem (by rw [HN.out]; exact hlt)]
        exact List.getElem_mem _
      · have hq : (y == x) = false := by simpa using he
        have HE := Lib.hid he
        clear he
        go_wp2
        go_roundw
        case rel =>
          refine ⟨k + 1, by omega, by go_num, by first | trivial | rfl, ?_⟩
          have hlt2 : k < L.length := by rw [HN.out]; exact hlt
          rw [List.take_succ_eq_append_getElem hlt2]
          intro hm
          rcases List.mem_append.1 hm with hm | hm
          · exact HX.out hm
          · apply HE.out
            rw [HY.out, List.getD_eq_getElem?_getD, List.getElem?_eq_getElem hlt2]
            exact (List.mem_singleton.1 hm).symm
        case measure => simp [intOf]; omega
    · have hkn : N = k := by omega
      subst hkn
      go_wp2
      go_returns
      refine ⟨ret_bool ?_, rfl⟩
      symm
      apply decide_eq_false
      have h := HX.out
      rwa [List.take_of_length_le (by rw [HN.out]; exact Nat.le_refl _)] at h

/-- The nodes that are free, up to the k-th one. -/
def freeTo (n : Int) (zs : List Int) : Nat → List Int
  | 0 => []
  | k + 1 => freeTo n zs k ++ (if takenB n zs ((k + 1 : Nat) : Int) = true then [] else [((k + 1 : Nat) : Int)])
theorem freeTo_length (n : Int) (zs : List Int) : ∀ k, (freeTo n zs k).length ≤ k
  | 0 => by simp [freeTo]
  | k + 1 => by
    have := freeTo_length n zs k
    unfold freeTo
    split <;> simp <;> omega
theorem mem_freeTo (n : Int) (zs : List Int) (x : Int) : ∀ k, x ∈ freeTo n zs k ↔ 1 ≤ x ∧ x ≤ k ∧ takenB n zs x = false
  | 0 => by simp [freeTo]; omega
  | k + 1 => by
    have ih := mem_freeTo n zs x k
    unfold freeTo
    by_cases hx : x = ((k + 1 : Nat) : Int)
    · subst hx
      by_cases ht : takenB n zs ((k + 1 : Nat) : Int) = true
      · rw [if_pos ht, List.append_nil, ih, ht]
        simp
      · rw [if_neg ht]
        simp at ht
        simp [ht]
        omega
    · have e : x ∈ (if takenB n zs ((k + 1 : Nat) : Int) = true then [] else [((k + 1 : Nat) : Int)]) ↔ False := by
        split
        · simp
        · simp only [List.mem_singleton, iff_false]; exact hx
      rw [List.mem_append, e, or_false, ih]
      constructor <;> rintro ⟨a, b, c⟩ <;> exact ⟨a, by omega, c⟩
/-- All of them. -/
def freeL (n : Int) (zs : List Int) : List Int := freeTo n zs n.toNat

/-- On the way to the list. -/
structure FreeSt (w wr : World) (b X Y : Nat) (t n : Int) (zs : List Int) (v : Value) (L : List Int) : Prop where
  lay : Box wr b (layCells t n) 28
  mem : MemS wr X Y t n zs
  own : wr.ownsRow (w.heap.size + 1) 3 1 v L.length (L.map (Value.int .i64))
  below : Below w.heap.size w wr
  b0 : b = w.heap.size
  x0 : X < w.heap.size
  y0 : Y < w.heap.size
theorem FreeSt.next {w wr w1 : World} {b X Y : Nat} {t n : Int} {zs : List Int} {v : Value} {L : List Int} (h : FreeSt w wr b X Y t n zs v L) (hb : Below wr.heap.size wr w1) : FreeSt w w1 b X Y t n zs v L := by
  refine ⟨h.lay.below hb, h.mem.below hb, ?_, past h.below hb, h.b0, h.x0, h.y0⟩
  obtain ⟨hl, ⟨rfl, h0⟩ | ⟨g, cap, cur, rfl, hb2, hg, hn, hc, hs, ht⟩⟩ := h.own
  · exact ⟨hl, Or.inl ⟨rfl, h0⟩⟩
  · exact ⟨hl, Or.inr ⟨g, cap, cur, rfl, hb2, (hb.block g (Array.getElem?_eq_some_iff.1 hg).1).trans hg, hn, hc, hs, ht⟩⟩
theorem FreeSt.more {w wr w1 : World} {b X Y : Nat} {t n x : Int} {zs : List Int} {v v' : Value} {L : List Int} {T : TypeId} (h : FreeSt w wr b X Y t n zs v L)
    (hown : w1.ownsRow (w.heap.size + 1) 3 1 v' (L.length + 1) (L.map (Value.int .i64) ++ [.int .i64 x]))
    (hg : (wr.alloc (.cells #[.int .i64 x] T)).grownBy w1 v.ownBlock) : FreeSt w w1 b X Y t n zs v' (L ++ [x]) := by
  have hlt := h.lay.lt
  have hb0 := h.b0
  have hne : ∀ c, c < w.heap.size + 1 → some c ≠ v.ownBlock := by
    intro c hc he
    rcases h.own.2 with ⟨rfl, _⟩ | ⟨g, cap, cur, rfl, hge, _⟩
    · cases he
    · obtain rfl : c = g := Option.some.inj he
      omega
  have hkeep : ∀ c, c < w.heap.size + 1 → w1.heap[c]? = wr.heap[c]? := fun c hc => by
    rw [hg.block c (by simp; omega) (hne c hc), Below.heap_alloc _ _ _ (by omega)]
  have x0 := h.x0
  have y0 := h.y0
  refine ⟨(hkeep b (by omega)).trans h.lay, h.mem.moved (hkeep X (by omega)) (hkeep Y (by omega)), ?_, ?_, hb0, x0, y0⟩
  · rw [List.length_append, List.map_append]
    exact hown
  · refine (h.below.alloc h.below.size _).grown hg (by have := h.below.size; simp; omega) ?_
    intro k hk
    rcases h.own.2 with ⟨rfl, _⟩ | ⟨g, cap, cur, rfl, hge, _⟩
    · cases hk
    · obtain rfl : g = k := Option.some.inj hk
      omega
theorem Tryinfo_int : (Try.prog.info? 3).map (fun i => (i.zero, i.size, i.bytes)) = some (some (.int .i64 0), 1, 8) := by kernel_rfl
theorem cell_one (w : World) (x : Value) (T : TypeId) {g : Nat} (hg : w.heap.size = g) : ∀ j u, [x][j]? = some u → (w.alloc (.cells #[x] T)).cell? ((⟨g, 0, none⟩ : Addr).add j) = some u := by
  intro j u hu
  have hj : j = 0 := by
    have := (List.getElem?_eq_some_iff.1 hu).1
    simpa using this
  subst hj
  have h := (new_block w #[x] T hg)
  rw [Addr.add_lit, Joins.cell_of_block h]
  simpa using hu
theorem one_cell (x : Value) (h : x.oneCell' = true) : ∀ u ∈ [x], u.oneCell' = true := by
  intro u hu
  obtain rfl := List.mem_singleton.1 hu
  exact h

/-- What comes back: a list. -/
def Listed (w : World) (L : List Int) (e : Ending) (w' : World) : Prop := ∃ a cap, e = .returned (.slice a L.length cap) ∧ ListAt w' (w.heap.size + 1) a L ∧ Below w.heap.size w w'
end Go.Proofs.Ytnphnhafifaaoaa.life
/- The memory that the laws make: of so many threads and nodes, with lives. -/
namespace Go.Proofs.Ytnphnhafifaaoaa.life
open Go.RowKit mem

/-- What the lives are. -/
def Lives (n : Int) (zs ws : List Int) : Prop := ∀ i : Nat, (i : Int) < n → lifeIn n zs ((i : Int) + 1) = ws.getD i 0
/-- A memory with these lives. -/
def MemIs (w : World) (t n : Int) (ws : List Int) (e : Ending) (w' : World) : Prop :=
  ∃ X Y zs, e = .returned (.tuple #[.pointer (some ⟨X, 0, none⟩), .agg #[.int .i64 t, .int .i64 n]]) ∧ NewS w t n zs X Y w' ∧ Sound t n zs ∧ Lives n zs ws

/-- On the way to it: k lives were stored. -/
structure MemSt (w wr : World) (X Y : Nat) (t n : Int) (ws : List Int) (k : Nat) (zs : List Int) : Prop where
  res : Box wr w.heap.size (layCells 0 0) 28
  lay : Box wr (w.heap.size + 1) (layCells t n) 28
  mem : MemS wr X Y t n zs
  below : Below w.heap.size w wr
  x0 : w.heap.size + 1 < X
  y0 : w.heap.size + 1 < Y
  sound : Sound t n zs
  done : ∀ i : Nat, (i : Int) < n → lifeIn n zs ((i : Int) + 1) = if i < k then ws.getD i 0 else 0
theorem MemSt.next {w wr w1 : World} {X Y : Nat} {t n : Int} {ws : List Int} {k : Nat} {zs : List Int} (h : MemSt w wr X Y t n ws k zs) (hb : Below wr.heap.size wr w1) : MemSt w w1 X Y t n ws k zs :=
  ⟨h.res.below hb, h.lay.below hb, h.mem.below hb, past h.below hb, h.x0, h.y0, h.sound, h.done⟩
theorem MemSt.put {w wr w1 : World} {X Y : Nat} {t n : Int} {ws : List Int} {k : Nat} {zs : List Int} (h : MemSt w wr X Y t n ws k zs) (hk : (k : Int) < n) (hx : 0 ≤ ws.getD k 0 ∧ ws.getD k 0 < 18446744073709551616)
    (hm : MemS w1 X Y t n (putLife n zs ((k : Int) + 1) (ws.getD k 0))) (ha : Apart X Y wr w1) : MemSt w w1 X Y t n ws (k + 1) (putLife n zs ((k : Int) + 1) (ws.getD k 0)) := by
  have x0 := h.x0
  have y0 := h.y0
  refine ⟨h.res.apart ha (by omega) (by omega), h.lay.apart ha (by omega) (by omega), hm, ha.below h.below h.below.size (by omega) (by omega), x0, y0, h.sound.put _ _ hx.1 hx.2, fun i hi => ?_⟩
  by_cases he : i = k
  · subst he
    rw [lifeIn_put_same h.sound (by omega) (by omega), if_pos (by omega)]
  · rw [lifeIn_put_other (by omega), h.done i hi]
    by_cases hlt : i < k
    · rw [if_pos hlt, if_pos (by omega)]
    · rw [if_neg hlt, if_neg (by omega)]
theorem MemSt.skip {w wr : World} {X Y : Nat} {t n : Int} {ws : List Int} {k : Nat} {zs : List Int} (h : MemSt w wr X Y t n ws k zs) (hk : n ≤ (k : Int)) : MemSt w wr X Y t n ws (k + 1) zs :=
  ⟨h.res, h.lay, h.mem, h.below, h.x0, h.y0, h.sound, fun i hi => by rw [h.done i hi, if_pos (by omega), if_pos (by omega)]⟩
theorem wordAt_zeros (z : Nat) (a : Int) : wordAt (padTo z []) a = 0 := by
  unfold wordAt
  split
  · unfold padTo
    rw [List.getD_eq_getElem?_getD, List.nil_append]
    simp only [List.getElem?_replicate]
    split <;> rfl
  · rfl
theorem sound_zeros {t n : Int} {z : Nat} (t0 : 1 ≤ t) (t1 : t ≤ 8) (n0 : 1 ≤ n) (n1 : n ≤ 200) (hz : (z : Int) = 2 * n + 6 + 5 * t) : Sound t n (padTo z []) :=
  ⟨t0, t1, n0, n1, by rw [padTo_length (by simp)]; exact hz, fun a => by rw [wordAt_zeros]; omega⟩
/-- The world where the new memory is asked for. -/
abbrev askW (w : World) (t n : Int) : World := (w.alloc (.cells (layCells 0 0) 28)).alloc (.cells (layCells t n) 28)
theorem MemSt.made {w w1 : World} {X Y : Nat} {t n : Int} {ws : List Int} {z : Nat} (hm : MadeAt (askW w t n) t n (padTo z []) X Y w1) (hs : Sound t n (padTo z [])) : MemSt w w1 X Y t n ws 0 (padTo z []) := by
  have hx := hm.x
  have hy := hm.y
  simp at hx hy
  refine ⟨((Box.new w _ _).alloc _).below hm.below, Box.below (by have := Box.new (w.alloc (.cells (layCells 0 0) 28)) (layCells t n) 28; simpa using this) hm.below, MemS.of hm.mem, past (((Below.refl _ _).alloc (Nat.le_refl _) _).alloc (by simp) _) hm.below, by omega, by omega, hs, fun i _ => ?_⟩
  rw [if_neg (by omega)]
  exact wordAt_zeros _ _

set_option maxHeartbeats 2000000 in
theorem memory_any (w : World) (t n : Int) (a : Option Addr) (ws : List Int) (N cap : Nat) (hN : ws.length = N) (hl : N ≤ 1000) (t0 : 1 ≤ t) (t1 : t ≤ 8) (n0 : 1 ≤ n) (n1 : n ≤ 200) (hw : Words w a ws) (hr : ∀ x ∈ ws, 0 ≤ x ∧ x < 18446744073709551616) :
    Calls Try.prog 8 #[.int .i64 t, .int .i64 n, .slice a N cap] w (MemIs w t n ws) := by
  obtain ⟨z, hz⟩ : ∃ z : Nat, (z : Int) = 2 * n + 6 + 5 * t := ⟨(2 * n + 6 + 5 * t).toNat, by omega⟩
  have HS0 := Lib.hid (sound_zeros t0 t1 n0 n1 hz)
  have HZ := Lib.hid hz
  have HW := Lib.hid hw
  have HN := Lib.hid hN
  have HRG := Lib.hid hr
  clear hw hN hz hr
  go_enter Try.func8, Try.ntmps8
  go_wp2_with (go_at_call 25; refine (new_ok _ t n none [] 0 0 z rfl t0 t1 n0 n1 HZ.out (by simp) (Words.none _)).mono ?_; rintro e w1 ⟨X, Y, rfl, hm⟩; have S0 : Hid (MemSt w w1 X Y t n ws 0 (padTo z [])) := Lib.hid (MemSt.made hm HS0.out); clear hm)
  go_loopw [26] (fun i wr => ∃ (k : Nat) (zs : List Int), k ≤ N ∧ i = .int .i64 k ∧ MemSt w wr X Y t n ws k zs) (fun i _ => N - (intOf i).toNat)
  case atStart => exact ⟨0, _, Nat.zero_le _, rfl, S0.out⟩
  case round =>
    clear S0
    obtain ⟨k, zs, hk, rfl, hst⟩ := hrel
    have HF := Lib.hid hst
    clear hst
    have d0 : wr.cell? ⟨w.heap.size + 1, 0, none⟩ = some (.int .i64 t) := HF.out.lay.at 0 rfl
    have d1 : wr.cell? ⟨w.heap.size + 1, 1, none⟩ = some (.int .i64 n) := HF.out.lay.at 1 rfl
    by_cases hlt : k < N
    · obtain ⟨b, rfl, hc⟩ := (HW.out.later HF.out.below) k (by rw [HN.out]; exact hlt)
      have hx := HRG.out (ws.getD k 0) (by rw [List.getD_eq_getElem?_getD, List.getElem?_eq_getElem (by rw [HN.out]; exact hlt)]; exact List.getElem_mem _)
      have HX := Lib.hid hx
      clear hx
      by_cases hkn : (k : Int) < n
      · obtain ⟨x, hxx⟩ : ∃ x, x = ws.getD k 0 := ⟨_, rfl⟩
        rw [← hxx] at hc
        have HXX := Lib.hid hxx
        clear hxx
        go_wp2_with (first
          | (go_at_call 15; refine (Life_any _ t n ((k : Int) + 1) (by omega) (by omega) (by omega) (by omega)).mono ?_; rintro e w2 ⟨rfl, hb2⟩; have F2 := Lib.hid (HF.out.next hb2); clear hb2)
          | (go_at_call 9; refine (Store_s F2.out.mem (n + 4 + ((k : Int) + 1)) x).mono ?_; rintro e w3 ⟨rfl, hm3, ha3⟩; rw [HXX.out] at hm3; have F3 := Lib.hid (F2.out.put hkn HX.out hm3 ha3); clear hm3 ha3))
        go_roundw
        case rel => exact ⟨k + 1, _, by omega, by go_num, F3.out⟩
        case measure => simp [intOf]; omega
      · go_wp2
        go_roundw
        case rel => exact ⟨k + 1, _, by omega, by go_num, HF.out.skip (by omega)⟩
        case measure => simp [intOf]; omega
    · have hkN : N = k := by omega
      subst hkN
      have r0 : wr.cell? ⟨w.heap.size, 0, none⟩ = some (.int .i64 0) := HF.out.res.at 0 rfl
      have r1 : wr.cell? ⟨w.heap.size, 1, none⟩ = some (.int .i64 0) := HF.out.res.at 1 rfl
      have fr := HF.out.res.free
      have hall : Hid (Lives n zs ws) := by
        intro i hi
        rw [HF.out.done i hi]
        split
        · rfl
        · rename_i h
          rw [List.getD_eq_getElem?_getD, List.getElem?_eq_none (by rw [HN.out]; omega)]
          rfl
      go_wp2
      go_region
      all_goals
        have x0 := HF.out.x0
        have y0 := HF.out.y0
        have hbox : Box ((wr.setCell ⟨w.heap.size, 0, none⟩ (.int .i64 t)).setCell ⟨w.heap.size, 1, none⟩ (.int .i64 n)).drew w.heap.size (layCells t n) 28 := ((HF.out.res.put 0 (.int .i64 t)).put 1 (.int .i64 n)).drew
        have hnew : NewS w t n zs X Y ((wr.setCell ⟨w.heap.size, 0, none⟩ (.int .i64 t)).setCell ⟨w.heap.size, 1, none⟩ (.int .i64 n)).drew := ⟨((HF.out.mem.other (by omega) (by omega) _ _).other (by omega) (by omega) _ _).drew, ((HF.out.below.setCell (Nat.le_refl _) _).setCell (Nat.le_refl _) _).drew, by omega, by omega⟩
        generalize ((wr.setCell ⟨w.heap.size, 0, none⟩ (.int .i64 t)).setCell ⟨w.heap.size, 1, none⟩ (.int .i64 n)).drew = u at *
        have q0 : u.cell? ⟨w.heap.size, 0, none⟩ = some (.int .i64 t) := hbox.at 0 rfl
        have q1 : u.cell? ⟨w.heap.size, 1, none⟩ = some (.int .i64 n) := hbox.at 1 rfl
        go_wp2
        refine bodyPost_ret (v := .tuple #[.pointer (some ⟨X, 0, none⟩), .agg #[.int .i64 t, .int .i64 n]]) (by simp [results, Try.results8, go_sem, q0, q1]) rfl ⟨X, Y, zs, rfl, hnew, HF.out.sound, hall.out⟩
end Go.Proofs.Ytnphnhafifaaoaa.life
/- What the laws' walks carry; the document's example. -/
namespace Go.Proofs.Ytnphnhafifaaoaa.life
open Go.RowKit mem

/-- A memory of the call's own, and its layout in a block. -/
structure Room (W w : World) (b X Y : Nat) (t n : Int) (zs : List Int) : Prop where
  lay : Box w b (layCells t n) 28
  mem : MemS w X Y t n zs
  below : Below W.heap.size W w
  b0 : W.heap.size ≤ b
  x0 : W.heap.size ≤ X
  y0 : W.heap.size ≤ Y
  bx : b ≠ X
  by' : b ≠ Y
section
variable {W w w' : World} {b X Y : Nat} {t n : Int} {zs ys : List Int}
theorem Room.next (h : Room W w b X Y t n zs) (hb : Below w.heap.size w w') : Room W w' b X Y t n zs := ⟨h.lay.below hb, h.mem.below hb, past h.below hb, h.b0, h.x0, h.y0, h.bx, h.by'⟩
theorem Room.alloc (h : Room W w b X Y t n zs) (o : Obj) : Room W (w.alloc o) b X Y t n zs := h.next ((Below.refl _ _).alloc (Nat.le_refl _) o)
theorem Room.drew (h : Room W w b X Y t n zs) : Room W w.drew b X Y t n zs := h.next ((Below.refl _ _).drew)
theorem Room.act (h : Room W w b X Y t n zs) (hm : MemS w' X Y t n ys) (ha : Apart X Y w w') : Room W w' b X Y t n ys :=
  ⟨h.lay.apart ha h.bx h.by', hm, ha.below h.below h.below.size h.x0 h.y0, h.b0, h.x0, h.y0, h.bx, h.by'⟩
theorem Room.lt (h : Room W w b X Y t n zs) : b < w.heap.size ∧ X < w.heap.size ∧ Y < w.heap.size ∧ W.heap.size ≤ w.heap.size := ⟨h.lay.lt, h.mem.ltX, h.mem.ltY, h.below.size⟩
/-- A new memory, its layout laid in a new block. -/
theorem Room.made {w1 w2 : World} (hW : Below W.heap.size W w1) (hn : NewS w1 t n zs X Y w2) : Room W (w2.alloc (.cells (layCells t n) 28)) w2.heap.size X Y t n zs := by
  have h1 := hW.size
  have h2 := hn.below.size
  have h3 := hn.x
  have h4 := hn.y
  have h5 := hn.mem.ltX
  have h6 := hn.mem.ltY
  exact ⟨Box.new _ _ _, hn.mem.alloc _, (past hW hn.below).alloc (by omega) _, by omega, by omega, by omega, by omega, by omega⟩
end

section
variable {w : World} {X Y C : Nat} {t n a : Int} {zs : List Int} {g : Nat} {lf most : Int}
end
theorem words_new (w : World) (x : Int) : Words (w.alloc (.cells #[.int .u64 x] 25)) (some ⟨w.heap.size, 0, none⟩) [x] := words_one _ _ x _ (Box.new w _ _)

theorem life_of {n : Int} {zs ws : List Int} (h : Lives n zs ws) (i : Int) (i0 : 1 ≤ i) (i1 : i ≤ n) : lifeIn n zs i = ws.getD (i - 1).toNat 0 := by
  have h := h (i - 1).toNat (by omega)
  rwa [show (((i - 1).toNat : Nat) : Int) + 1 = i by omega] at h
theorem taken_of {n : Int} {zs ws : List Int} (h : Lives n zs ws) (i : Int) (i0 : 1 ≤ i) (i1 : i ≤ n) : takenB n zs i = (ws.getD (i - 1).toNat 0 % 2 == 1) := by
  unfold takenB
  rw [life_of h i i0 i1]
end Go.Proofs.Ytnphnhafifaaoaa.life
