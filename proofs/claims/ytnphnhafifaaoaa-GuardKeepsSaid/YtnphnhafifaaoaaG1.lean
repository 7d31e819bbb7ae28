/- How many slots told a word: a map of the call's own; pure: what a list of words counts. -/
import Derived.Test.YtnphnhafifaaoaaMTake
import Derived.Maps.AppendAt
import Derived.Test.YtnphnhafifaaoaaL2
import Derived.Test.YtnphnhafifaaoaaLBack
import Derived.Lib.SliceRun
import Derived.Deep.Upon
namespace Go.Proofs.Ytnphnhafifaaoaa.guard
open Go.RowKit mem

theorem word_law : Maps.Keyed Try.prog 25 := Maps.int_keyed Try.underlying25
theorem word_wf {a : Int} (h0 : 0 ≤ a) (h1 : a < 18446744073709551616) : (Lit.int .u64 a).wf = true := by
  simp [Lit.wf, IntKind.min, IntKind.max, IntKind.signed, IntKind.bits]
  omega
theorem word_of {a : Int} (h0 : 0 ≤ a) (h1 : a < 18446744073709551616) : keyOf Try.prog 25 (.int .u64 a) = some (.int .u64 a) := Maps.keyOf_int_mk Try.underlying25 (word_wf h0 h1)
theorem zero_int (w : World) : (zeroValue 3).run Try.prog w = .ok (.int .i64 0) w := by kernel_rfl

/-- Block r is a map of how often each word was told. -/
def Cnt (w : World) (r : Nat) (ws : List Int) : Prop :=
  ∃ D : DataW Unit, w.ownsMap Try.prog 25 (plainElem Try.prog 3) r ws.length D ∧ Maps.IsMap D ∧ ∀ a : Int, D.atKey (.int .u64 a) (.lit (.int .i64 0)) = .lit (.int .i64 (ws.count a : Int))
theorem Cnt.lt {w : World} {r : Nat} {ws : List Int} (h : Cnt w r ws) : r < w.heap.size := by
  obtain ⟨D, h, _⟩ := h
  exact h.lt
theorem Cnt.moved {w w' : World} {r : Nat} {ws : List Int} (h : Cnt w r ws) (hb : w'.heap[r]? = w.heap[r]?) : Cnt w' r ws := by
  obtain ⟨D, ⟨es, clock, h1, h2, h3, h4⟩, hm, hd⟩ := h
  exact ⟨D, ⟨es, clock, hb.trans h1, h2, h3, h4⟩, hm, hd⟩
theorem Cnt.below {w w' : World} {r : Nat} {ws : List Int} (h : Cnt w r ws) (hb : Below w.heap.size w w') : Cnt w' r ws := h.moved (hb.block r h.lt)
/-- It is no block of cells. -/
theorem Cnt.unlike {w : World} {r b : Nat} {ws : List Int} {cs : Array Value} {T : TypeId} {f : Nat × Nat} (h : Cnt w r ws) (hb : w.heap[b]? = some (.cells cs T f)) : b ≠ r := by
  obtain ⟨D, ⟨es, clock, h1, h2, h3, h4⟩, hm, hd⟩ := h
  intro e
  subst e
  rw [hb] at h1
  cases h1
theorem Cnt.new (w : World) {r : Nat} (hr : w.heap.size = r) : Cnt (w.alloc (.map #[] 0)) r [] := by
  subst hr
  exact ⟨_, World.ownsMap_made w _ _ _, Maps.isMap_empty, fun _ => rfl⟩
/-- What is asked of it. -/
theorem Cnt.look {w : World} {r : Nat} {ws : List Int} (h : Cnt w r ws) {a : Int} (h0 : 0 ≤ a) (h1 : a < 18446744073709551616) :
    (Instr.lookup 46 (.map (some r)) (.int .u64 a) false).run Try.prog w = .ok (.int .i64 (ws.count a : Int)) w := by
  obtain ⟨D, ho, hm, hd⟩ := h
  obtain ⟨c, hrun, hc, hw⟩ := ho.lookup_int word_law Try.underlying46 Try.underlying3 (zero_int w) (word_of h0 h1)
  rw [hd a] at hc
  rw [hrun]
  simp at hc
  rw [hc]
/-- One more. -/
theorem Cnt.put {w : World} {r : Nat} {ws : List Int} (h : Cnt w r ws) (hc : ws.length ≤ 1000) {a : Int} (h0 : 0 ≤ a) (h1 : a < 18446744073709551616) :
    ∃ w', (Instr.mapUpdate 46 (.map (some r)) (.int .u64 a) (.int .i64 ((ws.count a : Int) + 1))).run Try.prog w = .ok () w' ∧ Cnt w' r (ws ++ [a]) ∧ w.grownBy w' (some r) := by
  obtain ⟨D, ho, hm, hd⟩ := h
  have hle := List.count_le_length (a := a) (l := ws)
  have hwf : (Lit.int .i64 ((ws.count a : Int) + 1)).wf = true := int_wf (by omega) (by omega)
  obtain ⟨w', hrun, ho', hg⟩ := ho.update word_law Try.underlying46 (by unfold maxLen; omega) (word_of h0 h1) (plainElem_int Try.underlying3 hwf)
  refine ⟨w', hrun, ⟨_, by rw [List.length_append]; exact ho', hm.put _ _, fun x => ?_⟩, hg⟩
  by_cases hx : x = a
  · subst hx
    rw [Maps.atKey_put_same hm (word_law.key (word_of h0 h1))]
    simp [List.count_append]
  · rw [Maps.atKey_put_other (by simpa using hx), hd x]
    have : List.count x [a] = 0 := by rw [List.count_eq_zero]; simpa using hx
    rw [List.count_append, this]
    rfl
/-- The map that is there, or none yet. -/
def Told (w : World) (lo : Nat) (v : Value) (ws : List Int) : Prop := (v = .map none ∧ ws = []) ∨ ∃ r, v = .map (some r) ∧ lo ≤ r ∧ Cnt w r ws
theorem Told.below {w w' : World} {lo : Nat} {v : Value} {ws : List Int} (h : Told w lo v ws) (hb : Below w.heap.size w w') : Told w' lo v ws := by
  rcases h with h | ⟨r, h1, h2, h3⟩
  · exact Or.inl h
  · exact Or.inr ⟨r, h1, h2, h3.below hb⟩
end Go.Proofs.Ytnphnhafifaaoaa.guard
/- How many slots there are, where they are, how many steps a scan has; whether a node is guarded. -/
namespace Go.Proofs.Ytnphnhafifaaoaa.guard
open Go.RowKit mem life

/-- Where the k-th slot is, those of all threads numbered one behind the other. -/
def slotA (n k : Int) : Int := 2 * n + 5 + k
/-- What it has. -/
def slotW (n : Int) (zs : List Int) (k : Int) : Int := wordAt zs (slotA n k)
/-- What the first k slots have. -/
def slotsTo (n : Int) (zs : List Int) : Nat → List Int
  | 0 => []
  | k + 1 => slotsTo n zs k ++ [slotW n zs (k : Int)]
theorem slotsTo_length (n : Int) (zs : List Int) : ∀ k, (slotsTo n zs k).length = k
  | 0 => rfl
  | k + 1 => by rw [slotsTo, List.length_append, slotsTo_length n zs k]; rfl
theorem mem_slotsTo (n : Int) (zs : List Int) (x : Int) : ∀ k, x ∈ slotsTo n zs k ↔ ∃ i : Nat, i < k ∧ slotW n zs i = x
  | 0 => by simp [slotsTo]
  | k + 1 => by
    rw [slotsTo, List.mem_append, mem_slotsTo n zs x k, List.mem_singleton]
    constructor
    · rintro (⟨i, hi, he⟩ | he)
      · exact ⟨i, by omega, he⟩
      · exact ⟨k, by omega, he.symm⟩
    · rintro ⟨i, hi, he⟩
      by_cases hk : i = k
      · subst hk
        exact Or.inr he.symm
      · exact Or.inl ⟨i, by omega, he⟩
theorem slotsTo_getD (n : Int) (zs : List Int) : ∀ (k i : Nat), i < k → (slotsTo n zs k).getD i 0 = slotW n zs i
  | 0, i, h => by omega
  | k + 1, i, h => by
    rw [slotsTo, List.getD_eq_getElem?_getD]
    by_cases hk : i < k
    · rw [List.getElem?_append_left (by rw [slotsTo_length]; exact hk), ← List.getD_eq_getElem?_getD]
      exact slotsTo_getD n zs k i hk
    · obtain rfl : i = k := by omega
      rw [List.getElem?_append_right (by rw [slotsTo_length]; omega), slotsTo_length]
      simp

section
variable {w : World} {X Y : Nat} {t n : Int} {zs : List Int}
set_option maxHeartbeats 1000000 in
theorem Steps_any (w : World) (t n f : Int) (t0 : 0 ≤ t) (t1 : t ≤ 1000) (f0 : 0 ≤ f) (f1 : f ≤ 100000) :
    Calls Try.prog 18 #[.agg #[.int .i64 t, .int .i64 n], .int .i64 f] w fun e w' => e = .returned (.int .i64 (2 * t + f)) ∧ Below w.heap.size w w' := by
  have q0 : max t 0 = t := by omega
  have q1 : max f 0 = f := by omega
  go_enter Try.func18, Try.ntmps18
  go_wp2
  go_returns
  exact ⟨rfl, by go_grown⟩
set_option maxHeartbeats 1000000 in
theorem slots_yes (w : World) (hs : Sound t n zs) :
    Calls Try.prog 30 #[.agg #[.int .i64 t, .int .i64 n]] w fun e w' => e = .returned (.int .i64 (2 * t)) ∧ Below w.heap.size w w' := by
  have HR := Lib.hid (rightB_yes ⟨hs.t0, hs.t1, hs.n0, hs.n1⟩)
  have t0 := hs.t0
  have t1 := hs.t1
  have B0 : Hid (Box (w.alloc (.cells #[.int .i64 t, .int .i64 n] 28)) w.heap.size #[.int .i64 t, .int .i64 n] 28 ∧ Below w.heap.size w (w.alloc (.cells #[.int .i64 t, .int .i64 n] 28))) := Lib.hid ⟨Box.new _ _ _, (Below.refl _ _).alloc (Nat.le_refl _) _⟩
  clear hs
  go_enter Try.func30, Try.ntmps30
  go_wp2_with (first
    | (go_at_call 46; refine (Right_any _ t n).mono ?_; rintro e w1 ⟨rfl, hb1⟩; rw [HR.out]; have T := Lib.hid (And.intro (B0.out.1.below hb1) (past B0.out.2 hb1)); clear hb1 B0; have B0 := T; clear T; have d0 := B0.out.1.at 0 rfl; have d1 := B0.out.1.at 1 rfl)
    | (go_at_call 18; refine (Steps_any _ t n 0 (by omega) (by omega) (by omega) (by omega)).mono ?_; rintro e w2 ⟨rfl, hb1⟩; have B1 := Lib.hid (past B0.out.2 hb1); clear hb1))
  go_returns
  exact ⟨ret_int (by omega), B1.out⟩
set_option maxHeartbeats 1000000 in
theorem slotAt_any (w : World) (t n k : Int) (n0 : 0 ≤ n) (n1 : n ≤ 300) (k0 : 0 ≤ k) (k1 : k ≤ 1000) :
    Calls Try.prog 32 #[.agg #[.int .i64 t, .int .i64 n], .int .i64 k] w fun e w' => e = .returned (.int .i64 (slotA n k)) ∧ Below w.heap.size w w' := by
  go_enter Try.func32, Try.ntmps32
  go_wp2_with (go_at_call 10; refine (Slot_any _ t n (k / 2) (k % 2) n0 n1 (by omega) (by omega) (by omega) (by omega)).mono ?_; rintro e w1 ⟨rfl, hb1⟩)
  go_returns
  exact ⟨ret_int (by unfold slotA; omega), past1 hb1⟩

/-- Is a node in a slot? -/
def guardedB (t n : Int) (zs : List Int) (i : Int) : Bool := decide (1 ≤ i ∧ i ∈ slotsTo n zs (2 * t).toNat)

set_option maxHeartbeats 1000000 in
theorem Guarded_none (w : World) (X : Nat) (t n i : Int) (hi : i ≤ 0) :
    Calls Try.prog 13 #[.pointer (some ⟨X, 0, none⟩), .agg #[.int .i64 t, .int .i64 n], .int .i64 i] w fun e w' => e = .returned (.bool false) ∧ Below w.heap.size w w' := by
  go_enter Try.func13, Try.ntmps13
  go_wp2
  go_returns
  exact ⟨rfl, by go_grown⟩
/-- On the way. -/
structure GuSt (W w : World) (X Y : Nat) (t n : Int) (zs : List Int) : Prop where
  lay : Box w W.heap.size (layCells t n) 28
  mem : MemS w X Y t n zs
  below : Below W.heap.size W w
theorem GuSt.next {W w w1 : World} {X Y : Nat} {t n : Int} {zs : List Int} (h : GuSt W w X Y t n zs) (hb : Below w.heap.size w w1) : GuSt W w1 X Y t n zs := ⟨h.lay.below hb, h.mem.below hb, past h.below hb⟩
theorem wrap_node {i : Int} (i0 : 1 ≤ i) (i1 : i ≤ 1000) : IntKind.u64.wrap i = i := by
  rw [IntKind.wrap_u64]
  omega
set_option maxHeartbeats 2000000 in
theorem Guarded_any (hs : Sound t n zs) (hm : MemS w X Y t n zs) (i : Int) (i0 : 1 ≤ i) (i1 : i ≤ 1000) :
    Calls Try.prog 13 #[.pointer (some ⟨X, 0, none⟩), .agg #[.int .i64 t, .int .i64 n], .int .i64 i] w fun e w' => e = .returned (.bool (guardedB t n zs i)) ∧ Below w.heap.size w w' := by
  have HS := Lib.hid hs
  have G0 : Hid (GuSt w (w.alloc (.cells #[.int .i64 t, .int .i64 n] 28)) X Y t n zs) := Lib.hid ⟨Box.new _ _ _, hm.alloc _, (Below.refl _ _).alloc (Nat.le_refl _) _⟩
  have t0 := hs.t0
  have t1 := hs.t1
  have n0 := hs.n0
  have n1 := hs.n1
  have hwr := wrap_node i0 i1
  clear hs hm
  go_enter Try.func13, Try.ntmps13
  go_wp2_with (go_at_call 30; refine (slots_yes _ HS.out).mono ?_; rintro e w1 ⟨rfl, hb1⟩; have G1 := Lib.hid (G0.out.next hb1); clear hb1)
  clear G0
  go_loopw [12] (fun c wr => ∃ k : Nat, (k : Int) ≤ 2 * t ∧ c = .int .i64 k ∧ GuSt w wr X Y t n zs ∧ i ∉ slotsTo n zs k) (fun c _ => (2 * t).toNat - (intOf c).toNat)
  case atStart => exact ⟨0, by omega, rfl, G1.out, by simp [slotsTo]⟩
  case round =>
    clear G1
    obtain ⟨k, hk, rfl, hg, hx⟩ := hrel
    have HG := Lib.hid hg
    have HX := Lib.hid hx
    clear hg hx
    have d0 : wr.cell? ⟨w.heap.size, 0, none⟩ = some (.int .i64 t) := HG.out.lay.at 0 rfl
    have d1 : wr.cell? ⟨w.heap.size, 1, none⟩ = some (.int .i64 n) := HG.out.lay.at 1 rfl
    by_cases hlt : (k : Int) < 2 * t
    · obtain ⟨z, hz⟩ : ∃ z, z = slotW n zs k := ⟨_, rfl⟩
      have HZ := Lib.hid hz
      clear hz
      by_cases he : z = i
      · subst he
        have hq : (z == IntKind.u64.wrap z) = true := by rw [hwr]; simp
        go_wp2_with (first
          | (go_at_call 32; refine (slotAt_any _ t n k (by omega) (by omega) (by omega) (by omega)).mono ?_; rintro e w2 ⟨rfl, hb2⟩; have G2 := Lib.hid (HG.out.next hb2); clear hb2)
          | (go_at_call 31; refine (Peek_s G2.out.mem (slotA n k) z HZ.out.symm).mono ?_; rintro e w3 ⟨rfl, rfl⟩))
        go_returns
        refine ⟨ret_bool ?_, G2.out.below⟩
        symm
        apply decide_eq_true
        exact ⟨i0, (mem_slotsTo _ _ _ _).2 ⟨k, by omega, HZ.out.symm⟩⟩
      · have hq : (z == IntKind.u64.wrap i) = false := by rw [hwr]; simpa using he
        have HE := Lib.hid he
        clear he
        go_wp2_with (first
          | (go_at_call 32; refine (slotAt_any _ t n k (by omega) (by omega) (by omega) (by omega)).mono ?_; rintro e w2 ⟨rfl, hb2⟩; have G2 := Lib.hid (HG.out.next hb2); clear hb2)
          | (go_at_call 31; refine (Peek_s G2.out.mem (slotA n k) z HZ.out.symm).mono ?_; rintro e w3 ⟨rfl, rfl⟩))
        go_roundw
        case rel =>
          refine ⟨k + 1, by omega, by go_num, G2.out, ?_⟩
          rw [slotsTo, List.mem_append, List.mem_singleton, ← HZ.out]
          rintro (h | h)
          · exact HX.out h
          · exact HE.out h.symm
        case measure => simp [intOf]; omega
    · have hkk : (k : Int) = 2 * t := by omega
      have HK := Lib.hid hkk
      clear hkk
      go_wp2
      go_returns
      refine ⟨ret_bool ?_, HG.out.below⟩
      symm
      apply decide_eq_false
      rintro ⟨_, h⟩
      apply HX.out
      rwa [show (2 * t).toNat = k by have := HK.out; omega] at h
end
end Go.Proofs.Ytnphnhafifaaoaa.guard
/- Whether a slot told a node; what is left of a list without those that slots told. -/
namespace Go.Proofs.Ytnphnhafifaaoaa.guard
open Go.RowKit mem life

/-- The list without those that a slot told. -/
def untold (ws L : List Int) : List Int := L.filter (fun x => decide (x ∉ ws))
/-- Those of the list that a slot told. -/
def told (ws L : List Int) : List Int := L.filter (fun x => decide (x ∈ ws))

/-- What the machine at block C is told: its map. -/
structure Asks (w : World) (C r : Nat) (ws : List Int) : Prop where
  cell : w.cell? ⟨C, 6, none⟩ = some (.map (some r))
  map : Cnt w r ws
theorem Asks.apart {w w' : World} {C r g : Nat} {ws : List Int} (h : Asks w C r ws) (ha : Apart g g w w') (hc : C ≠ g) (hr : r ≠ g) : Asks w' C r ws :=
  ⟨(ha.cell (World.block_lt_of_cell? w _ h.cell) hc hc).trans h.cell, h.map.moved (ha.block r h.map.lt hr hr)⟩
theorem Asks.below {w w' : World} {C r : Nat} {ws : List Int} (h : Asks w C r ws) (hb : Below w.heap.size w w') : Asks w' C r ws :=
  ⟨(hb.cell (World.block_lt_of_cell? w _ h.cell)).trans h.cell, h.map.below hb⟩
set_option maxHeartbeats 1000000 in
theorem wasTold_any (w : World) (C r : Nat) (ws : List Int) (x : Int) (h : Asks w C r ws) (x0 : 0 ≤ x) (x1 : x ≤ 1000) :
    Calls Try.prog 53 #[.pointer (some ⟨C, 0, none⟩), .int .i64 x] w fun e w' => e = .returned (.bool (decide (x ∈ ws))) ∧ w = w' := by
  have hc := h.cell
  have hrun := h.map.look (a := x) x0 (by omega)
  have hwr : IntKind.u64.wrap x = x := by rw [IntKind.wrap_u64]; omega
  have hd : decide (x ∈ ws) = decide ((0 : Int) < (ws.count x : Int)) := by
    have := List.count_pos_iff (a := x) (l := ws)
    by_cases hm : x ∈ ws
    · rw [decide_eq_true hm, decide_eq_true (by have := this.2 hm; omega)]
    · rw [decide_eq_false hm, decide_eq_false (by intro h; exact hm (this.1 (by omega)))]
  rw [hd]
  generalize (ws.count x : Int) = c at *
  clear hd h
  go_enter Try.func53, Try.ntmps53
  go_wp2
  go_returns
  exact ⟨rfl, rfl⟩

set_option maxHeartbeats 2000000 in
theorem index_any (w : World) (C r g N cap : Nat) (ws L : List Int) (h : Asks w C r ws) (hrow : IntRow w g L) (hN : L.length = N) (hl : N ≤ 1000) (hL : ∀ x ∈ L, 0 ≤ x ∧ x ≤ 1000) :
    Calls Try.prog 58 #[.slice (some ⟨g, 0, none⟩) N cap, .func (.func 53) #[.pointer (some ⟨C, 0, none⟩)] #[]] w fun e w' =>
      w = w' ∧ ((e = .returned (.int .i64 (-1)) ∧ ∀ x ∈ L, x ∉ ws) ∨ ∃ k : Nat, k < N ∧ e = .returned (.int .i64 k) ∧ L.getD k 0 ∈ ws ∧ ∀ x ∈ L.take k, x ∉ ws) := by
  have HA := Lib.hid h
  have HR := Lib.hid hrow
  have HN := Lib.hid hN
  have HL := Lib.hid hL
  clear h hrow hN hL
  go_enter Try.func58, Try.ntmps58
  go_wp2
  go_loopw [8] (fun i wr => ∃ k : Nat, k ≤ N ∧ i = .int .i64 k ∧ wr = w ∧ ∀ x ∈ L.take k, x ∉ ws) (fun i _ => N - (intOf i).toNat)
  case atStart => exact ⟨0, Nat.zero_le _, rfl, rfl, by simp⟩
  case round =>
    obtain ⟨k, hk, rfl, rfl, hx⟩ := hrel
    have HX := Lib.hid hx
    clear hx
    by_cases hlt : k < N
    · have hc := HR.out.cell (i := k) (by rw [HN.out]; exact hlt)
      obtain ⟨y, hy⟩ : ∃ y, y = L.getD k 0 := ⟨_, rfl⟩
      have hyb : 0 ≤ y ∧ y ≤ 1000 := by rw [hy]; apply HL.out; rw [List.getD_eq_getElem?_getD, List.getElem?_eq_getElem (by rw [HN.out]; exact hlt)]; exact List.getElem_mem _
      rw [← hy] at hc
      have HY := Lib.hid hy
      clear hy
      obtain ⟨y0, y1⟩ := hyb
      by_cases he : y ∈ ws
      · have hq : decide (y ∈ ws) = true := decide_eq_true he
        have HE := Lib.hid he
        clear he
        go_wp2_with (go_at_call 53; refine (wasTold_any _ C r ws y HA.out y0 y1).mono ?_; rintro e w1 ⟨rfl, rfl⟩; rw [hq])
        go_returns
        exact ⟨rfl, Or.inr ⟨k, hlt, rfl, by rw [← HY.out]; exact HE.out, HX.out⟩⟩
      · have hq : decide (y ∈ ws) = false := decide_eq_false he
        have HE := Lib.hid he
        clear he
        go_wp2_with (go_at_call 53; refine (wasTold_any _ C r ws y HA.out y0 y1).mono ?_; rintro e w1 ⟨rfl, rfl⟩; rw [hq])
        go_roundw
        case rel =>
          refine ⟨k + 1, by omega, by go_num, by first | trivial | rfl, ?_⟩
          have hlt2 : k < L.length := by rw [HN.out]; exact hlt
          rw [List.take_succ_eq_append_getElem hlt2]
          intro x hm
          rcases List.mem_append.1 hm with hm | hm
          · exact HX.out x hm
          · have e1 := List.mem_singleton.1 hm
            have e2 := HY.out
            rw [List.getD_eq_getElem?_getD, List.getElem?_eq_getElem hlt2] at e2
            rw [e1, show L[k] = y from e2.symm]
            exact HE.out
        case measure => simp [intOf]; omega
    · have hkn : N = k := by omega
      subst hkn
      go_wp2
      go_returns
      refine ⟨rfl, Or.inl ⟨rfl, ?_⟩⟩
      have h := HX.out
      rwa [List.take_of_length_le (by rw [HN.out]; exact Nat.le_refl _)] at h
end Go.Proofs.Ytnphnhafifaaoaa.guard
