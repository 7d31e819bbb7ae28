/- A new machine that takes a node; whether a node is taken; a list of numbers; whether a number is in one. -/
import Derived.Test.YtglkpajnhdamkaaLAlone
namespace Go.Proofs.Ytglkpajnhdamkaa.life
open Go.RowKit mem

/-- Where a machine begins. -/
def startAt (n from' : Int) : Int := if 1 ≤ from' ∧ from' ≤ n then from' else 1
theorem startAt_in {n from' : Int} (h : 1 ≤ n) : 1 ≤ startAt n from' ∧ startAt n from' ≤ n := by
  unfold startAt
  split <;> omega
/-- A new machine. -/
structure NewAl (w : World) (C : Nat) (t n : Int) (a : Al) (w' : World) : Prop where
  box : Box w' C (alCells t n a) 39
  below : Below w.heap.size w w'
  c : w.heap.size ≤ C
set_option maxHeartbeats 1000000 in
theorem new_in (w : World) (t n from' : Int) (t0 : 1 ≤ t) (t1 : t ≤ 8) (n0 : 1 ≤ n) (n1 : n ≤ 200) (f0 : 1 ≤ from') (f1 : from' ≤ n) :
    Calls Try.prog 12 #[.agg #[.int .i64 t, .int .i64 n], .int .i64 from'] w fun e w' => ∃ C, e = .returned (.pointer (some ⟨C, 0, none⟩)) ∧ NewAl w C t n ⟨0, from', n, false, 0⟩ w' := by
  have HR := Lib.hid (rightB_yes ⟨t0, t1, n0, n1⟩)
  have HN : Hid (nodeB n from' = true) := by unfold Hid nodeB; simp; omega
  have B0 : Hid (NewAl w (w.heap.size + 1) t n ⟨0, from', 0, false, 0⟩ ((w.alloc (.cells #[.int .i64 t, .int .i64 n] 26)).alloc (.cells (alCells t n ⟨0, from', 0, false, 0⟩) 39))) :=
    Lib.hid ⟨by have := Box.new (w.alloc (.cells #[.int .i64 t, .int .i64 n] 26)) (alCells t n ⟨0, from', 0, false, 0⟩) 39; simpa using this, ((Below.refl _ _).alloc (Nat.le_refl _) _).alloc (by simp) _, by omega⟩
  go_enter Try.func12, Try.ntmps12
  go_wp2_with (first
    | (go_at_call 27; refine (Node_any _ t n from').mono ?_; rintro e w1 ⟨rfl, hb1⟩; rw [HN.out]; have B1 : Hid (NewAl w (w.heap.size + 1) t n ⟨0, from', 0, false, 0⟩ w1) := Lib.hid ⟨B0.out.box.below hb1, past B0.out.below hb1, B0.out.c⟩; clear hb1; obtain ⟨d0, d1, d2, d3, d4, d5, d6, f1⟩ := row7 B1.out.box)
    | (go_at_call 28; refine (Right_any _ t n).mono ?_; rintro e w2 ⟨rfl, hb2⟩; rw [HR.out]; have B2 : Hid (NewAl w (w.heap.size + 1) t n ⟨0, from', 0, false, 0⟩ w2) := Lib.hid ⟨B1.out.box.below hb2, past B1.out.below hb2, B1.out.c⟩; clear hb2; obtain ⟨e0, e1, e2, e3, e4, e5, e6, f2⟩ := row7 B2.out.box))
  go_returns
  exact ⟨_, rfl, B2.out.box.put 4 _, B2.out.below.setCell (by simp) _, B2.out.c⟩
set_option maxHeartbeats 1000000 in
theorem new_out (w : World) (t n from' : Int) (t0 : 1 ≤ t) (t1 : t ≤ 8) (n0 : 1 ≤ n) (n1 : n ≤ 200) (hf : ¬ (1 ≤ from' ∧ from' ≤ n)) :
    Calls Try.prog 12 #[.agg #[.int .i64 t, .int .i64 n], .int .i64 from'] w fun e w' => ∃ C, e = .returned (.pointer (some ⟨C, 0, none⟩)) ∧ NewAl w C t n ⟨0, 1, n, false, 0⟩ w' := by
  have HR := Lib.hid (rightB_yes ⟨t0, t1, n0, n1⟩)
  have HN : Hid (nodeB n from' = false) := by unfold Hid nodeB; simpa using hf
  have B0 : Hid (NewAl w (w.heap.size + 1) t n ⟨0, from', 0, false, 0⟩ ((w.alloc (.cells #[.int .i64 t, .int .i64 n] 26)).alloc (.cells (alCells t n ⟨0, from', 0, false, 0⟩) 39))) :=
    Lib.hid ⟨by have := Box.new (w.alloc (.cells #[.int .i64 t, .int .i64 n] 26)) (alCells t n ⟨0, from', 0, false, 0⟩) 39; simpa using this, ((Below.refl _ _).alloc (Nat.le_refl _) _).alloc (by simp) _, by omega⟩
  clear hf
  go_enter Try.func12, Try.ntmps12
  go_wp2_with (first
    | (go_at_call 27; refine (Node_any _ t n from').mono ?_; rintro e w1 ⟨rfl, hb1⟩; rw [HN.out]; have B1 : Hid (NewAl w (w.heap.size + 1) t n ⟨0, from', 0, false, 0⟩ w1) := Lib.hid ⟨B0.out.box.below hb1, past B0.out.below hb1, B0.out.c⟩; clear hb1; obtain ⟨d0, d1, d2, d3, d4, d5, d6, f1⟩ := row7 B1.out.box)
    | (go_at_call 28; refine (Right_any _ t n).mono ?_; rintro e w2 ⟨rfl, hb2⟩; rw [HR.out]; have B2 : Hid (NewAl w (w.heap.size + 1) t n ⟨0, 1, 0, false, 0⟩ w2) := Lib.hid ⟨Box.below (B1.out.box.put 3 _) hb2, past (B1.out.below.setCell (by simp) _) hb2, B1.out.c⟩; clear hb2; obtain ⟨e0, e1, e2, e3, e4, e5, e6, f2⟩ := row7 B2.out.box))
  go_returns
  exact ⟨_, rfl, B2.out.box.put 4 _, B2.out.below.setCell (by simp) _, B2.out.c⟩
theorem new_any (w : World) (t n from' : Int) (t0 : 1 ≤ t) (t1 : t ≤ 8) (n0 : 1 ≤ n) (n1 : n ≤ 200) :
    Calls Try.prog 12 #[.agg #[.int .i64 t, .int .i64 n], .int .i64 from'] w fun e w' => ∃ C, e = .returned (.pointer (some ⟨C, 0, none⟩)) ∧ NewAl w C t n ⟨0, startAt n from', n, false, 0⟩ w' := by
  unfold startAt
  by_cases hf : 1 ≤ from' ∧ from' ≤ n
  · rw [if_pos hf]
    exact new_in w t n from' t0 t1 n0 n1 hf.1 hf.2
  · rw [if_neg hf]
    exact new_out w t n from' t0 t1 n0 n1 hf

section
variable {w : World} {X Y : Nat} {t n : Int} {zs : List Int}
set_option maxHeartbeats 1000000 in
theorem lifeOf_in (hs : Sound t n zs) (i : Int) (i0 : 1 ≤ i) (i1 : i ≤ n) :
    Calls Try.prog 37 #[.agg #[.int .i64 t, .int .i64 n], .int .i64 i] w fun e w' => e = .returned (.int .i64 (n + 4 + i)) ∧ Below w.heap.size w w' := by
  have HR := Lib.hid (rightB_yes ⟨hs.t0, hs.t1, hs.n0, hs.n1⟩)
  have HN : Hid (nodeB n i = true) := by unfold Hid nodeB; simp; omega
  have n0 := hs.n0
  have n1 := hs.n1
  have B0 : Hid (Box (w.alloc (.cells #[.int .i64 t, .int .i64 n] 26)) w.heap.size #[.int .i64 t, .int .i64 n] 26 ∧ Below w.heap.size w (w.alloc (.cells #[.int .i64 t, .int .i64 n] 26))) := Lib.hid ⟨Box.new _ _ _, (Below.refl _ _).alloc (Nat.le_refl _) _⟩
  clear hs
  go_enter Try.func37, Try.ntmps37
  go_wp2_with (first
    | (go_at_call 28; refine (Right_any _ t n).mono ?_; rintro e w1 ⟨rfl, hb1⟩; rw [HR.out]; have T := Lib.hid (And.intro (B0.out.1.below hb1) (past B0.out.2 hb1)); clear hb1 B0; have B0 := T; clear T; have d0 := B0.out.1.at 0 rfl; have d1 := B0.out.1.at 1 rfl)
    | (go_at_call 27; refine (Node_any _ t n i).mono ?_; rintro e w2 ⟨rfl, hb1⟩; rw [HN.out]; have T := Lib.hid (And.intro (B0.out.1.below hb1) (past B0.out.2 hb1)); clear hb1 B0; have B0 := T; clear T; have e0 := B0.out.1.at 0 rfl; have e1 := B0.out.1.at 1 rfl)
    | (go_at_call 11; refine (Life_any _ t n i (by omega) (by omega) (by omega) (by omega)).mono ?_; rintro e w3 ⟨rfl, hb1⟩; have T := Lib.hid (past B0.out.2 hb1); clear hb1 B0; have B0 := T; clear T))
  go_returns
  exact ⟨rfl, B0.out⟩
set_option maxHeartbeats 1000000 in
theorem lifeOf_out (hs : Sound t n zs) (i : Int) (hi : ¬ (1 ≤ i ∧ i ≤ n)) :
    Calls Try.prog 37 #[.agg #[.int .i64 t, .int .i64 n], .int .i64 i] w fun e w' => e = .returned (.int .i64 (-1)) ∧ Below w.heap.size w w' := by
  have HR := Lib.hid (rightB_yes ⟨hs.t0, hs.t1, hs.n0, hs.n1⟩)
  have HN : Hid (nodeB n i = false) := by unfold Hid nodeB; simpa using hi
  have B0 : Hid (Box (w.alloc (.cells #[.int .i64 t, .int .i64 n] 26)) w.heap.size #[.int .i64 t, .int .i64 n] 26 ∧ Below w.heap.size w (w.alloc (.cells #[.int .i64 t, .int .i64 n] 26))) := Lib.hid ⟨Box.new _ _ _, (Below.refl _ _).alloc (Nat.le_refl _) _⟩
  clear hs hi
  go_enter Try.func37, Try.ntmps37
  go_wp2_with (first
    | (go_at_call 28; refine (Right_any _ t n).mono ?_; rintro e w1 ⟨rfl, hb1⟩; rw [HR.out]; have T := Lib.hid (And.intro (B0.out.1.below hb1) (past B0.out.2 hb1)); clear hb1 B0; have B0 := T; clear T; have d0 := B0.out.1.at 0 rfl; have d1 := B0.out.1.at 1 rfl)
    | (go_at_call 27; refine (Node_any _ t n i).mono ?_; rintro e w2 ⟨rfl, hb1⟩; rw [HN.out]; have T := Lib.hid (past B0.out.2 hb1); clear hb1 B0; have B0 := T; clear T))
  go_returns
  exact ⟨rfl, B0.out⟩
theorem past2 {w w1 : World} {o : Obj} (hb : Below (w.alloc o).heap.size (w.alloc o) w1) : Below w.heap.size w w1 := past1 hb
set_option maxHeartbeats 1000000 in
theorem taken_in (hs : Sound t n zs) (hm : MemS w X Y t n zs) (i : Int) (i0 : 1 ≤ i) (i1 : i ≤ n) :
    Calls Try.prog 20 #[.pointer (some ⟨X, 0, none⟩), .agg #[.int .i64 t, .int .i64 n], .int .i64 i] w fun e w' => e = .returned (.bool (takenB n zs i)) ∧ Below w.heap.size w w' := by
  have HS := Lib.hid hs
  have HM := Lib.hid hm
  obtain ⟨z, hz⟩ : ∃ z, z = lifeIn n zs i := ⟨_, rfl⟩
  have z0 : 0 ≤ z := by rw [hz]; exact (hs.word _).1
  have HZ := Lib.hid hz
  have HT : Hid (takenB n zs i = (z % 2 == 1)) := by unfold Hid takenB; rw [hz]
  clear hs hm hz
  go_enter Try.func20, Try.ntmps20
  go_wp2_with (first
    | (go_at_call 37; refine (lifeOf_in HS.out i i0 i1).mono ?_; rintro e w1 ⟨rfl, hb1⟩; have B1 := Lib.hid (past1 hb1); clear hb1)
    | (go_at_call 10; refine (Peek_s (HM.out.below B1.out) (n + 4 + i) z HZ.out.symm).mono ?_; rintro e w2 ⟨rfl, rfl⟩)
    | (go_at_call 35; refine (odd_any _ z z0).mono ?_; rintro e w3 ⟨rfl, rfl⟩))
  go_returns
  exact ⟨ret_bool HT.out.symm, B1.out⟩
set_option maxHeartbeats 1000000 in
theorem taken_out (hs : Sound t n zs) (hm : MemS w X Y t n zs) (i : Int) (hi : ¬ (1 ≤ i ∧ i ≤ n)) :
    Calls Try.prog 20 #[.pointer (some ⟨X, 0, none⟩), .agg #[.int .i64 t, .int .i64 n], .int .i64 i] w fun e w' => e = .returned (.bool false) ∧ Below w.heap.size w w' := by
  have HS := Lib.hid hs
  have HM := Lib.hid hm
  have HI := Lib.hid hi
  clear hs hm hi
  go_enter Try.func20, Try.ntmps20
  go_wp2_with (first
    | (go_at_call 37; refine (lifeOf_out HS.out i HI.out).mono ?_; rintro e w1 ⟨rfl, hb1⟩; have B1 := Lib.hid (past1 hb1); clear hb1)
    | (go_at_call 10; refine (Peek_s (HM.out.below B1.out) (-1) 0 (wordAt_not (by omega))).mono ?_; rintro e w2 ⟨rfl, rfl⟩)
    | (go_at_call 35; refine (odd_any _ 0 (by omega)).mono ?_; rintro e w3 ⟨rfl, rfl⟩))
  go_returns
  exact ⟨rfl, B1.out⟩
end
end Go.Proofs.Ytglkpajnhdamkaa.life
