/- A machine that takes a node: how it goes over to the next one. -/
import Derived.Test.YtnphnhafifaaoaaM2
import Derived.Deep.RegionWith
import Derived.Test.YtnphnhafifaaoaaMSome
import Derived.Deep.RegionHeld3
namespace Go.Proofs.Ytnphnhafifaaoaa.life
open Go.RowKit mem

/-- What a machine is at. -/
structure Al where
  got : Int
  node : Int
  left : Int
  free : Bool
  life : Int
/-- Its seven cells. -/
abbrev alCells (t n : Int) (a : Al) : Array Value := #[.int .i64 t, .int .i64 n, .int .i64 a.got, .int .i64 a.node, .int .i64 a.left, .bool a.free, .int .u64 a.life]
/-- Its cells, one by one. -/
structure Row7 (w : World) (C : Nat) (t n got node left : Int) (free : Bool) (life : Int) : Prop where
  c0 : w.cell? ⟨C, 0, none⟩ = some (.int .i64 t)
  c1 : w.cell? ⟨C, 1, none⟩ = some (.int .i64 n)
  c2 : w.cell? ⟨C, 2, none⟩ = some (.int .i64 got)
  c3 : w.cell? ⟨C, 3, none⟩ = some (.int .i64 node)
  c4 : w.cell? ⟨C, 4, none⟩ = some (.int .i64 left)
  c5 : w.cell? ⟨C, 5, none⟩ = some (.bool free)
  c6 : w.cell? ⟨C, 6, none⟩ = some (.int .u64 life)
  f : ∀ i, w.frozen? ⟨C, i, none⟩ = false
/-- The node behind a node, round and round. -/
def nextNode (n node : Int) : Int := if node < n then node + 1 else 1

theorem odd_any (w : World) (z : Int) (z0 : 0 ≤ z) :
    Calls Try.prog 44 #[.int .u64 z] w fun e w' => e = .returned (.bool (z % 2 == 1)) ∧ w = w' := by
  go_enter Try.func44, Try.ntmps44
  go_wp2
  go_returns
  exact ⟨rfl, rfl⟩

section
variable {w : World} {C : Nat} {t n got node left life : Int} {free : Bool}
end
end Go.Proofs.Ytnphnhafifaaoaa.life
/- A machine that takes a node: its step. -/
namespace Go.Proofs.Ytnphnhafifaaoaa.life
open Go.RowKit mem

theorem Apart3.ofC {w w' : World} {X Y C : Nat} (h : Apart C C w w') : Apart3 X Y C w w' := ⟨h.os, h.tape, h.output, h.size, fun b hb _ _ hc => h.block b hb hc hc⟩
theorem keptC {w w' : World} {X Y C : Nat} {t n : Int} {zs : List Int} (h : MemS w X Y t n zs) (ha : Apart C C w w') (hx : C ≠ X) (hy : C ≠ Y) : MemS w' X Y t n zs :=
  h.moved (ha.block X h.ltX (Ne.symm hx) (Ne.symm hx)) (ha.block Y h.ltY (Ne.symm hy) (Ne.symm hy))
section
variable {w : World} {X Y C : Nat} {t n got node left life : Int} {free : Bool} {zs : List Int}
end
end Go.Proofs.Ytnphnhafifaaoaa.life
/- One machine is run to its end, by what its steps do; a machine that takes a node. -/
namespace Go.Proofs.Ytnphnhafifaaoaa.life
open Go.RowKit mem

/-- What a run says: so many steps, to its end. -/
def Ended (L : Nat) (R : Nat → World → Prop) (e : Ending) (w' : World) : Prop := e = .returned (.tuple #[.int .i64 L, .bool true]) ∧ R L w'

section
variable (w : World) (X C : Nat) (most : Int) (L : Nat) (R : Nat → World → Prop) (l0 : 1 ≤ L) (l1 : (L : Int) ≤ most) (m1 : most ≤ 100000) (h0 : R 0 w)
include l0 l1 m1 h0
end
end Go.Proofs.Ytnphnhafifaaoaa.life
/- A machine that takes a node, run alone. -/
namespace Go.Proofs.Ytnphnhafifaaoaa.life
open Go.RowKit mem

/-- So many nodes behind a node, round and round. -/
def nodeAt (n a k : Int) : Int := if a + k ≤ n then a + k else a + k - n
theorem nodeAt_zero {n a : Int} (h : a ≤ n) : nodeAt n a 0 = a := by
  unfold nodeAt
  rw [if_pos (by omega)]
  omega
theorem nodeAt_in {n a k : Int} (a0 : 1 ≤ a) (a1 : a ≤ n) (k0 : 0 ≤ k) (k1 : k < n) : 1 ≤ nodeAt n a k ∧ nodeAt n a k ≤ n := by
  unfold nodeAt
  split <;> omega
theorem nodeAt_next {n a k : Int} (_a0 : 1 ≤ a) (a1 : a ≤ n) (_k0 : 0 ≤ k) (k1 : k < n) : nextNode n (nodeAt n a k) = nodeAt n a (k + 1) := by
  unfold nextNode nodeAt
  split <;> split <;> split <;> omega
/-- A memory that a law makes: as long as its layout says, its words words. -/
structure Sound (t n : Int) (zs : List Int) : Prop where
  t0 : 1 ≤ t
  t1 : t ≤ 8
  n0 : 1 ≤ n
  n1 : n ≤ 200
  len : (zs.length : Int) = 2 * n + 6 + 5 * t
  word : ∀ a, 0 ≤ wordAt zs a ∧ wordAt zs a < 18446744073709551616
theorem Sound.inLife {t n : Int} {zs : List Int} (h : Sound t n zs) {i : Int} (i0 : 1 ≤ i) (i1 : i ≤ n) : inB zs (n + 4 + i) = true := by
  unfold inB
  have := h.len
  have := h.t0
  simp
  omega
/-- A node's life. -/
def lifeIn (n : Int) (zs : List Int) (i : Int) : Int := wordAt zs (n + 4 + i)
/-- Is a node taken? -/
def takenB (n : Int) (zs : List Int) (i : Int) : Bool := lifeIn n zs i % 2 == 1
/-- A node's life, another one now. -/
def putLife (n : Int) (zs : List Int) (i x : Int) : List Int := setAt zs (n + 4 + i) x
theorem Sound.put {t n : Int} {zs : List Int} (h : Sound t n zs) (i x : Int) (x0 : 0 ≤ x) (x1 : x < 18446744073709551616) : Sound t n (putLife n zs i x) := by
  refine ⟨h.t0, h.t1, h.n0, h.n1, by unfold putLife; rw [setAt_length]; exact h.len, fun a => ?_⟩
  unfold putLife
  by_cases ha : n + 4 + i = a
  · subst ha
    by_cases hb : inB zs (n + 4 + i) = true
    · rw [wordAt_setAt_same _ _ _ hb]
      exact ⟨x0, x1⟩
    · have : setAt zs (n + 4 + i) x = zs := setAt_not _ (by unfold inB at hb; simpa using hb)
      rw [this]
      exact h.word _
  · rw [wordAt_setAt_other _ _ _ _ ha]
    exact h.word _
theorem lifeIn_put_same {t n : Int} {zs : List Int} (h : Sound t n zs) {i x : Int} (i0 : 1 ≤ i) (i1 : i ≤ n) : lifeIn n (putLife n zs i x) i = x := wordAt_setAt_same _ _ _ (h.inLife i0 i1)
theorem lifeIn_put_other {n : Int} {zs : List Int} {i j x : Int} (h : i ≠ j) : lifeIn n (putLife n zs i x) j = lifeIn n zs j := wordAt_setAt_other _ _ _ _ (by omega)
/-- A free node's life goes up by one, and doesn't come round. -/
theorem up_of_free {t n : Int} {zs : List Int} (h : Sound t n zs) {i : Int} (hf : takenB n zs i = false) : IntKind.u64.wrap (lifeIn n zs i + 1) = lifeIn n zs i + 1 := by
  have hw := h.word (n + 4 + i)
  have hw : 0 ≤ lifeIn n zs i ∧ lifeIn n zs i < 18446744073709551616 := hw
  have hf : lifeIn n zs i % 2 ≠ 1 := by unfold takenB at hf; simpa using hf
  rw [IntKind.wrap_u64]
  omega
theorem up_range {t n : Int} {zs : List Int} (h : Sound t n zs) {i : Int} (hf : takenB n zs i = false) : 0 ≤ lifeIn n zs i + 1 ∧ lifeIn n zs i + 1 < 18446744073709551616 := by
  have hw : 0 ≤ lifeIn n zs i ∧ lifeIn n zs i < 18446744073709551616 := h.word (n + 4 + i)
  have hf : lifeIn n zs i % 2 ≠ 1 := by unfold takenB at hf; simpa using hf
  omega

section
variable {w : World} {X Y C : Nat} {t n a : Int} {zs : List Int}
variable {g : Nat} {lf most : Int}
end
end Go.Proofs.Ytnphnhafifaaoaa.life
/- A new machine that takes a node; whether a node is taken; a list of numbers; whether a number is in one. -/
namespace Go.Proofs.Ytnphnhafifaaoaa.life
open Go.RowKit mem

/-- Where a machine begins. -/
def startAt (n from' : Int) : Int := if 1 ≤ from' ∧ from' ≤ n then from' else 1
theorem startAt_in {n from' : Int} (h : 1 ≤ n) : 1 ≤ startAt n from' ∧ startAt n from' ≤ n := by
  unfold startAt
  split <;> omega
section
variable {w : World} {X Y : Nat} {t n : Int} {zs : List Int}
set_option maxHeartbeats 1000000 in
theorem lifeOf_in (hs : Sound t n zs) (i : Int) (i0 : 1 ≤ i) (i1 : i ≤ n) :
    Calls Try.prog 45 #[.agg #[.int .i64 t, .int .i64 n], .int .i64 i] w fun e w' => e = .returned (.int .i64 (n + 4 + i)) ∧ Below w.heap.size w w' := by
  have HR := Lib.hid (rightB_yes ⟨hs.t0, hs.t1, hs.n0, hs.n1⟩)
  have HN : Hid (nodeB n i = true) := by unfold Hid nodeB; simp; omega
  have n0 := hs.n0
  have n1 := hs.n1
  have B0 : Hid (Box (w.alloc (.cells #[.int .i64 t, .int .i64 n] 28)) w.heap.size #[.int .i64 t, .int .i64 n] 28 ∧ Below w.heap.size w (w.alloc (.cells #[.int .i64 t, .int .i64 n] 28))) := Lib.hid ⟨Box.new _ _ _, (Below.refl _ _).alloc (Nat.le_refl _) _⟩
  clear hs
  go_enter Try.func45, Try.ntmps45
  go_wp2_with (first
    | (go_at_call 46; refine (Right_any _ t n).mono ?_; rintro e w1 ⟨rfl, hb1⟩; rw [HR.out]; have T := Lib.hid (And.intro (B0.out.1.below hb1) (past B0.out.2 hb1)); clear hb1 B0; have B0 := T; clear T; have d0 := B0.out.1.at 0 rfl; have d1 := B0.out.1.at 1 rfl)
    | (go_at_call 55; refine (Node_any _ t n i).mono ?_; rintro e w2 ⟨rfl, hb1⟩; rw [HN.out]; have T := Lib.hid (And.intro (B0.out.1.below hb1) (past B0.out.2 hb1)); clear hb1 B0; have B0 := T; clear T; have e0 := B0.out.1.at 0 rfl; have e1 := B0.out.1.at 1 rfl)
    | (go_at_call 15; refine (Life_any _ t n i (by omega) (by omega) (by omega) (by omega)).mono ?_; rintro e w3 ⟨rfl, hb1⟩; have T := Lib.hid (past B0.out.2 hb1); clear hb1 B0; have B0 := T; clear T))
  go_returns
  exact ⟨rfl, B0.out⟩
set_option maxHeartbeats 1000000 in
theorem lifeOf_out (hs : Sound t n zs) (i : Int) (hi : ¬ (1 ≤ i ∧ i ≤ n)) :
    Calls Try.prog 45 #[.agg #[.int .i64 t, .int .i64 n], .int .i64 i] w fun e w' => e = .returned (.int .i64 (-1)) ∧ Below w.heap.size w w' := by
  have HR := Lib.hid (rightB_yes ⟨hs.t0, hs.t1, hs.n0, hs.n1⟩)
  have HN : Hid (nodeB n i = false) := by unfold Hid nodeB; simpa using hi
  have B0 : Hid (Box (w.alloc (.cells #[.int .i64 t, .int .i64 n] 28)) w.heap.size #[.int .i64 t, .int .i64 n] 28 ∧ Below w.heap.size w (w.alloc (.cells #[.int .i64 t, .int .i64 n] 28))) := Lib.hid ⟨Box.new _ _ _, (Below.refl _ _).alloc (Nat.le_refl _) _⟩
  clear hs hi
  go_enter Try.func45, Try.ntmps45
  go_wp2_with (first
    | (go_at_call 46; refine (Right_any _ t n).mono ?_; rintro e w1 ⟨rfl, hb1⟩; rw [HR.out]; have T := Lib.hid (And.intro (B0.out.1.below hb1) (past B0.out.2 hb1)); clear hb1 B0; have B0 := T; clear T; have d0 := B0.out.1.at 0 rfl; have d1 := B0.out.1.at 1 rfl)
    | (go_at_call 55; refine (Node_any _ t n i).mono ?_; rintro e w2 ⟨rfl, hb1⟩; rw [HN.out]; have T := Lib.hid (past B0.out.2 hb1); clear hb1 B0; have B0 := T; clear T))
  go_returns
  exact ⟨rfl, B0.out⟩
theorem past2 {w w1 : World} {o : Obj} (hb : Below (w.alloc o).heap.size (w.alloc o) w1) : Below w.heap.size w w1 := past1 hb
set_option maxHeartbeats 1000000 in
theorem taken_in (hs : Sound t n zs) (hm : MemS w X Y t n zs) (i : Int) (i0 : 1 ≤ i) (i1 : i ≤ n) :
    Calls Try.prog 24 #[.pointer (some ⟨X, 0, none⟩), .agg #[.int .i64 t, .int .i64 n], .int .i64 i] w fun e w' => e = .returned (.bool (takenB n zs i)) ∧ Below w.heap.size w w' := by
  have HS := Lib.hid hs
  have HM := Lib.hid hm
  obtain ⟨z, hz⟩ : ∃ z, z = lifeIn n zs i := ⟨_, rfl⟩
  have z0 : 0 ≤ z := by rw [hz]; exact (hs.word _).1
  have HZ := Lib.hid hz
  have HT : Hid (takenB n zs i = (z % 2 == 1)) := by unfold Hid takenB; rw [hz]
  clear hs hm hz
  go_enter Try.func24, Try.ntmps24
  go_wp2_with (first
    | (go_at_call 45; refine (lifeOf_in HS.out i i0 i1).mono ?_; rintro e w1 ⟨rfl, hb1⟩; have B1 := Lib.hid (past1 hb1); clear hb1)
    | (go_at_call 31; refine (Peek_s (HM.out.below B1.out) (n + 4 + i) z HZ.out.symm).mono ?_; rintro e w2 ⟨rfl, rfl⟩)
    | (go_at_call 44; refine (odd_any _ z z0).mono ?_; rintro e w3 ⟨rfl, rfl⟩))
  go_returns
  exact ⟨ret_bool HT.out.symm, B1.out⟩
set_option maxHeartbeats 1000000 in
theorem taken_out (hs : Sound t n zs) (hm : MemS w X Y t n zs) (i : Int) (hi : ¬ (1 ≤ i ∧ i ≤ n)) :
    Calls Try.prog 24 #[.pointer (some ⟨X, 0, none⟩), .agg #[.int .i64 t, .int .i64 n], .int .i64 i] w fun e w' => e = .returned (.bool false) ∧ Below w.heap.size w w' := by
  have HS := Lib.hid hs
  have HM := Lib.hid hm
  have HI := Lib.hid hi
  clear hs hm hi
  go_enter Try.func24, Try.ntmps24
  go_wp2_with (first
    | (go_at_call 45; refine (lifeOf_out HS.out i HI.out).mono ?_; rintro e w1 ⟨rfl, hb1⟩; have B1 := Lib.hid (past1 hb1); clear hb1)
    | (go_at_call 31; refine (Peek_s (HM.out.below B1.out) (-1) 0 (wordAt_not (by omega))).mono ?_; rintro e w2 ⟨rfl, rfl⟩)
    | (go_at_call 44; refine (odd_any _ 0 (by omega)).mono ?_; rintro e w3 ⟨rfl, rfl⟩))
  go_returns
  exact ⟨rfl, B1.out⟩
end
end Go.Proofs.Ytnphnhafifaaoaa.life
