/- A machine that takes a node, run alone. -/
import Derived.Test.YtglkpajnhdamkaaLRun
namespace Go.Proofs.Ytglkpajnhdamkaa.life
open Go.RowKit mem

/-- So many nodes behind a node, round and round. -/
def nodeAt (n a k : Int) : Int := if a + k ≤ n then a + k else a + k - n
theorem nodeAt_zero {n a : Int} (h : a ≤ n) : nodeAt n a 0 = a := by
  unfold nodeAt
  rw [if_pos (by omega)]
  omega
theorem nodeAt_in {n a k : Int} (a0 : 1 ≤ a) (a1 : a ≤ n) (k0 : 0 ≤ k) (k1 : k < n) : 1 ≤ nodeAt n a k ∧ nodeAt n a k ≤ n := by
  unfold nodeAt
  split <;> omega
theorem nodeAt_next {n a k : Int} (_a0 : 1 ≤ a) (a1 : a ≤ n) (_k0 : 0 ≤ k) (k1 : k < n) : nextNode n (nodeAt n a k) = nodeAt n a (k + 1) := by
  unfold nextNode nodeAt
  split <;> split <;> split <;> omega
/-- A memory that a law makes: as long as its layout says, its words words. -/
structure Sound (t n : Int) (zs : List Int) : Prop where
  t0 : 1 ≤ t
  t1 : t ≤ 8
  n0 : 1 ≤ n
  n1 : n ≤ 200
  len : (zs.length : Int) = 2 * n + 6 + 5 * t
  word : ∀ a, 0 ≤ wordAt zs a ∧ wordAt zs a < 18446744073709551616
theorem Sound.inLife {t n : Int} {zs : List Int} (h : Sound t n zs) {i : Int} (i0 : 1 ≤ i) (i1 : i ≤ n) : inB zs (n + 4 + i) = true := by
  unfold inB
  have := h.len
  have := h.t0
  simp
  omega
/-- A node's life. -/
def lifeIn (n : Int) (zs : List Int) (i : Int) : Int := wordAt zs (n + 4 + i)
/-- Is a node taken? -/
def takenB (n : Int) (zs : List Int) (i : Int) : Bool := lifeIn n zs i % 2 == 1
/-- A node's life, another one now. -/
def putLife (n : Int) (zs : List Int) (i x : Int) : List Int := setAt zs (n + 4 + i) x
theorem Sound.put {t n : Int} {zs : List Int} (h : Sound t n zs) (i x : Int) (x0 : 0 ≤ x) (x1 : x < 18446744073709551616) : Sound t n (putLife n zs i x) := by
  refine ⟨h.t0, h.t1, h.n0, h.n1, by unfold putLife; rw [setAt_length]; exact h.len, fun a => ?_⟩
  unfold putLife
  by_cases ha : n + 4 + i = a
  · subst ha
    by_cases hb : inB zs (n + 4 + i) = true
    · rw [wordAt_setAt_same _ _ _ hb]
      exact ⟨x0, x1⟩
    · have : setAt zs (n + 4 + i) x = zs := setAt_not _ (by unfold inB at hb; simpa using hb)
      rw [this]
      exact h.word _
  · rw [wordAt_setAt_other _ _ _ _ ha]
    exact h.word _
theorem lifeIn_put_same {t n : Int} {zs : List Int} (h : Sound t n zs) {i x : Int} (i0 : 1 ≤ i) (i1 : i ≤ n) : lifeIn n (putLife n zs i x) i = x := wordAt_setAt_same _ _ _ (h.inLife i0 i1)
theorem lifeIn_put_other {n : Int} {zs : List Int} {i j x : Int} (h : i ≠ j) : lifeIn n (putLife n zs i x) j = lifeIn n zs j := wordAt_setAt_other _ _ _ _ (by omega)
/-- A free node's life goes up by one, and doesn't come round. -/
theorem up_of_free {t n : Int} {zs : List Int} (h : Sound t n zs) {i : Int} (hf : takenB n zs i = false) : IntKind.u64.wrap (lifeIn n zs i + 1) = lifeIn n zs i + 1 := by
  have hw := h.word (n + 4 + i)
  have hw : 0 ≤ lifeIn n zs i ∧ lifeIn n zs i < 18446744073709551616 := hw
  have hf : lifeIn n zs i % 2 ≠ 1 := by unfold takenB at hf; simpa using hf
  rw [IntKind.wrap_u64]
  omega
theorem up_range {t n : Int} {zs : List Int} (h : Sound t n zs) {i : Int} (hf : takenB n zs i = false) : 0 ≤ lifeIn n zs i + 1 ∧ lifeIn n zs i + 1 < 18446744073709551616 := by
  have hw : 0 ≤ lifeIn n zs i ∧ lifeIn n zs i < 18446744073709551616 := h.word (n + 4 + i)
  have hf : lifeIn n zs i % 2 ≠ 1 := by unfold takenB at hf; simpa using hf
  omega

theorem Did.start {w : World} {X Y C : Nat} {t n : Int} {zs : List Int} {a : Al} (hm : MemS w X Y t n zs) (hb : Box w C (alCells t n a) 39) : Did w X Y C t n zs a w := ⟨hm, hb, Apart3.refl w⟩
theorem Did.trans {w w1 w2 : World} {X Y C : Nat} {t n : Int} {zs ys : List Int} {a b : Al} (h : Did w X Y C t n zs a w1) (g : Did w1 X Y C t n ys b w2) : Did w X Y C t n ys b w2 := ⟨g.mem, g.box, h.apart.trans g.apart⟩

/-- How far it has come behind so many steps, the q-th node being the first that is free. -/
def Path (w : World) (X Y C : Nat) (t n a : Int) (zs : List Int) (q j : Nat) (wr : World) : Prop :=
  (j ≤ q ∧ ∃ lf, Did w X Y C t n zs ⟨0, nodeAt n a j, n - j, false, lf⟩ wr) ∨
  (j = q + 1 ∧ Did w X Y C t n zs ⟨0, nodeAt n a q, n - q, true, lifeIn n zs (nodeAt n a q)⟩ wr) ∨
  (j = q + 2 ∧ ∃ lf, Did w X Y C t n (putLife n zs (nodeAt n a q) (lifeIn n zs (nodeAt n a q) + 1)) ⟨nodeAt n a q, nodeAt n a q, 0, true, lf⟩ wr)

section
variable {w : World} {X Y C : Nat} {t n a : Int} {zs : List Int}
theorem path_step (hs : Sound t n zs) (a0 : 1 ≤ a) (a1 : a ≤ n) (cx : C ≠ X) (cy : C ≠ Y) (q : Nat) (hq : (q : Int) < n) (hodd : ∀ j : Nat, j < q → takenB n zs (nodeAt n a j) = true) (hfree : takenB n zs (nodeAt n a q) = false)
    (j : Nat) (wr : World) (hj : j < q + 2) (hp : Path w X Y C t n a zs q j wr) :
    Calls Try.prog 19 #[.pointer (some ⟨C, 0, none⟩), .pointer (some ⟨X, 0, none⟩)] wr fun e w' => e = .returned (.bool (decide (j + 1 = q + 2))) ∧ Path w X Y C t n a zs q (j + 1) w' := by
  have n1 := hs.n1
  rcases hp with ⟨hjq, lf, hd⟩ | ⟨hj1, hd⟩ | ⟨hj2, _⟩
  · have hin := nodeAt_in (k := j) a0 a1 (by omega) (by omega)
    by_cases he : j = q
    · subst he
      refine (step_even hd.mem hd.box cx cy hin.1 hin.2 (by omega) (by omega) (lifeIn n zs (nodeAt n a j)) (hs.word _).1 rfl hfree).mono fun e w' ⟨he, hd'⟩ => ⟨?_, Or.inr (Or.inl ⟨rfl, hd.trans hd'⟩)⟩
      rw [he]
      exact ret_bool (by symm; apply decide_eq_false; omega)
    · refine (step_odd hd.mem hd.box cx cy hin.1 hin.2 (by omega) (by omega) (by omega) (lifeIn n zs (nodeAt n a j)) (hs.word _).1 rfl (hodd j (by omega))).mono fun e w' ⟨he, hd'⟩ => ⟨?_, Or.inl ⟨by omega, lifeIn n zs (nodeAt n a j), ?_⟩⟩
      · rw [he]
        exact ret_bool (by rw [show decide (j + 1 = q + 2) = false by apply decide_eq_false; omega]; simp; omega)
      · rw [nodeAt_next a0 a1 (by omega) (by omega)] at hd'
        have e1 : n - ((j + 1 : Nat) : Int) = n - j - 1 := by omega
        have e2 : ((j + 1 : Nat) : Int) = (j : Int) + 1 := by omega
        rw [e1, e2]
        exact hd.trans hd'
  · subst hj1
    have hin := nodeAt_in (k := q) a0 a1 (by omega) (by omega)
    refine (step_hit hd.mem hd.box cx cy hin.1 hin.2 (by omega) (by omega) (hs.inLife hin.1 hin.2) rfl).mono fun e w' ⟨he, hd'⟩ => ⟨?_, Or.inr (Or.inr ⟨rfl, lifeIn n zs (nodeAt n a q), ?_⟩)⟩
    · rw [he]
      exact ret_bool (by symm; apply decide_eq_true; omega)
    · rw [up_of_free hs hfree] at hd'
      exact hd.trans hd'
  · omega

/-- Behind so many steps, no node being free. -/
def PathNo (w : World) (X Y C : Nat) (t n a : Int) (zs : List Int) (j : Nat) (wr : World) : Prop := ∃ lf, Did w X Y C t n zs ⟨0, nodeAt n a j, n - j, false, lf⟩ wr
theorem pathNo_step (hs : Sound t n zs) (a0 : 1 ≤ a) (a1 : a ≤ n) (cx : C ≠ X) (cy : C ≠ Y) (q : Nat) (hq : (q : Int) = n) (hodd : ∀ j : Nat, j < q → takenB n zs (nodeAt n a j) = true)
    (j : Nat) (wr : World) (hj : j < q) (hp : PathNo w X Y C t n a zs j wr) :
    Calls Try.prog 19 #[.pointer (some ⟨C, 0, none⟩), .pointer (some ⟨X, 0, none⟩)] wr fun e w' => e = .returned (.bool (decide (j + 1 = q))) ∧ PathNo w X Y C t n a zs (j + 1) w' := by
  have n1 := hs.n1
  obtain ⟨lf, hd⟩ := hp
  have hin := nodeAt_in (k := j) a0 a1 (by omega) (by omega)
  refine (step_odd hd.mem hd.box cx cy hin.1 hin.2 (by omega) (by omega) (by omega) (lifeIn n zs (nodeAt n a j)) (hs.word _).1 rfl (hodd j (by omega))).mono fun e w' ⟨he, hd'⟩ => ⟨?_, lifeIn n zs (nodeAt n a j), ?_⟩
  · rw [he]
    refine ret_bool ?_
    by_cases h : j + 1 = q
    · rw [decide_eq_true h]; simp; omega
    · rw [decide_eq_false h]; simp; omega
  · rw [nodeAt_next a0 a1 (by omega) (by omega)] at hd'
    have e1 : n - ((j + 1 : Nat) : Int) = n - j - 1 := by omega
    have e2 : ((j + 1 : Nat) : Int) = (j : Int) + 1 := by omega
    rw [e1, e2]
    exact hd.trans hd'

variable {g : Nat} {lf most : Int}
/-- ALONE: the first free node is taken, in so many steps. -/
theorem run_hit (hs : Sound t n zs) (a0 : 1 ≤ a) (a1 : a ≤ n) (cx : C ≠ X) (cy : C ≠ Y) (q : Nat) (hq : (q : Int) < n) (hodd : ∀ j : Nat, j < q → takenB n zs (nodeAt n a j) = true) (hfree : takenB n zs (nodeAt n a q) = false)
    (hm : MemS w X Y t n zs) (hb : Box w C (alCells t n ⟨0, a, n, false, lf⟩) 39) (hc : w.cell? ⟨g, 0, none⟩ = some (.iface 33 (.pointer (some ⟨C, 0, none⟩)))) (m0 : (q : Int) + 2 ≤ most) (m1 : most ≤ 100000) :
    Calls Try.prog 13 #[.pointer (some ⟨X, 0, none⟩), .int .i64 most, .slice (some ⟨g, 0, none⟩) 1 1] w fun e w' => e = .returned (.tuple #[.int .i64 (q + 2), .bool true]) ∧ ∃ lf, Did w X Y C t n (putLife n zs (nodeAt n a q) (lifeIn n zs (nodeAt n a q) + 1)) ⟨nodeAt n a q, nodeAt n a q, 0, true, lf⟩ w' := by
  have h0 : Path w X Y C t n a zs q 0 w := by
    refine Or.inl ⟨Nat.zero_le _, lf, ?_⟩
    have e1 : n - ((0 : Nat) : Int) = n := by omega
    have e2 : nodeAt n a ((0 : Nat) : Int) = a := nodeAt_zero a1
    rw [e1, e2]
    exact Did.start hm hb
  refine (run_alloc w X C most (q + 2) _ (by omega) (by omega) m1 h0 g hc (fun j wr hj hp => path_step hs a0 a1 cx cy q hq hodd hfree j wr hj hp)).mono ?_
  rintro e w' ⟨rfl, hp⟩
  refine ⟨by rw [show ((q + 2 : Nat) : Int) = (q : Int) + 2 by omega], ?_⟩
  rcases hp with ⟨h, _⟩ | ⟨h, _⟩ | ⟨_, h⟩
  · omega
  · omega
  · exact h
/-- ALONE, no node being free: none is taken. -/
theorem run_none (hs : Sound t n zs) (a0 : 1 ≤ a) (a1 : a ≤ n) (cx : C ≠ X) (cy : C ≠ Y) (hodd : ∀ j : Nat, (j : Int) < n → takenB n zs (nodeAt n a j) = true)
    (hm : MemS w X Y t n zs) (hb : Box w C (alCells t n ⟨0, a, n, false, lf⟩) 39) (hc : w.cell? ⟨g, 0, none⟩ = some (.iface 33 (.pointer (some ⟨C, 0, none⟩)))) (m0 : n ≤ most) (m1 : most ≤ 100000) :
    Calls Try.prog 13 #[.pointer (some ⟨X, 0, none⟩), .int .i64 most, .slice (some ⟨g, 0, none⟩) 1 1] w fun e w' => e = .returned (.tuple #[.int .i64 n, .bool true]) ∧ ∃ nd lf, Did w X Y C t n zs ⟨0, nd, 0, false, lf⟩ w' := by
  obtain ⟨q, hq⟩ : ∃ q : Nat, (q : Int) = n := ⟨n.toNat, by have := hs.n0; omega⟩
  have h0 : PathNo w X Y C t n a zs 0 w := by
    refine ⟨lf, ?_⟩
    have e1 : n - ((0 : Nat) : Int) = n := by omega
    have e2 : nodeAt n a ((0 : Nat) : Int) = a := nodeAt_zero a1
    rw [e1, e2]
    exact Did.start hm hb
  refine (run_alloc w X C most q _ (by have := hs.n0; omega) (by omega) m1 h0 g hc (fun j wr hj hp => pathNo_step hs a0 a1 cx cy q hq (fun j hj => hodd j (by omega)) j wr hj hp)).mono ?_
  rintro e w' ⟨rfl, lf, hd⟩
  refine ⟨by rw [hq], nodeAt n a q, lf, ?_⟩
  have e1 : n - (q : Int) = 0 := by omega
  rw [e1] at hd
  exact hd
end
end Go.Proofs.Ytglkpajnhdamkaa.life
