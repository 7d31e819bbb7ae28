/- Some machines that take nodes, their steps mixed: what holds at each moment. -/
import Derived.Test.YtglkpajnhdamkaaLCount
namespace Go.Proofs.Ytglkpajnhdamkaa.life
open Go.RowKit mem

/-- A machine's step. -/
def stepAl (n : Int) (zs : List Int) (a : Al) : List Int × Al × Bool :=
  if a.free = true then
    if lifeIn n zs a.node = a.life then (putLife n zs a.node (IntKind.u64.wrap (a.life + 1)), ⟨a.node, a.node, 0, true, a.life⟩, true)
    else (zs, ⟨a.got, nextNode n a.node, a.left - 1, false, a.life⟩, a.left - 1 == 0)
  else if takenB n zs a.node = true then (zs, ⟨a.got, nextNode n a.node, a.left - 1, false, lifeIn n zs a.node⟩, a.left - 1 == 0)
  else (zs, ⟨a.got, a.node, a.left, true, lifeIn n zs a.node⟩, false)
theorem stepAl_flag (n : Int) (zs : List Int) (a : Al) (h : 0 < a.left) : (stepAl n zs a).2.2 = ((stepAl n zs a).2.1.left == 0) := by
  unfold stepAl
  by_cases hf : a.free = true
  · by_cases hl : lifeIn n zs a.node = a.life
    · rw [if_pos hf, if_pos hl]; rfl
    · rw [if_pos hf, if_neg hl]
  · by_cases ht : takenB n zs a.node = true
    · rw [if_neg hf, if_pos ht]
    · rw [if_neg hf, if_neg ht]
      symm
      simp
      omega
/-- How many steps it has left at most. -/
def fuel (a : Al) : Int := 2 * a.left - (if a.free = true then 1 else 0)
theorem stepAl_fuel (n : Int) (zs : List Int) (a : Al) (_h : 0 < a.left) : (stepAl n zs a).2.1.left = 0 ∨ fuel (stepAl n zs a).2.1 + 1 ≤ fuel a := by
  unfold stepAl fuel
  by_cases hf : a.free = true
  · by_cases hl : lifeIn n zs a.node = a.life
    · rw [if_pos hf, if_pos hl]; exact Or.inl rfl
    · rw [if_pos hf, if_neg hl]; simp; omega
  · by_cases ht : takenB n zs a.node = true
    · rw [if_neg hf, if_pos ht]; simp [hf]; omega
    · rw [if_neg hf, if_neg ht]; first | (simp [hf]; done) | (simp [hf]; omega)
/-- How far a node is ahead. -/
def ahead (n node i : Int) : Int := if node ≤ i then i - node else i - node + n
theorem ahead_next {n node i : Int} (h0 : 1 ≤ node) (h1 : node ≤ n) (i0 : 1 ≤ i) (i1 : i ≤ n) (h : i ≠ node) : ahead n (nextNode n node) i = ahead n node i - 1 := by
  unfold ahead nextNode
  split <;> split <;> (try split) <;> omega
theorem ahead_in {n node i : Int} (h0 : 1 ≤ node) (h1 : node ≤ n) (i0 : 1 ≤ i) (i1 : i ≤ n) : 0 ≤ ahead n node i ∧ ahead n node i < n := by
  unfold ahead
  split <;> omega
theorem nextNode_in {n node : Int} (h0 : 1 ≤ node) (h1 : node ≤ n) : 1 ≤ nextNode n node ∧ nextNode n node ≤ n := by
  unfold nextNode
  split <;> omega

/-- What holds of a machine. -/
structure AlOk (n : Int) (zs0 zs : List Int) (a : Al) : Prop where
  node0 : 1 ≤ a.node
  node1 : a.node ≤ n
  left0 : 0 ≤ a.left
  left1 : a.left ≤ n
  held : a.free = true → 0 < a.left → takenB n zs0 a.node = false ∧ a.life = lifeIn n zs0 a.node
  got : a.got = 0 ∨ (1 ≤ a.got ∧ a.got ≤ n ∧ a.left = 0)
  seen : a.got = 0 → ∀ i, 1 ≤ i → i ≤ n → takenB n zs i = true ∨ ahead n a.node i < a.left
/-- So many of the first machines have taken a node. -/
def takenTo (A : Nat → Al) : Nat → Nat
  | 0 => 0
  | k + 1 => takenTo A k + (if (A k).got = 0 then 0 else 1)
theorem takenTo_le (A : Nat → Al) : ∀ k, takenTo A k ≤ k
  | 0 => by simp [takenTo]
  | k + 1 => by
    have := takenTo_le A k
    unfold takenTo
    split <;> omega
theorem takenTo_zero (A : Nat → Al) : ∀ m, takenTo A m = 0 → ∀ k, k < m → (A k).got = 0
  | 0, _, k, hk => absurd hk (by omega)
  | m + 1, h, k, hk => by
    unfold takenTo at h
    by_cases he : k = m
    · subst he
      by_cases hg : (A k).got = 0
      · exact hg
      · rw [if_neg hg] at h; omega
    · exact takenTo_zero A m (by omega) k (by omega)
/-- One machine is another one now. -/
def upd (A : Nat → Al) (k : Nat) (a : Al) : Nat → Al := fun j => if j = k then a else A j
theorem upd_same (A : Nat → Al) (k : Nat) (a : Al) : upd A k a k = a := if_pos rfl
theorem upd_other (A : Nat → Al) {k j : Nat} (a : Al) (h : j ≠ k) : upd A k a j = A j := if_neg h
theorem takenTo_same (A : Nat → Al) (k : Nat) (a : Al) (h : a.got = (A k).got) : ∀ m, takenTo (upd A k a) m = takenTo A m
  | 0 => rfl
  | m + 1 => by
    rw [takenTo, takenTo, takenTo_same A k a h m]
    by_cases he : m = k
    · rw [he, upd_same, h]
    · rw [upd_other A a he]
theorem takenTo_more (A : Nat → Al) (k : Nat) (a : Al) (h0 : (A k).got = 0) (h1 : a.got ≠ 0) : ∀ m, takenTo (upd A k a) m = takenTo A m + (if k < m then 1 else 0)
  | 0 => by rw [if_neg (by omega)]; rfl
  | m + 1 => by
    rw [takenTo, takenTo, takenTo_more A k a h0 h1 m]
    by_cases he : m = k
    · rw [he, upd_same, if_neg h1, if_pos h0, if_neg (show ¬ k < k by omega), if_pos (show k < k + 1 by omega)]
    · rw [upd_other A a he]
      by_cases hlt : k < m
      · rw [if_pos hlt, if_pos (show k < m + 1 by omega)]; omega
      · rw [if_neg hlt, if_neg (show ¬ k < m + 1 by omega), Nat.add_zero, Nat.add_zero]

/-- What holds of all. -/
structure RaceOk (n : Int) (zs0 zs : List Int) (M : Nat) (A : Nat → Al) : Prop where
  s0 : Sound 1 n zs0
  s : Sound 1 n zs
  each : ∀ k, k < M → AlOk n zs0 zs (A k)
  lives : ∀ i, 1 ≤ i → i ≤ n → (∃ k, k < M ∧ (A k).got = i) → takenB n zs0 i = false ∧ lifeIn n zs i = lifeIn n zs0 i + 1
  rest : ∀ i, 1 ≤ i → i ≤ n → (∀ k, k < M → (A k).got ≠ i) → lifeIn n zs i = lifeIn n zs0 i
  uniq : ∀ j k, j < k → k < M → (A j).got = (A k).got → (A j).got = 0
  count : (freeL n zs).length + takenTo A M = (freeL n zs0).length
section
variable {n : Int} {zs0 zs : List Int} {M : Nat} {A : Nat → Al}
/-- A node that was free, and is so no more, is taken. -/
theorem RaceOk.odd (h : RaceOk n zs0 zs M A) {i : Int} (i0 : 1 ≤ i) (i1 : i ≤ n) (hg : ∃ k, k < M ∧ (A k).got = i) : takenB n zs i = true := by
  obtain ⟨h0, h1⟩ := h.lives i i0 i1 hg
  have hw : 0 ≤ lifeIn n zs0 i := (h.s0.word _).1
  unfold takenB at h0 ⊢
  rw [h1]
  simp at h0 ⊢
  omega
theorem RaceOk.turn (h : RaceOk n zs0 zs M A) {k : Nat} {a : Al} (hg : a.got = (A k).got) (ha : AlOk n zs0 zs a) : RaceOk n zs0 zs M (upd A k a) := by
  have e : ∀ j, (upd A k a j).got = (A j).got := fun j => by
    by_cases he : j = k
    · rw [he, upd_same, hg]
    · rw [upd_other A a he]
  refine ⟨h.s0, h.s, fun j hj => ?_, fun i i0 i1 ⟨j, hj, hi⟩ => h.lives i i0 i1 ⟨j, hj, by rw [← e]; exact hi⟩, fun i i0 i1 hi => h.rest i i0 i1 (fun j hj => by rw [← e]; exact hi j hj), fun i j hij hj he => ?_, by rw [takenTo_same A k a hg]; exact h.count⟩
  · by_cases he : j = k
    · rw [he, upd_same]; exact ha
    · rw [upd_other A a he]; exact h.each j hj
  · rw [e, e] at he
    rw [e]
    exact h.uniq i j hij hj he
theorem RaceOk.step (h : RaceOk n zs0 zs M A) {k : Nat} (hk : k < M) (hl : 0 < (A k).left) : RaceOk n zs0 (stepAl n zs (A k)).1 M (upd A k (stepAl n zs (A k)).2.1) := by
  have ok := h.each k hk
  have hnode := ok.node0
  have hnode1 := ok.node1
  have hgot : (A k).got = 0 := by
    rcases ok.got with hg | ⟨_, _, hg⟩
    · exact hg
    · omega
  have l0 := ok.left0
  have l1 := ok.left1
  have hnx := nextNode_in hnode hnode1
  -- what is gone over is taken
  have over : ∀ life, takenB n zs (A k).node = true → AlOk n zs0 zs ⟨(A k).got, nextNode n (A k).node, (A k).left - 1, false, life⟩ := fun life ht => by
    refine ⟨hnx.1, hnx.2, by show 0 ≤ (A k).left - 1; omega, by show (A k).left - 1 ≤ n; omega, fun hf => absurd hf (by simp), Or.inl hgot, fun _ i i0 i1 => ?_⟩
    by_cases he : i = (A k).node
    · rw [he]; exact Or.inl ht
    · rcases ok.seen hgot i i0 i1 with hs | hs
      · exact Or.inl hs
      · refine Or.inr ?_
        show ahead n (nextNode n (A k).node) i < (A k).left - 1
        rw [ahead_next hnode hnode1 i0 i1 he]
        omega
  unfold stepAl
  by_cases hf : (A k).free = true
  · obtain ⟨t0, hlife⟩ := ok.held hf hl
    by_cases he : lifeIn n zs (A k).node = (A k).life
    · rw [if_pos hf, if_pos he]
      have hzs : lifeIn n zs (A k).node = lifeIn n zs0 (A k).node := he.trans hlife
      have hfree : takenB n zs (A k).node = false := by unfold takenB at t0 ⊢; rw [hzs]; exact t0
      have hnot : ∀ j, j < M → (A j).got ≠ (A k).node := fun j hj hg => by
        have := (h.lives _ hnode hnode1 ⟨j, hj, hg⟩).2
        omega
      have hup := up_range h.s hfree
      have hw : IntKind.u64.wrap ((A k).life + 1) = lifeIn n zs (A k).node + 1 := by rw [← he]; exact up_of_free h.s hfree
      show RaceOk n zs0 (putLife n zs (A k).node (IntKind.u64.wrap ((A k).life + 1))) M (upd A k ⟨(A k).node, (A k).node, 0, true, (A k).life⟩)
      rw [hw]
      have mono : ∀ i, takenB n zs i = true → takenB n (putLife n zs (A k).node (lifeIn n zs (A k).node + 1)) i = true := fun i hi => by
        by_cases hin : (A k).node = i
        · rw [← hin]; exact taken_put_same h.s hnode hnode1 hfree
        · rw [taken_put_other hin]; exact hi
      refine ⟨h.s0, h.s.put _ _ hup.1 hup.2, fun j hj => ?_, fun i i0 i1 hi => ?_, fun i i0 i1 hi => ?_, fun i j hij hj heq => ?_, ?_⟩
      · by_cases hjk : j = k
        · rw [hjk, upd_same]
          exact ⟨hnode, hnode1, Int.le_refl _, by show (0 : Int) ≤ n; omega, fun _ h0 => absurd h0 (by show ¬ (0 : Int) < 0; omega), Or.inr ⟨hnode, hnode1, rfl⟩, fun h0 => absurd h0 (by show ¬ (A k).node = 0; omega)⟩
        · rw [upd_other A _ hjk]
          have okj := h.each j hj
          exact ⟨okj.node0, okj.node1, okj.left0, okj.left1, okj.held, okj.got, fun hg i i0 i1 => (okj.seen hg i i0 i1).imp (mono i) id⟩
      · by_cases hin : (A k).node = i
        · subst hin
          rw [lifeIn_put_same h.s hnode hnode1, hzs]
          exact ⟨t0, rfl⟩
        · rw [lifeIn_put_other hin]
          obtain ⟨j, hj, hg⟩ := hi
          by_cases hjk : j = k
          · rw [hjk, upd_same] at hg
            exact absurd hg hin
          · rw [upd_other A _ hjk] at hg
            exact h.lives i i0 i1 ⟨j, hj, hg⟩
      · have hin : (A k).node ≠ i := by
          have := hi k hk
          rwa [upd_same] at this
        rw [lifeIn_put_other hin]
        refine h.rest i i0 i1 (fun j hj => ?_)
        by_cases hjk : j = k
        · rw [hjk, hgot]; omega
        · have := hi j hj
          rwa [upd_other A _ hjk] at this
      · by_cases hik : i = k
        · rw [hik, upd_same, upd_other A _ (by omega)] at heq
          exact absurd heq.symm (hnot j hj)
        · by_cases hjk : j = k
          · rw [hjk, upd_same, upd_other A _ hik] at heq
            exact absurd heq (hnot i (by omega))
          · rw [upd_other A _ hik, upd_other A _ hjk] at heq
            rw [upd_other A _ hik]
            exact h.uniq i j hij hj heq
      · have h1 := cnt_put h.s hnode hnode1 hfree
        have h2 := h.count
        rw [takenTo_more A k _ hgot (by show (A k).node ≠ 0; omega), if_pos hk]
        rw [freeL_cnt, freeL_cnt] at h2 ⊢
        omega
    · rw [if_pos hf, if_neg he]
      have ht : takenB n zs (A k).node = true := by
        by_cases hg : ∃ j, j < M ∧ (A j).got = (A k).node
        · exact h.odd hnode hnode1 hg
        · exfalso
          apply he
          rw [h.rest _ hnode hnode1 (fun j hj hgj => hg ⟨j, hj, hgj⟩), hlife]
      exact h.turn rfl (over _ ht)
  · by_cases ht : takenB n zs (A k).node = true
    · rw [if_neg hf, if_pos ht]
      exact h.turn rfl (over _ ht)
    · rw [if_neg hf, if_neg ht]
      have hno : ∀ j, j < M → (A j).got ≠ (A k).node := fun j hj hg => ht (h.odd hnode hnode1 ⟨j, hj, hg⟩)
      have hr := h.rest _ hnode hnode1 hno
      refine h.turn rfl ⟨hnode, hnode1, l0, l1, fun _ _ => ⟨?_, hr⟩, Or.inl hgot, ok.seen⟩
      show takenB n zs0 (A k).node = false
      unfold takenB at ht ⊢
      rw [← hr]
      simpa using ht
/-- When all have ended, and none took a node, none was free. -/
theorem RaceOk.nobody (h : RaceOk n zs0 zs M A) (hM : 0 < M) (hall : ∀ k, k < M → (A k).left = 0) (h0 : takenTo A M = 0) : (freeL n zs0).length = 0 := by
  have hg := takenTo_zero A M h0 0 hM
  have ok := h.each 0 hM
  have hl := hall 0 hM
  have hc := h.count
  have : freeL n zs = [] := by
    rw [List.eq_nil_iff_forall_not_mem]
    intro x hx
    unfold freeL at hx
    rw [mem_freeTo] at hx
    have hn0 := h.s.n0
    rcases ok.seen hg x hx.1 (by omega) with ht | ht
    · rw [hx.2.2] at ht; cases ht
    · have := (ahead_in ok.node0 ok.node1 hx.1 (show x ≤ n by omega)).1
      omega
  rw [this, h0] at hc
  simpa using hc.symm
/-- At the start. -/
theorem RaceOk.start (hs : Sound 1 n zs) (hA : ∀ k, k < M → ∃ nd, 1 ≤ nd ∧ nd ≤ n ∧ A k = ⟨0, nd, n, false, 0⟩) : RaceOk n zs zs M A := by
  have hn := hs.n0
  have hg : ∀ k, k < M → (A k).got = 0 := fun k hk => by obtain ⟨nd, _, _, h⟩ := hA k hk; rw [h]
  refine ⟨hs, hs, fun k hk => ?_, fun i i0 _ ⟨k, hk, hi⟩ => by rw [hg k hk] at hi; omega, fun _ _ _ _ => rfl, fun j k hjk hk _ => hg j (by omega), ?_⟩
  · obtain ⟨nd, n0, n1, h⟩ := hA k hk
    rw [h]
    exact ⟨n0, n1, by show 0 ≤ n; omega, Int.le_refl _, fun hf => absurd hf (by simp), Or.inl rfl, fun _ i i0 i1 => Or.inr (ahead_in n0 n1 i0 i1).2⟩
  · have : ∀ m, m ≤ M → takenTo A m = 0 := by
      intro m
      induction m with
      | zero => intro _; rfl
      | succ m ih => intro hm; rw [takenTo, ih (by omega), if_pos (hg m (by omega))]
    rw [this M (Nat.le_refl _)]
    rfl
end
end Go.Proofs.Ytglkpajnhdamkaa.life
