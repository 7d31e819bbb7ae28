/- How many nodes are free; the nodes from one on, round and round. -/
import Derived.Test.YtnphnhafifaaoaaL2
namespace Go.Proofs.Ytnphnhafifaaoaa.life
open Go.RowKit mem

/-- So many of m nodes, from i on, are free. -/
def cnt (n : Int) (zs : List Int) (i : Int) : Nat → Nat
  | 0 => 0
  | m + 1 => cnt n zs i m + (if takenB n zs (i + m) = true then 0 else 1)
theorem cnt_add (n : Int) (zs : List Int) (i : Int) (m : Nat) : ∀ p, cnt n zs i (m + p) = cnt n zs i m + cnt n zs (i + m) p
  | 0 => by simp [cnt]
  | p + 1 => by
    rw [show m + (p + 1) = m + p + 1 by omega, cnt, cnt_add n zs i m p, cnt, show i + ((m + p : Nat) : Int) = i + (m : Int) + (p : Int) by omega, Nat.add_assoc]
theorem cnt_le (n : Int) (zs : List Int) (i : Int) : ∀ m, cnt n zs i m ≤ m
  | 0 => by simp [cnt]
  | m + 1 => by
    have := cnt_le n zs i m
    unfold cnt
    split <;> omega
theorem cnt_same (n : Int) (zs ys : List Int) (i : Int) : ∀ m : Nat, (∀ j : Nat, j < m → takenB n ys (i + j) = takenB n zs (i + j)) → cnt n ys i m = cnt n zs i m
  | 0, _ => rfl
  | m + 1, h => by
    rw [cnt, cnt, cnt_same n zs ys i m (fun j hj => h j (by omega)), h m (by omega)]
theorem freeTo_cnt (n : Int) (zs : List Int) : ∀ k, (freeTo n zs k).length = cnt n zs 1 k
  | 0 => rfl
  | k + 1 => by
    have ih := freeTo_cnt n zs k
    rw [freeTo, cnt, List.length_append, ih, show ((k + 1 : Nat) : Int) = 1 + (k : Int) by omega]
    split <;> rfl
theorem freeL_cnt (n : Int) (zs : List Int) : (freeL n zs).length = cnt n zs 1 n.toNat := freeTo_cnt n zs _

theorem taken_put_same {t n : Int} {zs : List Int} (h : Sound t n zs) {i : Int} (i0 : 1 ≤ i) (i1 : i ≤ n) (hf : takenB n zs i = false) : takenB n (putLife n zs i (lifeIn n zs i + 1)) i = true := by
  have h0 := (h.word (n + 4 + i)).1
  have h0 : 0 ≤ lifeIn n zs i := h0
  have : lifeIn n zs i % 2 ≠ 1 := by unfold takenB at hf; simpa using hf
  unfold takenB
  rw [lifeIn_put_same h i0 i1]
  simp
  omega
theorem taken_put_other {n : Int} {zs : List Int} {i j x : Int} (h : i ≠ j) : takenB n (putLife n zs i x) j = takenB n zs j := by
  unfold takenB
  rw [lifeIn_put_other h]
/-- One more is taken: one less is free. -/
theorem cnt_put {t n : Int} {zs : List Int} (h : Sound t n zs) {i : Int} (i0 : 1 ≤ i) (i1 : i ≤ n) (hf : takenB n zs i = false) :
    cnt n (putLife n zs i (lifeIn n zs i + 1)) 1 n.toNat + 1 = cnt n zs 1 n.toNat := by
  have key : ∀ m : Nat, (m : Int) ≤ n → cnt n (putLife n zs i (lifeIn n zs i + 1)) 1 m + (if i ≤ m then 1 else 0) = cnt n zs 1 m := by
    intro m
    induction m with
    | zero => intro _; rw [if_neg (by omega)]; rfl
    | succ m ih =>
      intro hm
      have ih := ih (by omega)
      rw [cnt, cnt]
      by_cases he : i = 1 + (m : Int)
      · have e1 : (if takenB n (putLife n zs i (lifeIn n zs i + 1)) i = true then 0 else 1) = 0 := by rw [taken_put_same h i0 i1 hf]; rfl
        have e2 : (if takenB n zs i = true then 0 else 1) = 1 := by rw [hf]; rfl
        rw [← he, e1, e2, if_pos (show i ≤ ((m + 1 : Nat) : Int) by omega)]
        rw [if_neg (show ¬ i ≤ (m : Int) by omega)] at ih
        omega
      · rw [taken_put_other he]
        by_cases hle : i ≤ (m : Int)
        · rw [if_pos hle] at ih
          rw [if_pos (show i ≤ ((m + 1 : Nat) : Int) by omega)]
          omega
        · rw [if_neg hle] at ih
          rw [if_neg (show ¬ i ≤ ((m + 1 : Nat) : Int) by omega)]
          omega
  have := key n.toNat (by omega)
  rwa [if_pos (by omega)] at this

/-- The nodes that are free, of the first k from a on, round and round. -/
def wantTo (n a : Int) (zs : List Int) : Nat → List Int
  | 0 => []
  | k + 1 => wantTo n a zs k ++ (if takenB n zs (nodeAt n a k) = true then [] else [nodeAt n a k])
theorem wantTo_length (n a : Int) (zs : List Int) : ∀ k, (wantTo n a zs k).length ≤ k
  | 0 => by simp [wantTo]
  | k + 1 => by
    have := wantTo_length n a zs k
    rw [wantTo]
    split <;> simp <;> omega
theorem wantTo_cnt (a : Int) (zs : List Int) (N : Nat) (a0 : 1 ≤ a) (a1 : a ≤ N) : ∀ k : Nat, k ≤ N →
    (wantTo N a zs k).length = if a + k ≤ N + 1 then cnt N zs a k else cnt N zs a (N + 1 - a.toNat) + cnt N zs 1 (k - (N + 1 - a.toNat))
  | 0, _ => by rw [if_pos (by omega)]; rfl
  | k + 1, hk => by
    have ih := wantTo_cnt a zs N a0 a1 k (by omega)
    rw [wantTo, List.length_append, ih]
    by_cases h1 : a + ((k + 1 : Nat) : Int) ≤ N + 1
    · rw [if_pos h1, if_pos (by omega), cnt, show nodeAt N a k = a + k by unfold nodeAt; rw [if_pos (by omega)]]
      split <;> rfl
    · rw [if_neg h1, show nodeAt N a k = a + k - N by unfold nodeAt; rw [if_neg (by omega)]]
      by_cases h2 : a + (k : Int) ≤ N + 1
      · have e : k = N + 1 - a.toNat := by omega
        rw [if_pos h2, ← e, show k + 1 - k = 0 + 1 by omega, cnt, cnt, show a + (k : Int) - N = 1 + ((0 : Nat) : Int) by omega]
        split <;> simp
      · rw [if_neg h2, show k + 1 - (N + 1 - a.toNat) = (k - (N + 1 - a.toNat)) + 1 by omega, cnt, show a + (k : Int) - N = 1 + ((k - (N + 1 - a.toNat) : Nat) : Int) by omega]
        split <;> simp <;> omega
/-- All round, as many are free as there are. -/
theorem wantTo_all (a : Int) (zs : List Int) (N : Nat) (a0 : 1 ≤ a) (a1 : a ≤ N) : (wantTo N a zs N).length = (freeL N zs).length := by
  rw [wantTo_cnt a zs N a0 a1 N (Nat.le_refl _), freeL_cnt]
  have hN : ((N : Int)).toNat = N := by omega
  rw [hN]
  by_cases h : a + (N : Int) ≤ N + 1
  · rw [if_pos h, show a = 1 by omega]
  · rw [if_neg h]
    have := cnt_add N zs 1 (a.toNat - 1) (N + 1 - a.toNat)
    rw [show a.toNat - 1 + (N + 1 - a.toNat) = N by omega, show (1 : Int) + ((a.toNat - 1 : Nat) : Int) = a by omega] at this
    rw [this, show N - (N + 1 - a.toNat) = a.toNat - 1 by omega]
    omega
theorem wantTo_prefix (n a : Int) (zs : List Int) (b : Nat) : ∀ m, ∃ s, wantTo n a zs (b + m) = wantTo n a zs b ++ s
  | 0 => ⟨[], by simp⟩
  | m + 1 => by
    obtain ⟨s, hs⟩ := wantTo_prefix n a zs b m
    rw [show b + (m + 1) = b + m + 1 by omega, wantTo, hs, List.append_assoc]
    exact ⟨_, rfl⟩
theorem wantTo_still (n a : Int) (zs : List Int) (b : Nat) : ∀ m, (∀ p, b ≤ p → p < b + m → takenB n zs (nodeAt n a p) = true) → wantTo n a zs (b + m) = wantTo n a zs b
  | 0, _ => rfl
  | m + 1, h => by
    rw [show b + (m + 1) = b + m + 1 by omega, wantTo, wantTo_still n a zs b m (fun p h0 h1 => h p h0 (by omega)), if_pos (h (b + m) (by omega) (by omega)), List.append_nil]
theorem first_free (P : Nat → Bool) (b : Nat) : ∀ m, (∃ q, b ≤ q ∧ q < b + m ∧ P q = false ∧ ∀ p, b ≤ p → p < q → P p = true) ∨ ∀ p, b ≤ p → p < b + m → P p = true
  | 0 => Or.inr (fun p h0 h1 => absurd h1 (by omega))
  | m + 1 => by
    rcases first_free P b m with ⟨q, h0, h1, h2, h3⟩ | h
    · exact Or.inl ⟨q, h0, by omega, h2, h3⟩
    · cases hp : P (b + m)
      · exact Or.inl ⟨b + m, by omega, by omega, hp, fun p h0 h1 => h p h0 h1⟩
      · refine Or.inr (fun p h0 h1 => ?_)
        by_cases he : p = b + m
        · rw [he]; exact hp
        · exact h p h0 (by omega)
theorem nodeAt_inj {n a : Int} {p q : Nat} (hp : (p : Int) < n) (hq : (q : Int) < n) (h : p ≠ q) : nodeAt n a p ≠ nodeAt n a q := by
  unfold nodeAt
  split <;> split <;> omega

/-- Behind j machines that took nodes from a on. -/
def Turned (N : Nat) (a : Int) (zs ys : List Int) (j : Nat) : Prop :=
  ∃ b, b ≤ N ∧ (∀ p, p < b → takenB N ys (nodeAt N a p) = true) ∧ (∀ p, b ≤ p → p < N → takenB N ys (nodeAt N a p) = takenB N zs (nodeAt N a p)) ∧ (wantTo N a zs b).length = min j (wantTo N a zs N).length
theorem turned_start (N : Nat) (a : Int) (zs : List Int) : Turned N a zs zs 0 := ⟨0, Nat.zero_le _, fun p hp => absurd hp (by omega), fun _ _ _ => rfl, by simp [wantTo]⟩
section
variable {N : Nat} {a t : Int} {zs ys : List Int} {j : Nat}
theorem turned_next (hs : Sound t N ys) (a0 : 1 ≤ a) (a1 : a ≤ N) (h : Turned N a zs ys j) (hj : j < (wantTo N a zs N).length) :
    ∃ q, q < N ∧ (∀ p : Nat, p < q → takenB N ys (nodeAt N a p) = true) ∧ takenB N ys (nodeAt N a q) = false ∧ (wantTo N a zs N).getD j 0 = nodeAt N a q ∧ Turned N a zs (putLife N ys (nodeAt N a q) (lifeIn N ys (nodeAt N a q) + 1)) (j + 1) := by
  obtain ⟨b, hb, h1, h2, h3⟩ := h
  rcases first_free (fun p => takenB N zs (nodeAt N a p)) b (N - b) with ⟨q, q0, q1, q2, q3⟩ | hall
  · have hqN : q < N := by omega
    have hin := nodeAt_in (n := N) (a := a) (k := q) a0 a1 (by omega) (by omega)
    have hfree : takenB N ys (nodeAt N a q) = false := by rw [h2 q q0 hqN]; exact q2
    have hw : wantTo N a zs q = wantTo N a zs b := by
      have := wantTo_still N a zs b (q - b) (fun p p0 p1 => q3 p p0 (by omega))
      rwa [show b + (q - b) = q by omega] at this
    have hw1 : wantTo N a zs (q + 1) = wantTo N a zs b ++ [nodeAt N a q] := by
      rw [wantTo, hw, if_neg (by simpa using q2)]
    obtain ⟨s, hsuf⟩ := wantTo_prefix N a zs (q + 1) (N - (q + 1))
    rw [show q + 1 + (N - (q + 1)) = N by omega, hw1] at hsuf
    have hlen : (wantTo N a zs b).length = j := by omega
    refine ⟨q, hqN, fun p hp => ?_, hfree, ?_, q + 1, by omega, fun p hp => ?_, fun p p0 p1 => ?_, ?_⟩
    · by_cases hpb : p < b
      · exact h1 p hpb
      · rw [h2 p (by omega) (by omega)]
        exact q3 p (by omega) hp
    · rw [hsuf, List.append_assoc, ← hlen, List.getD_eq_getElem?_getD, List.getElem?_append_right (Nat.le_refl _)]
      simp
    · by_cases he : p = q
      · rw [he]
        exact taken_put_same hs hin.1 hin.2 hfree
      · rw [taken_put_other (Ne.symm (nodeAt_inj (by omega) (by omega) he))]
        by_cases hpb : p < b
        · exact h1 p hpb
        · rw [h2 p (by omega) (by omega)]
          exact q3 p (by omega) (by omega)
    · rw [taken_put_other (nodeAt_inj (by omega) (by omega) (by omega)), h2 p (by omega) p1]
    · rw [hw1, List.length_append, hlen]
      simp
      omega
  · exfalso
    have hw : wantTo N a zs N = wantTo N a zs b := by
      have := wantTo_still N a zs b (N - b) hall
      rwa [show b + (N - b) = N by omega] at this
    rw [hw] at h3 hj
    omega
theorem turned_none (h : Turned N a zs ys j) (hj : (wantTo N a zs N).length ≤ j) : (∀ p : Nat, p < N → takenB N ys (nodeAt N a p) = true) ∧ Turned N a zs ys (j + 1) := by
  obtain ⟨b, hb, h1, h2, h3⟩ := h
  refine ⟨fun p hp => ?_, b, hb, h1, h2, by omega⟩
  by_cases hpb : p < b
  · exact h1 p hpb
  · rw [h2 p (by omega) hp]
    cases hc : takenB N zs (nodeAt N a p)
    · exfalso
      obtain ⟨s, hs⟩ := wantTo_prefix N a zs (p + 1) (N - (p + 1))
      rw [show p + 1 + (N - (p + 1)) = N by omega] at hs
      obtain ⟨s2, hs2⟩ := wantTo_prefix N a zs b (p - b)
      rw [show b + (p - b) = p by omega] at hs2
      have e : wantTo N a zs (p + 1) = wantTo N a zs p ++ [nodeAt N a p] := by rw [wantTo, if_neg (by rw [hc]; simp)]
      rw [hs, e, hs2] at h3 hj
      simp at h3 hj
      omega
    · rfl
theorem turned_end (a0 : 1 ≤ a) (a1 : a ≤ N) (h : Turned N a zs ys j) : (freeL N ys).length = (wantTo N a zs N).length - j := by
  obtain ⟨b, hb, h1, h2, h3⟩ := h
  rw [← wantTo_all a ys N a0 a1]
  have key : ∀ m, b + m ≤ N → (wantTo N a ys (b + m)).length + (wantTo N a zs b).length = (wantTo N a zs (b + m)).length := by
    intro m
    induction m with
    | zero =>
      intro _
      have : wantTo N a ys b = [] := by
        have := wantTo_still N a ys 0 b (fun p _ hp => h1 p (by omega))
        rwa [Nat.zero_add] at this
      show (wantTo N a ys b).length + _ = (wantTo N a zs b).length
      rw [this]
      simp
    | succ m ih =>
      intro hm
      have ih := ih (by omega)
      rw [show b + (m + 1) = b + m + 1 by omega, wantTo, wantTo, h2 (b + m) (by omega) (by omega), List.length_append, List.length_append]
      omega
  have := key (N - b) (by omega)
  rw [show b + (N - b) = N by omega] at this
  omega
end
end Go.Proofs.Ytnphnhafifaaoaa.life
