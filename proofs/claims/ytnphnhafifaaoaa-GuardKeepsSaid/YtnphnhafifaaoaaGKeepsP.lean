/- A scan between whose steps others store in slots: how far it has come, and what holds of it. -/
import Derived.Test.YtnphnhafifaaoaaG4
namespace Go.Proofs.Ytnphnhafifaaoaa.guard
open Go.RowKit mem life

section
variable {n t : Int} {zs U : List Int}
/-- One node more is given back: what is taken then. -/
theorem taken_up (hs : Sound t n zs) (hU : ∀ x ∈ U, 1 ≤ x ∧ x ≤ n) (hn : U.Nodup) {j : Nat} (hj : j < U.length) (h : ∀ i, 1 ≤ i → i ≤ n → takenB n zs i = !decide (i ∈ U.take j)) :
    ∀ i, 1 ≤ i → i ≤ n → takenB n (upLife n zs (U.getD j 0)) i = !decide (i ∈ U.take (j + 1)) := by
  intro i i0 i1
  have hg : U.getD j 0 = U[j] := by rw [List.getD_eq_getElem?_getD, List.getElem?_eq_getElem hj]; rfl
  have hin := hU U[j] (List.getElem_mem _)
  have hnot : U[j] ∉ U.take j := by
    intro hm
    obtain ⟨q, hq, he⟩ := List.getElem_of_mem hm
    rw [List.getElem_take] at he
    have hq2 : q < j := by simp at hq; omega
    exact (List.pairwise_iff_getElem.1 hn) q j (by omega) hj hq2 he
  unfold upLife
  rw [hg, List.take_succ_eq_append_getElem hj]
  by_cases hx : i = U[j]
  · rw [hx, taken_up_same hs hin.1 hin.2, h _ hin.1 hin.2, decide_eq_false hnot, decide_eq_true (List.mem_append.2 (Or.inr (List.mem_singleton.2 rfl)))]
    rfl
  · rw [taken_put_other (Ne.symm hx), h i i0 i1]
    congr 1
    by_cases hm : i ∈ U.take j
    · rw [decide_eq_true hm, decide_eq_true (List.mem_append.2 (Or.inl hm))]
    · rw [decide_eq_false hm, decide_eq_false (fun hc => by
        rcases List.mem_append.1 hc with h1 | h1
        · exact hm h1
        · exact hx (List.mem_singleton.1 h1))]
end

/-- How far the scan has come: m steps; it has ended, or not. -/
def Run5 (W : World) (X Y C at' : Nat) (k : Int) (A : List Int) (done : Bool) (m : Nat) (zs : List Int) (w : World) : Prop :=
  Sound 4 40 zs ∧ slotW 40 zs at' = k ∧ ∃ ws : List Int, (at' < ws.length → ws.getD at' 0 = k) ∧
    ((done = false ∧ ws.length = m ∧ (m < 8 ∨ (m = 8 ∧ 0 < (untold ws A).length)) ∧ Looking W X Y C 4 40 zs A ws w ∧ ∀ i : Int, 1 ≤ i → i ≤ 40 → takenB 40 zs i = !decide (i ∈ (untold ws A).take 0))
    ∨ (done = false ∧ ws.length = 8 ∧ ∃ j D, m = 8 + j ∧ 0 < j ∧ j < (untold ws A).length ∧ Giving W X Y C 4 40 zs A ws j D w ∧ ∀ i : Int, 1 ≤ i → i ≤ 40 → takenB 40 zs i = !decide (i ∈ (untold ws A).take j))
    ∨ (done = true ∧ ws.length = 8 ∧ Over W X Y C 4 40 zs A ws w ∧ ∀ i : Int, 1 ≤ i → i ≤ 40 → takenB 40 zs i = !decide (i ∈ (untold ws A).take (untold ws A).length)))
section
variable {W w w' : World} {X Y C at' : Nat} {k : Int} {A : List Int} {done : Bool} {m : Nat} {zs zs' : List Int}
theorem Over.next {t n : Int} {L ws : List Int} (h : Over W X Y C t n zs L ws w) (hb : Below w.heap.size w w') : Over W X Y C t n zs L ws w' := by
  obtain ⟨gv, kv, fv, hsc, h1, h2⟩ := h
  exact ⟨gv, kv, fv, hsc.next hb, h1.below hb, h2.below hb⟩
theorem Run5.next (h : Run5 W X Y C at' k A done m zs w) (hb : Below w.heap.size w w') : Run5 W X Y C at' k A done m zs w' := by
  obtain ⟨h1, h2, ws, h3, h4⟩ := h
  refine ⟨h1, h2, ws, h3, ?_⟩
  rcases h4 with ⟨a, b, c, d, e⟩ | ⟨a, b, j, D, c, d, e, f, g⟩ | ⟨a, b, c, d⟩
  · exact Or.inl ⟨a, b, c, d.next hb, e⟩
  · exact Or.inr (Or.inl ⟨a, b, j, D, c, d, e, f.next hb, g⟩)
  · exact Or.inr (Or.inr ⟨a, b, c.next hb, d⟩)
/-- Another stores in another slot. -/
theorem Run5.act (h : Run5 W X Y C at' k A done m zs w) {i v : Int} (i0 : 0 ≤ i) (hi : i ≠ at') (v0 : 0 ≤ v) (v1 : v < 18446744073709551616) (hm : MemS w' X Y 4 40 (setAt zs (slotA 40 i) v)) (ha : Apart X Y w w') : Run5 W X Y C at' k A done m (setAt zs (slotA 40 i) v) w' := by
  obtain ⟨h1, h2, ws, h3, h4⟩ := h
  have ht : ∀ U : List Int, (∀ i : Int, 1 ≤ i → i ≤ 40 → takenB 40 zs i = !decide (i ∈ U)) → ∀ q : Int, 1 ≤ q → q ≤ 40 → takenB 40 (setAt zs (slotA 40 i) v) q = !decide (q ∈ U) := fun U hU q q0 q1 => by rw [taken_set i0 q1]; exact hU q q0 q1
  refine ⟨sound_set h1 v0 v1, by rw [slotW_set_other hi]; exact h2, ws, h3, ?_⟩
  rcases h4 with ⟨a, b, c, d, e⟩ | ⟨a, b, j, D, c, d, e, f, g⟩ | ⟨a, b, c, d⟩
  · exact Or.inl ⟨a, b, c, d.act hm ha, ht _ e⟩
  · exact Or.inr (Or.inl ⟨a, b, j, D, c, d, e, f.act hm ha, ht _ g⟩)
  · exact Or.inr (Or.inr ⟨a, b, c.act hm ha, ht _ d⟩)
theorem Run5.frame (h : Run5 W X Y C at' k A done m zs w) : MemS w X Y 4 40 zs ∧ Apart3 X Y C W w := by
  obtain ⟨h1, h2, ws, h3, h4⟩ := h
  rcases h4 with ⟨a, b, c, ⟨nv, tv, hi, hsc, _⟩, e⟩ | ⟨a, b, j, D, c, d, e, ⟨nv, r, g, cc, hi, hsc, _⟩, _⟩ | ⟨a, b, ⟨gv, kv, fv, hsc, _⟩, d⟩
  · exact ⟨hsc.mem, hsc.apart⟩
  · exact ⟨hsc.mem, hsc.apart⟩
  · exact ⟨hsc.mem, hsc.apart⟩
theorem Run5.few (h : Run5 W X Y C at' k A false m zs w) (hA : A.length ≤ 61) : m < 100 := by
  obtain ⟨h1, h2, ws, h3, h4⟩ := h
  have hU : (untold ws A).length ≤ A.length := List.length_filter_le _ _
  rcases h4 with ⟨a, b, c, d, e⟩ | ⟨a, b, j, D, c, d, e, f, g⟩ | ⟨a, b, c, d⟩
  · omega
  · omega
  · cases a
theorem up_slot {x : Int} (x1 : x ≤ 40) (h : slotW 40 zs at' = k) : slotW 40 (upLife 40 zs x) at' = k := by
  unfold upLife
  rw [slotW_put x1 (by omega)]
  exact h
theorem up_sound {x : Int} (h : Sound 4 40 zs) : Sound 4 40 (upLife 40 zs x) := h.put _ _ (wrap_word _).1 (wrap_word _).2
theorem mem_getD {U : List Int} {j : Nat} (h : j < U.length) : U.getD j 0 ∈ U := by
  rw [List.getD_eq_getElem?_getD, List.getElem?_eq_getElem h]
  exact List.getElem_mem _
theorem at_more {ws : List Int} {z : Int} (h : at' < ws.length → ws.getD at' 0 = k) (hz : ws.length = at' → z = k) : at' < (ws ++ [z]).length → (ws ++ [z]).getD at' 0 = k := by
  intro hlt
  rw [List.getD_eq_getElem?_getD]
  by_cases ha : at' < ws.length
  · rw [List.getElem?_append_left ha, ← List.getD_eq_getElem?_getD]
    exact h ha
  · have he : ws.length = at' := by simp at hlt; omega
    rw [List.getElem?_append_right (by omega), he, Nat.sub_self]
    exact hz he
/-- One step more. -/
theorem Run5.step (hl : A.length ≤ 1000) (hA : ∀ x ∈ A, 1 ≤ x ∧ x ≤ 40) (hn : A.Nodup) (h : Run5 W X Y C at' k A false m zs w) :
    Calls Try.prog 22 #[.pointer (some ⟨C, 0, none⟩), .pointer (some ⟨X, 0, none⟩)] w fun e w' => ∃ dn zs', e = .returned (.bool dn) ∧ Run5 W X Y C at' k A dn (m + 1) zs' w' := by
  obtain ⟨hs, hk, ws, hat, h4⟩ := h
  have hA2 : ∀ x ∈ A, 0 ≤ x ∧ x ≤ 1000 := fun x hx => by have := hA x hx; omega
  have hUi : ∀ vs, ∀ x ∈ untold vs A, 1 ≤ x ∧ x ≤ 40 := fun vs x hx => hA x (List.mem_filter.1 hx).1
  have hUn : ∀ vs, (untold vs A).Nodup := fun vs => hn.filter _
  -- a step that gives back
  have give : ∀ (j : Nat), ws.length = 8 → m = 8 + j → j < (untold ws A).length → Full W w X Y C 4 40 zs → (∀ w1, Below w.heap.size w w1 → Gets W X Y C 4 40 zs A ws j w1) → (∀ i : Int, 1 ≤ i → i ≤ 40 → takenB 40 zs i = !decide (i ∈ (untold ws A).take j)) →
      Calls Try.prog 22 #[.pointer (some ⟨C, 0, none⟩), .pointer (some ⟨X, 0, none⟩)] w fun e w' => ∃ dn zs', e = .returned (.bool dn) ∧ Run5 W X Y C at' k A dn (m + 1) zs' w' := by
    intro j hw8 hmj hj hf hg ht
    have ht' := taken_up hs (hUi ws) (hUn ws) hj ht
    have hin := hUi ws _ (mem_getD hj)
    by_cases hlast : j + 1 < (untold ws A).length
    · refine (step_give hs hl hA hf hg hlast).mono ?_
      rintro e w' ⟨rfl, D, hp⟩
      exact ⟨false, _, rfl, up_sound hs, up_slot hin.2 hk, ws, hat, Or.inr (Or.inl ⟨rfl, hw8, j + 1, D, by omega, by omega, hlast, hp, ht'⟩)⟩
    · have he : j + 1 = (untold ws A).length := by omega
      refine (step_over hs hl hA hf hg he).mono ?_
      rintro e w' ⟨rfl, hp⟩
      rw [he] at ht'
      exact ⟨true, _, rfl, up_sound hs, up_slot hin.2 hk, ws, hat, Or.inr (Or.inr ⟨rfl, hw8, hp, ht'⟩)⟩
  rcases h4 with ⟨_, hwm, hm, hlook, ht⟩ | ⟨_, hw8, j, D, hmj, j0, j1, hgv, ht⟩ | ⟨hc, _⟩
  · by_cases hm8 : m < 8
    · have hz : ws.length = at' → slotW 40 zs ws.length = k := fun he => by rw [he]; exact hk
      have hat' := at_more hat hz
      have hlen : (ws ++ [slotW 40 zs ws.length]).length = m + 1 := by simp [hwm]
      have ht0 : ∀ vs, ∀ i : Int, 1 ≤ i → i ≤ 40 → takenB 40 zs i = !decide (i ∈ (untold vs A).take 0) := fun vs i i0 i1 => by rw [ht i i0 i1]; simp
      by_cases hm7 : m < 7
      · refine (step_look hs hlook (by omega)).mono ?_
        rintro e w' ⟨rfl, hp⟩
        exact ⟨false, zs, rfl, hs, hk, _, hat', Or.inl ⟨rfl, hlen, Or.inl (by omega), hp, ht0 _⟩⟩
      · by_cases hU : 0 < (untold (ws ++ [slotW 40 zs ws.length]) A).length
        · refine (step_last hs hl hA2 hlook (by omega) hU).mono ?_
          rintro e w' ⟨rfl, hp⟩
          exact ⟨false, zs, rfl, hs, hk, _, hat', Or.inl ⟨rfl, hlen, Or.inr ⟨by omega, hU⟩, hp, ht0 _⟩⟩
        · have hU0 : (untold (ws ++ [slotW 40 zs ws.length]) A).length = 0 := by omega
          refine (step_end hs hl hA2 hlook (by omega) hU0).mono ?_
          rintro e w' ⟨rfl, hp⟩
          exact ⟨true, zs, rfl, hs, hk, _, hat', Or.inr (Or.inr ⟨rfl, by omega, hp, by rw [hU0]; exact ht0 _⟩)⟩
    · have hm8 : m = 8 ∧ 0 < (untold ws A).length := by omega
      have hw8 : ws.length = 8 := by omega
      exact give 0 hw8 (by omega) hm8.2 (full_look hlook (by omega)) (fun w1 hb => gets_new (by omega) hl hA2 (hlook.next hb) (by omega) hm8.2) ht
  · exact give j hw8 hmj j1 (full_give hgv) (fun w1 hb => gets_old (hgv.next hb)) ht
  · cases hc
/-- What comes out. -/
theorem Run5.out (h : Run5 W X Y C at' k A true m zs w) (ha : at' < 8) (hk : k ∈ A) : ∃ ws kv fv nv s tv gv, Sc W w X Y C 4 40 zs kv fv nv s tv gv ∧ Nums w W.heap.size kv (told ws A) ∧ Nums w W.heap.size fv (untold ws A) ∧ k ∈ told ws A ∧ k ∉ untold ws A ∧ (told ws A).length + (untold ws A).length = A.length ∧
    ∀ x ∈ A, (∀ y ∈ A, 1 ≤ y ∧ y ≤ 40) → takenB 40 zs x = decide (x ∈ told ws A) := by
  obtain ⟨hs, hkz, ws, hat, h4⟩ := h
  rcases h4 with ⟨a, _⟩ | ⟨a, _⟩ | ⟨_, hw8, ⟨gv, kv, fv, hsc, h1, h2⟩, ht⟩
  · cases a
  · cases a
  · have hkw : k ∈ ws := by
      have := hat (by omega)
      rw [← this]
      exact mem_getD (by omega)
    refine ⟨ws, kv, fv, _, _, _, gv, hsc, h1, h2, List.mem_filter.2 ⟨hk, decide_eq_true hkw⟩, fun hc => (of_decide_eq_true (List.mem_filter.1 hc).2) hkw, ?_, fun x hx hA => ?_⟩
    · have key : ∀ L : List Int, (told ws L).length + (untold ws L).length = L.length := by
        intro L
        induction L with
        | nil => rfl
        | cons y L ih =>
          unfold told untold at *
          rw [List.filter_cons, List.filter_cons]
          by_cases hy : y ∈ ws
          · rw [if_pos (decide_eq_true hy), if_neg (by rw [decide_eq_false (fun h => h hy)]; exact Bool.false_ne_true), List.length_cons, List.length_cons]
            omega
          · rw [if_neg (by rw [decide_eq_false hy]; exact Bool.false_ne_true), if_pos (decide_eq_true hy), List.length_cons, List.length_cons]
            omega
      exact key A
    · have hin := hA x hx
      rw [ht x hin.1 hin.2, List.take_length]
      by_cases hxw : x ∈ ws
      · have hF : x ∉ untold ws A := fun hc => (of_decide_eq_true (List.mem_filter.1 hc).2) hxw
        have hK : x ∈ told ws A := List.mem_filter.2 ⟨hx, decide_eq_true hxw⟩
        rw [decide_eq_false hF, decide_eq_true hK]
        rfl
      · have hF : x ∈ untold ws A := List.mem_filter.2 ⟨hx, decide_eq_true hxw⟩
        have hK : x ∉ told ws A := fun hc => hxw (of_decide_eq_true (List.mem_filter.1 hc).2)
        rw [decide_eq_true hF, decide_eq_false hK]
        rfl
end
end Go.Proofs.Ytnphnhafifaaoaa.guard
