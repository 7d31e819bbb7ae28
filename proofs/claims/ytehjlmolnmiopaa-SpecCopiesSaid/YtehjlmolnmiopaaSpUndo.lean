/- What the law SpecUndoes carries: blocks and rows beside a meaning; what is done and undone, by lists alone. -/
import Derived.Test.YtehjlmolnmiopaaSpRight
namespace Go.Proofs.Ytehjlmolnmiopaa.spec
open Go.RowKit task

/-- A block beside a meaning. -/
structure Kp (w : World) (f : Nat → Prop) (b : Nat) (o : Obj) : Prop where
  blk : w.heap[b]? = some o
  off : ¬ f b
section
variable {w w' : World} {f f' : Nat → Prop} {b : Nat} {o : Obj}
theorem Kp.lt (h : Kp w f b o) : b < w.heap.size := (Array.getElem?_eq_some_iff.1 h.blk).1
theorem Kp.went (h : Kp w f b o) (hw : Went f f' w w') : Kp w' f' b o := ⟨(hw.block b h.lt h.off).trans h.blk, hw.apart h.lt h.off⟩
theorem Kp.below (h : Kp w f b o) (hb : Below w.heap.size w w') : Kp w' f b o := ⟨(hb.block b h.lt).trans h.blk, h.off⟩
theorem Kp.new (hf : ∀ b, f b → b < w.heap.size) (cs : Array Value) (T : TypeId) : Kp (w.alloc (.cells cs T)) f w.heap.size (.cells cs T (0, 0)) := ⟨new_block w cs T, fun h => by have := hf _ h; omega⟩
theorem Kp.cell {cs : Array Value} {T : TypeId} {fr : Nat × Nat} (h : Kp w f b (.cells cs T fr)) (i : Nat) : w.cell? ⟨b, i, none⟩ = cs[i]? := Joins.cell_of_block h.blk i
/-- A row of numbers beside a meaning. -/
structure Rk (w : World) (f : Nat → Prop) (g : Nat) (A : Option Addr) (c : Nat) (xs : List Int) : Prop where
  row : Rw w g A c xs
  off : A ≠ none → ¬ f g
variable {g c : Nat} {A : Option Addr} {xs : List Int}
theorem Rk.went (h : Rk w f g A c xs) (hw : Went f f' w w') : Rk w' f' g A c xs := ⟨h.row.moved fun hA => hw.block g (h.row.lt hA) (h.off hA), fun hA => hw.apart (h.row.lt hA) (h.off hA)⟩
theorem Rk.below (h : Rk w f g A c xs) (hb : Below w.heap.size w w') : Rk w' f g A c xs := ⟨h.row.below hb, h.off⟩
end

/-- An operation whose answer is known. -/
theorem do_is (w : World) (X : Nat) (f : Nat → Prop) (s k y v : Int) (ok : Bool) (L M : List Int) (h : Mean w X f s L) (hl : L.length ≤ 999) (hg : Good s L) (hr : rightB s k y = true) (h1 : okB L k y = ok) (h2 : valI L k = v) (h3 : nextL s L k y = M) :
    Calls Try.prog 11 #[.pointer (some ⟨X, 0, none⟩), .agg #[.int .i64 k, .int .i64 y]] w fun e w' => ∃ f', e = .returned (.tuple #[.agg #[.int .i64 0, .bool ok, .int .i64 v], .int .i64 0]) ∧ Mean w' X f' s M ∧ Went f f' w w' := by
  subst h1 h2 h3
  exact do_right w X f s k y L h hl hg hr

/-- A set without a key. -/
def woL (x : Int) (L : List Int) : List Int := L.filter fun y => decide (y ≠ x)
theorem woL_len (x : Int) (L : List Int) : (woL x L).length ≤ L.length := List.length_filter_le _ _
theorem woL_take {x : Int} {L : List Int} {k : Nat} (hk : k < L.length) : woL x (L.take (k + 1)) = woL x (L.take k) ++ if L.getD k 0 ≠ x then [L.getD k 0] else [] := by
  have e : L.getD k 0 = L[k] := by simp [List.getD_eq_getElem?_getD, List.getElem?_eq_getElem hk]
  rw [e]
  unfold woL
  rw [List.take_succ_eq_append_getElem hk, List.filter_append]
  by_cases h : L[k] ≠ x <;> simp [h]
theorem wo_not (x : Int) (L : List Int) : x ∉ woL x L := by
  unfold woL
  simp
theorem wo_same {x : Int} {L : List Int} (h : x ∉ L) : woL x L = L := filter_all fun _ hy => decide_eq_true fun e => h (e ▸ hy)
theorem wo_len {x : Int} {L : List Int} (h : x ∈ L) : (woL x L).length < L.length := by
  unfold woL
  rcases Nat.lt_or_ge (L.filter fun y => decide (y ≠ x)).length L.length with h1 | h1
  · exact h1
  · have h2 := List.length_filter_le (fun y => decide (y ≠ x)) L
    have h3 : L.filter (fun y => decide (y ≠ x)) = L := List.length_filter_eq_length_iff.1 (by omega) |> fun h => filter_all h
    have : x ∈ L.filter (fun y => decide (y ≠ x)) := by rw [h3]; exact h
    simp at this
/-- A key put in, asked for, and taken out. -/
structure Undo (s x : Int) (L M : List Int) : Prop where
  m1 : nextL s L 1 x = M
  m3 : nextL s M 3 x = M
  m2 : nextL s M 2 x = woL x L
  m4 : nextL s (woL x L) 2 x = woL x L
  o1 : okB L 1 x = decide ((woL x L).length = L.length)
  o3 : okB M 3 x = true
  o2 : okB M 2 x = true
  o4 : okB (woL x L) 2 x = false
theorem undo_set {s x : Int} {L : List Int} (hs : SetS s) (hg : Good s L) (hr : rightB s 1 x = true) : Undo s x L (nextL s L 1 x) := by
  have hm : x ∈ nextL s L 1 x := by
    rw [next1]
    split
    · assumption
    · simp
  have hmem : ∀ z, z ∈ nextL s L 1 x ↔ z = x ∨ z ∈ L := by
    intro z
    rw [next1]
    by_cases h : x ∈ L
    · rw [if_pos h]
      exact ⟨Or.inr, fun e => e.elim (fun e => e ▸ h) id⟩
    · rw [if_neg h]
      exact mem_ins
  have hw : woL x (nextL s L 1 x) = woL x L := by
    refine rise_ext _ _ (((hg.next hr).rise hs).filter _) ((hg.rise hs).filter _) fun z => ?_
    unfold woL
    simp only [List.mem_filter, decide_eq_true_eq, hmem]
    exact ⟨fun h => ⟨h.1.elim (fun e => absurd e h.2) id, h.2⟩, fun h => ⟨Or.inr h.1, h.2⟩⟩
  refine ⟨rfl, ?_, ?_, ?_, ?_, ?_, ?_, ?_⟩
  · unfold nextL
    rw [if_neg (by decide), if_neg (by decide), if_neg (by decide), if_neg (by decide)]
  · rw [next2]
    exact hw
  · rw [next2]
    exact wo_same (wo_not x L)
  · unfold okB
    rw [if_pos rfl]
    by_cases h : x ∈ L
    · have := wo_len h
      rw [decide_eq_true h, decide_eq_false (by omega)]
      rfl
    · rw [decide_eq_false h, wo_same h, decide_eq_true rfl]
      rfl
  · unfold okB
    rw [if_neg (by decide), if_neg (by decide), if_neg (by decide)]
    exact decide_eq_true hm
  · unfold okB
    rw [if_neg (by decide), if_neg (by decide), if_neg (by decide)]
    exact decide_eq_true hm
  · unfold okB
    rw [if_neg (by decide), if_neg (by decide), if_neg (by decide)]
    exact decide_eq_false (wo_not x L)
theorem undo_ok {s x : Int} {L : List Int} (hg : Good s L) (hr : rightB s 1 x = true) (hs : SetS s) : okB L 1 x = (((woL x L).length : Int) == (L.length : Int)) := by
  rw [(undo_set hs hg hr).o1, Bool.eq_iff_iff]
  simp
  omega
end Go.Proofs.Ytehjlmolnmiopaa.spec
