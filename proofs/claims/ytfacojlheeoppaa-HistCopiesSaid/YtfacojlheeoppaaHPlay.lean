/- A history and the events that were taken, beside it. -/
import Derived.Test.YtfacojlheeoppaaHAwake
namespace Go.Proofs.Ytfacojlheeoppaa.hist
open Go.RowKit

/-- An event in a block of its own. -/
structure Blk7 (w : World) (B : Nat) (v : EvV) : Prop where
  box : w.heap[B]? = some (.cells #[.int .i64 v.T, .bool v.E, .int .i64 v.K, .int .i64 v.Y, .int .i64 v.C, .bool v.O, .int .i64 v.V] 32 (0, 0))
section
variable {w w' : World} {B : Nat} {v : EvV}
theorem Blk7.lt (h : Blk7 w B v) : B < w.heap.size := (Array.getElem?_eq_some_iff.1 h.box).1
theorem Blk7.below (h : Blk7 w B v) (hb : Below w.heap.size w w') : Blk7 w' B v := ⟨(hb.block B h.lt).trans h.box⟩
theorem Blk7.went (h : Blk7 w B v) {f f' : Nat → Prop} (hw : Went f f' w w') (hB : ¬ f B) : Blk7 w' B v := ⟨(hw.block B h.lt hB).trans h.box⟩
theorem Blk7.grown (h : Blk7 w B v) {row : Option Nat} (hg : w.grownBy w' row) (hB : some B ≠ row) : Blk7 w' B v := ⟨(hg.block B h.lt hB).trans h.box⟩
theorem Blk7.cells (h : Blk7 w B v) : w.cell? ⟨B, 0, none⟩ = some (.int .i64 v.T) ∧ w.cell? ⟨B, 1, none⟩ = some (.bool v.E) ∧ w.cell? ⟨B, 2, none⟩ = some (.int .i64 v.K) ∧ w.cell? ⟨B, 3, none⟩ = some (.int .i64 v.Y) ∧ w.cell? ⟨B, 4, none⟩ = some (.int .i64 v.C) ∧ w.cell? ⟨B, 5, none⟩ = some (.bool v.O) ∧ w.cell? ⟨B, 6, none⟩ = some (.int .i64 v.V) := by
  have hb := h.box
  refine ⟨?_, ?_, ?_, ?_, ?_, ?_, ?_⟩ <;> (rw [Joins.cell_of_block hb]; rfl)
end
theorem bare_true (w : World) (T K Y C V : Int) (O : Bool) :
    Calls Try.prog 13 #[.agg #[.int .i64 T, .bool true, .int .i64 K, .int .i64 Y, .int .i64 C, .bool O, .int .i64 V]] w fun e w' => e = .returned (.agg #[.int .i64 T, .bool true, .int .i64 0, .int .i64 0, .int .i64 C, .bool O, .int .i64 V]) ∧ Below w.heap.size w w' := bare_any w ⟨T, true, K, Y, C, O, V⟩
theorem bare_false (w : World) (T K Y C V : Int) (O : Bool) :
    Calls Try.prog 13 #[.agg #[.int .i64 T, .bool false, .int .i64 K, .int .i64 Y, .int .i64 C, .bool O, .int .i64 V]] w fun e w' => e = .returned (.agg #[.int .i64 T, .bool false, .int .i64 K, .int .i64 Y, .int .i64 0, .bool false, .int .i64 0]) ∧ Below w.heap.size w w' := bare_any w ⟨T, false, K, Y, C, O, V⟩
theorem Tryinfo_rev : (Try.prog.info? 32).map (fun i => (i.zero, i.size, i.bytes)) = some (some (.agg #[.int .i64 0, .bool false, .int .i64 0, .int .i64 0, .int .i64 0, .bool false, .int .i64 0]), 7, 56) := by kernel_rfl

theorem took_bareL (l : List EvV) : BareE (tookE l) := by
  induction l using snocInd with
  | nil => exact bareL_nil
  | append_singleton l v ih => rw [took_step]; exact step_bare ih v
theorem took_take {l : List EvV} {k : Nat} (hk : k < l.length) : tookE (l.take (k + 1)) = stepE (tookE (l.take k)) l[k] := by
  rw [List.take_succ_eq_append_getElem hk, took_step]
theorem took_take_len (l : List EvV) (k : Nat) : (tookE (l.take k)).length ≤ k := Nat.le_trans (took_len _) (by rw [List.length_take]; exact Nat.min_le_left _ _)

/-- A history of events L, and a row of events R, both made behind world W. -/
structure Play (W w : World) (X : Nat) (f : Nat → Prop) (v : Value) (L R : List EvV) : Prop where
  hst : Hst w X f L
  row : Grow cells7 7 32 W w v R
  apart : ∀ g, v.ownBlock = some g → ¬ f g
  foot : ∀ b, f b → W.heap.size ≤ b
section
variable {W w w' : World} {X : Nat} {f f' : Nat → Prop} {v v' : Value} {L L' R : List EvV}
theorem Play.next (h : Play W w X f v L R) (hb : Below w.heap.size w w') : Play W w' X f v L R := ⟨h.hst.below hb, h.row.next hb, h.apart, h.foot⟩
theorem Play.step (h : Play W w X f v L R) (hm : Hst w' X f' L') (hw : Went f f' w w') : Play W w' X f' v L' R :=
  ⟨hm, h.row.went hw h.foot h.apart, fun g hg => hw.apart (h.row.own.lt hg) (h.apart g hg), hw.from h.row.below.size h.foot⟩
theorem Play.more (h : Play W w X f v L R) {a : EvV} (ho : Own cells7 7 32 w' v' (R ++ [a])) (hg : w.grownBy w' v.ownBlock) (hat : v'.ownBlock = v.ownBlock ∨ v'.ownBlock = some w.heap.size) : Play W w' X f v' L (R ++ [a]) := by
  refine ⟨h.hst.grown hg h.apart, h.row.more ho hg hat, fun g hg' hf => ?_, h.foot⟩
  rcases hat with e | e
  · exact h.apart g (e ▸ hg') hf
  · rw [hg'] at e
    have := Option.some.inj e
    have := h.hst.lt g hf
    omega
end
end Go.Proofs.Ytfacojlheeoppaa.hist
