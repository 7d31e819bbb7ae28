/- The desc package's small functions, and the document's: what each call returns; nothing that was there has changed. -/
import Derived.Test.YtckplpojlhdmhaaDoorRows
import Derived.WalkKit
import Derived.WalkSpells
import Derived.WalkLawsBesides
import Derived.Handy
import Derived.Lib.Hide
import Derived.Outline
namespace Go.Proofs.YtckplpojlhdmhaaDoor.desc
open Go.RowKit

theorem bcell {W w1 : World} (hb : Below W.heap.size W w1) : (∀ b o, b < W.heap.size → w1.cell? ⟨b, o, none⟩ = W.cell? ⟨b, o, none⟩) ∧ (∀ b o, b < W.heap.size → w1.frozen? ⟨b, o, none⟩ = W.frozen? ⟨b, o, none⟩) :=
  ⟨fun b o h => hb.cell (p := ⟨b, o, none⟩) h, fun b o h => hb.frozen (p := ⟨b, o, none⟩) h⟩

/-- A mark as a number. -/
def mk (m : Bool) : Int := if m = true then 1 else 0

/-- A descriptor by value. -/
abbrev dv (t a v n : Int) (m : Bool) (s x : Int) : Value := .agg #[.int .i64 t, .int .i64 a, .int .i64 v, .int .i64 n, .bool m, .int .i64 s, .int .i64 x]

set_option maxHeartbeats 400000 in
theorem numbers_any (w : World) (t a v n : Int) (m : Bool) (s x : Int) :
    Calls Tryd.prog 20 #[.agg #[.int .i64 t, .int .i64 a, .int .i64 v, .int .i64 n, .bool m, .int .i64 s, .int .i64 x]] w fun e w' => e = .returned (.agg #[.int .i64 t, .int .i64 a, .int .i64 v, .int .i64 n, .int .i64 (mk m), .int .i64 s, .int .i64 x]) ∧ Below w.heap.size w w' := by
  cases m
  all_goals
    go_enter Tryd.func20, Tryd.ntmps20
    go_wp2
    go_returns
    exact ⟨rfl, by go_grown⟩

/-- The table of the fields' widths, as the program lays it. -/
structure Table (w : World) : Prop where
  c0 : w.cell? ⟨0, 0, none⟩ = some (.int .i64 12)
  c1 : w.cell? ⟨0, 1, none⟩ = some (.int .i64 9)
  c2 : w.cell? ⟨0, 2, none⟩ = some (.int .i64 18)
  c3 : w.cell? ⟨0, 3, none⟩ = some (.int .i64 9)
  c4 : w.cell? ⟨0, 4, none⟩ = some (.int .i64 1)
  c5 : w.cell? ⟨0, 5, none⟩ = some (.int .i64 3)
  c6 : w.cell? ⟨0, 6, none⟩ = some (.int .i64 10)
  size : 0 < w.heap.size

/-- Where the fields begin, and where the last one ends: eight cells of a block. -/
structure Begs (w : World) (b : Nat) : Prop where
  c0 : w.cell? ⟨b, 0, none⟩ = some (.int .i64 0)
  c1 : w.cell? ⟨b, 1, none⟩ = some (.int .i64 12)
  c2 : w.cell? ⟨b, 2, none⟩ = some (.int .i64 21)
  c3 : w.cell? ⟨b, 3, none⟩ = some (.int .i64 39)
  c4 : w.cell? ⟨b, 4, none⟩ = some (.int .i64 48)
  c5 : w.cell? ⟨b, 5, none⟩ = some (.int .i64 49)
  c6 : w.cell? ⟨b, 6, none⟩ = some (.int .i64 52)
  c7 : w.cell? ⟨b, 7, none⟩ = some (.int .i64 62)
  size : b < w.heap.size
theorem Begs.below {w w' : World} {b : Nat} (h : Begs w b) (hb : Below w.heap.size w w') : Begs w' b :=
  ⟨(hb.cell h.size).trans h.c0, (hb.cell h.size).trans h.c1, (hb.cell h.size).trans h.c2, (hb.cell h.size).trans h.c3, (hb.cell h.size).trans h.c4, (hb.cell h.size).trans h.c5, (hb.cell h.size).trans h.c6, (hb.cell h.size).trans h.c7, Nat.lt_of_lt_of_le h.size hb.size⟩

set_option maxRecDepth 100000 in
set_option maxHeartbeats 2000000 in
theorem begins_any (w : World) (ht : Table w) :
    Calls Tryd.prog 19 #[] w fun e w' => e = .returned (.slice (some ⟨w.heap.size + 1, 0, none⟩) 8 8) ∧ Begs w' (w.heap.size + 1) ∧ Below w.heap.size w w' := by
  obtain ⟨t0, t1, t2, t3, t4, t5, t6, hz⟩ := ht
  have hmk : ∀ w : World, (Instr.makeSlice 35 (.int .i64 0) (.int .i64 8)).run Tryd.prog w = .ok (.slice (some ⟨w.heap.size, 0, none⟩) 0 8) (w.alloc (.cells #[.int .i64 0, .int .i64 0, .int .i64 0, .int .i64 0, .int .i64 0, .int .i64 0, .int .i64 0, .int .i64 0] 3)) := fun _ => by kernel_rfl
  go_enter Tryd.func19, Tryd.ntmps19
  go_wp2
  go_rounds 8
  go_returns
  refine ⟨rfl, ⟨by go_simp, by go_simp, by go_simp, by go_simp, by go_simp, by go_simp, by go_simp, by go_simp, by simp⟩, by go_grown⟩
end Go.Proofs.YtckplpojlhdmhaaDoor.desc
