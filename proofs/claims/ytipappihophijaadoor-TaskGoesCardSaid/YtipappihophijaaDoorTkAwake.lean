/- The document's example is told as the document has it. -/
import Derived.Test.YtipappihophijaaDoorTkDoes
import Derived.Test.YtipappihophijaaDoorTkEqw
namespace Go.Proofs.YtipappihophijaaDoor.task
open Go.RowKit
attribute [local go_sem] eq_place

/-- A task in the call's own first block. -/
structure One (W w : World) (b : Nat) (s k y : Int) : Prop where
  c0 : w.cell? ⟨b, 0, none⟩ = some (.int .i64 s)
  c1 : w.cell? ⟨b, 1, none⟩ = some (.int .i64 k)
  c2 : w.cell? ⟨b, 2, none⟩ = some (.int .i64 y)
  lt : b < w.heap.size
  below : Below W.heap.size W w
theorem One.next {W w w' : World} {b : Nat} {s k y : Int} (h : One W w b s k y) (hb : Below w.heap.size w w') : One W w' b s k y :=
  ⟨(hb.cell h.lt).trans h.c0, (hb.cell h.lt).trans h.c1, (hb.cell h.lt).trans h.c2, Nat.lt_of_lt_of_le h.lt hb.size, h.below.trans (hb.mono h.below.size)⟩
theorem One.drew {W w : World} {b : Nat} {s k y : Int} (h : One W w b s k y) : One W w.drew b s k y := ⟨h.c0, h.c1, h.c2, h.lt, h.below.drew⟩
/-- A block more: nothing else has changed. -/
theorem One.alloc' {W w : World} {b : Nat} {s k y : Int} (h : One W w b s k y) (o : Obj) : One W (w.alloc o) b s k y := h.next ((Below.refl _ _).alloc (Nat.le_refl _) o)
theorem One.new (W : World) (s k y : Int) (t : TypeId) : One W (W.alloc (.cells #[.int .i64 s, .int .i64 k, .int .i64 y] t)) W.heap.size s k y :=
  ⟨by go_simp, by go_simp, by go_simp, by simp, (Below.refl _ _).alloc (Nat.le_refl _) _⟩

set_option maxRecDepth 100000 in
set_option maxHeartbeats 1000000 in
theorem awake_any (w : World) :
    Calls Tryd.prog 4 #[] w fun e w' => e = .returned (.bool true) ∧ Below w.heap.size w w' := by
  have H0 := Lib.hid (One.new w 2 2 7 25)
  have P1 : ∀ u, Calls Tryd.prog 11 #[.agg #[.int .i64 2, .int .i64 2, .int .i64 7]] u fun e w' => e = .returned (.tuple #[.int .u64 466, .int .i64 0]) ∧ Below u.heap.size u w' := fun u => put_right u 2 2 7 (by decide)
  have P2 : ∀ u, Calls Tryd.prog 7 #[.agg #[.int .i64 2, .int .i64 2, .int .i64 7]] u fun e w' => e = .returned (.agg #[.int .i64 3, .int .i64 7]) ∧ Below u.heap.size u w' := fun u => place_any u 2 2 7 (by decide) (by decide)
  have P3 : ∀ u, Calls Tryd.prog 9 #[.agg #[.int .i64 2, .int .i64 2, .int .i64 7]] u fun e w' => e = .returned (.bool true) ∧ Below u.heap.size u w' := fun u => marks_any u 2 2 7
  have P4 : ∀ u, Calls Tryd.prog 8 #[.agg #[.int .i64 2, .int .i64 2, .int .i64 7]] u fun e w' => e = .returned (.bool false) ∧ Below u.heap.size u w' := fun u => links_any u 2 2 7
  go_enter Tryd.func4, Tryd.ntmps4
  go_wp2_with (first
    | (go_at_call 11; refine (P1 _).mono ?_; rintro e w1 ⟨rfl, hb1⟩; have H1 := Lib.hid (H0.out.next hb1); clear hb1; obtain ⟨c0, c1, c2, -, -⟩ := id H1.out)
    | (go_at_call 7; refine (P2 _).mono ?_; rintro e w2 ⟨rfl, hb2⟩; have H2 := Lib.hid (H1.out.next hb2); clear hb2; obtain ⟨d0, d1, d2, -, -⟩ := id H2.out)
    | (go_at_call 9; refine (P3 _).mono ?_; rintro e w3 ⟨rfl, hb3⟩; have H3 := Lib.hid (H2.out.next hb3); clear hb3; obtain ⟨e0, e1, e2, -, -⟩ := id H3.out)
    | (go_at_call 8; refine (P4 _).mono ?_; rintro e w4 ⟨rfl, hb4⟩; have H4 := Lib.hid (H3.out.next hb4); clear hb4))
  go_returns
  exact ⟨rfl, H4.out.below⟩
end Go.Proofs.YtipappihophijaaDoor.task
