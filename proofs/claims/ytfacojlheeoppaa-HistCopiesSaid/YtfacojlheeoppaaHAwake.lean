/- The document's example is told as the document has it. -/
import Derived.Test.YtfacojlheeoppaaHStep
import Derived.Test.YtfacojlheeoppaaHCalls
namespace Go.Proofs.Ytfacojlheeoppaa.hist
open Go.RowKit

/-- The example's events. -/
def ex1 : List EvV := [⟨0, false, 1, 0, 0, false, 0⟩]
def ex2 : List EvV := [⟨0, false, 1, 0, 0, false, 0⟩, ⟨1, false, 2, 0, 0, false, 0⟩]
def ex3 : List EvV := [⟨0, false, 1, 0, 0, false, 0⟩, ⟨1, false, 2, 0, 0, false, 0⟩, ⟨0, true, 0, 0, 0, true, 0⟩]
theorem ex_calls : callsE ex3 = [⟨0, 0, 2, 1, 0, 0, true, 0⟩, ⟨1, 1, -1, 2, 0, 0, false, 0⟩] := rfl
theorem ex_row {W w : World} {v : Value} (h : Grow cells9 9 51 W w v (callsE ex3)) : ∃ g c, v = .slice (some ⟨g, 0, none⟩) 2 c ∧ 2 ≤ c ∧ w.cell? ⟨g, 0, none⟩ = some (.int .i64 0) ∧ w.cell? ⟨g, 1, none⟩ = some (.int .i64 2) ∧ w.cell? ⟨g, 9, none⟩ = some (.int .i64 1) ∧ w.cell? ⟨g, 10, none⟩ = some (.int .i64 (-1)) := by
  rw [ex_calls] at h
  obtain ⟨A, c, rfl, h1, _, ha⟩ := h.own.slice
  obtain ⟨b, hb, _⟩ := (h.own.at len9) 0 (by decide)
  have e := ha b hb
  rw [e] at hb
  subst hb
  have hc := h.own.cells (g := b.block) rfl
  have k0 := hc 0 _ rfl
  have k1 := hc 1 _ rfl
  have k9 := hc 9 _ rfl
  have k10 := hc 10 _ rfl
  rw [Addr.add_lit] at k0 k1 k9 k10
  exact ⟨b.block, c, rfl, h1, k0, k1, k9, k10⟩

attribute [local go_sem] eq_op eq_res eq_span
set_option maxRecDepth 100000 in
set_option maxHeartbeats 4000000 in
theorem awake_any (w : World) :
    Calls Try.prog 8 #[] w fun e w' => e = .returned (.bool true) ∧ Below w.heap.size w w' := by
  go_enter Try.func8, Try.ntmps8
  go_wp2_with (first
    | (go_at_call 21; have _t := H4.out; go_loud (refine (calls_any _ X f4 ex3 H4.out (by decide)).mono ?_; rintro e w5 ⟨v, rfl, hg⟩; obtain ⟨g, c, rfl, hc, k0, k1, k9, k10⟩ := ex_row hg; have B5 := Lib.hid (past B4.out hg.below); clear hg))
    | (go_at_call 10; have _t := H3.out; go_loud (refine (end_any _ X f3 ex2 H3.out (by decide) 0 0 0 true (by decide)).mono ?_; rintro e w4 ⟨f4, rfl, hm, hw⟩; have H4 : Hid (Hst w4 X f4 ex3) := Lib.hid hm; have B4 := Lib.hid (hw.below B3.out B3.out.size N3.out); clear hm hw))
    | (go_at_call 11; have _t := H2.out; go_loud (refine (begin_any _ X f2 ex1 H2.out (by decide) 1 2 0 (by decide)).mono ?_; rintro e w3 ⟨f3, rfl, hm, hw⟩; have H3 : Hid (Hst w3 X f3 ex2) := Lib.hid hm; have N3 := Lib.hid (hw.from B2.out.size N2.out); have B3 := Lib.hid (hw.below B2.out B2.out.size N2.out); clear hm hw))
    | (go_at_call 11; have _t := H1.out; go_loud (refine (begin_any _ X f1 [] H1.out (by decide) 0 1 0 (by decide)).mono ?_; rintro e w2 ⟨f2, rfl, hm, hw⟩; have H2 : Hid (Hst w2 X f2 ex1) := Lib.hid hm; have N2 := Lib.hid (hw.from B1.out.size N1.out); have B2 := Lib.hid (hw.below B1.out B1.out.size N1.out); clear hm hw))
    | (go_at_call 9; go_loud (refine (new_any _).mono ?_; rintro e w1 ⟨X, f1, rfl, hm, hn, hb⟩; have H1 := Lib.hid hm; have N1 := Lib.hid hn; have B1 := Lib.hid hb; clear hm hn hb)))
  go_region_held3 (fun wx => wx.cell? ⟨g, 0, none⟩ = some (.int .i64 0) ∧ wx.cell? ⟨g, 1, none⟩ = some (.int .i64 2) ∧ wx.cell? ⟨g, 9, none⟩ = some (.int .i64 1) ∧ wx.cell? ⟨g, 10, none⟩ = some (.int .i64 (-1))) (first | exact ⟨m0, m1, m9, m10⟩ | exact ⟨n0, n1, n9, n10⟩ | go_keep)
    (first
      | (go_at_call 22; have _t := B6.out; go_loud (refine (before_any w6 _ _ _ _).mono ?_; rintro e w7 ⟨rfl, hb⟩; have B7 := Lib.hid (past B6.out hb); obtain ⟨m0, m1, m9, m10⟩ : w7.cell? ⟨g, 0, none⟩ = some (.int .i64 0) ∧ w7.cell? ⟨g, 1, none⟩ = some (.int .i64 2) ∧ w7.cell? ⟨g, 9, none⟩ = some (.int .i64 1) ∧ w7.cell? ⟨g, 10, none⟩ = some (.int .i64 (-1)) := ⟨(hb.cell (World.block_lt_of_cell? w6 _ n0)).trans n0, (hb.cell (World.block_lt_of_cell? w6 _ n1)).trans n1, (hb.cell (World.block_lt_of_cell? w6 _ n9)).trans n9, (hb.cell (World.block_lt_of_cell? w6 _ n10)).trans n10⟩; clear hb))
      | (go_at_call 23; go_loud (refine (spanPend_any _ _ _).mono ?_; rintro e w6 ⟨rfl, hb0⟩; have hb := past (drew_below w5) hb0; have B6 := Lib.hid (past B5.out hb); obtain ⟨n0, n1, n9, n10⟩ : w6.cell? ⟨g, 0, none⟩ = some (.int .i64 0) ∧ w6.cell? ⟨g, 1, none⟩ = some (.int .i64 2) ∧ w6.cell? ⟨g, 9, none⟩ = some (.int .i64 1) ∧ w6.cell? ⟨g, 10, none⟩ = some (.int .i64 (-1)) := ⟨(hb.cell (World.block_lt_of_cell? w5 _ k0)).trans k0, (hb.cell (World.block_lt_of_cell? w5 _ k1)).trans k1, (hb.cell (World.block_lt_of_cell? w5 _ k9)).trans k9, (hb.cell (World.block_lt_of_cell? w5 _ k10)).trans k10⟩; clear hb hb0)))
  go_wp2
  go_returns
  exact ⟨rfl, B7.out⟩
end Go.Proofs.Ytfacojlheeoppaa.hist
