/- The law TaskOne answers true at any task. -/
import Derived.Test.YtipappihophijaaTkAwake
namespace Go.Proofs.Ytipappihophijaa.task
open Go.RowKit

set_option maxRecDepth 100000 in
set_option maxHeartbeats 2000000 in
theorem one_wrong (w : World) (s k y : Int) (hr : rightB s k y = false) :
    Calls Try.prog 6 #[.agg #[.int .i64 s, .int .i64 k, .int .i64 y]] w fun e w' => e = .returned (.bool true) ∧ Below w.heap.size w w' := by
  have A0 := Lib.hid (One.new w s k y 25)
  have HR := Lib.hid hr
  clear hr
  go_enter Try.func6, Try.ntmps6
  go_wp2_with (first
    | (go_at_call 9; have _t := A2.out; refine (may_any _ s k y).mono ?_; rw [HR.out]; rintro e w3 ⟨rfl, hb3⟩; have A3 := Lib.hid (A2.out.next hb3); clear hb3)
    | (go_at_call 10; have _t := A1.out; refine (right_any _ s k y).mono ?_; rw [HR.out]; rintro e w2 ⟨rfl, hb2⟩; have A2 := Lib.hid (A1.out.next hb2); clear hb2; obtain ⟨d0, d1, d2, -, -⟩ := id A2.out)
    | (go_at_call 7; refine (awake_any _).mono ?_; rintro e w1 ⟨rfl, hb1⟩; have A1 := Lib.hid (A0.out.next hb1); clear hb1; obtain ⟨c0, c1, c2, -, -⟩ := id A1.out))
  go_returns
  exact ⟨rfl, A3.out.below⟩

set_option maxRecDepth 100000 in
set_option maxHeartbeats 4000000 in
theorem one_links (w : World) (s k y h : Int) (hr : rightB s k y = true) (y0 : 0 ≤ y) (y1 : y ≤ 999) (hl : linksB k = true) (hm : marksB s k = false) (hp : popsB s k = false) (hk : k ≠ 3) (hh : headI s y = h) (h0 : 0 ≤ h) (h1 : h < 4) (hz : s = 2 ∨ h = 0) :
    Calls Try.prog 6 #[.agg #[.int .i64 s, .int .i64 k, .int .i64 y]] w fun e w' => e = .returned (.bool true) ∧ Below w.heap.size w w' := by
  have A0 := Lib.hid (One.new w s k y 25)
  have HR := Lib.hid hr
  have HL := Lib.hid hl
  have HM := Lib.hid hm
  have HP := Lib.hid hp
  have HZ := Lib.hid hz
  have HK := Lib.hid hk
  have HH := Lib.hid (And.intro hh (And.intro y0 y1))
  clear hr hl hm hp hz hh hk y0 y1
  go_enter Try.func6, Try.ntmps6
  go_wp2_with (first
    | (go_at_call 10; have _t := A1.out; refine (right_any _ s k y).mono ?_; rw [HR.out]; rintro e w2 ⟨rfl, hb2⟩; have A2 := Lib.hid (A1.out.next hb2); clear hb2; obtain ⟨d0, d1, d2, -, -⟩ := id A2.out)
    | (go_at_call 7; refine (awake_any _).mono ?_; rintro e w1 ⟨rfl, hb1⟩; have A1 := Lib.hid (A0.out.next hb1); clear hb1; obtain ⟨c0, c1, c2, -, -⟩ := id A1.out))
  go_region_held3 (fun wx => wx.cell? ⟨w.heap.size, 0, none⟩ = some (.int .i64 s) ∧ wx.cell? ⟨w.heap.size, 1, none⟩ = some (.int .i64 k) ∧ wx.cell? ⟨w.heap.size, 2, none⟩ = some (.int .i64 y)) (first | exact ⟨A6.out.c0, A6.out.c1, A6.out.c2⟩ | exact ⟨A5.out.c0, A5.out.c1, A5.out.c2⟩ | exact ⟨A4.out.c0, A4.out.c1, A4.out.c2⟩ | exact ⟨A3.out.c0, A3.out.c1, A3.out.c2⟩ | go_keep) (first
    | (go_at_call 15; refine (pops_any _ s k y).mono ?_; rw [HP.out]; rintro e w5 ⟨rfl, hb5⟩; have A5 := Lib.hid (A4.out.next hb5); clear hb5)
    | (go_at_call 14; refine (marks_any _ s k y).mono ?_; rw [HM.out]; rintro e w4 ⟨rfl, hb4⟩; have A4 := Lib.hid (A3.out.next hb4); clear hb4)
    | (go_at_call 13; refine (links_any _ s k y).mono ?_; rw [HL.out]; rintro e w3 ⟨rfl, hb3⟩; have A3 := Lib.hid (A2.out.drew.next hb3); clear hb3))
  all_goals
    go_wp2
    refine wp_loop_rounds 4 ?_
    repeat any_goals (rw [rounds_succ]; go_wp2_with (go_at_call 16; have _t := A5.out; refine (place_any _ s k y HH.out.2.1 HH.out.2.2).mono ?_; rw [HH.out.1]; rintro e w6 ⟨rfl, hb6⟩; have A6 := Lib.hid ((A5.out.alloc' _).next hb6); clear hb6; obtain ⟨g0, g1, g2, gl, -⟩ := id A6.out))
    all_goals
      go_returns
      refine ⟨?_, A6.out.below.alloc A6.out.below.size _⟩
      have hz := HZ.out
      have hk := HK.out
      first | exact absurd rfl hk | (simp [hk]; done) | (simp [hk]; omega)
set_option maxRecDepth 100000 in
set_option maxHeartbeats 4000000 in
theorem one_marks (w : World) (s k y h : Int) (hr : rightB s k y = true) (y0 : 0 ≤ y) (y1 : y ≤ 999) (hl : linksB k = false) (hm : marksB s k = true) (hp : popsB s k = false) (hk : k ≠ 3) (hh : headI s y = h) (h0 : 0 ≤ h) (h1 : h < 4) (hz : s = 2 ∨ h = 0) :
    Calls Try.prog 6 #[.agg #[.int .i64 s, .int .i64 k, .int .i64 y]] w fun e w' => e = .returned (.bool true) ∧ Below w.heap.size w w' := by
  have A0 := Lib.hid (One.new w s k y 25)
  have HR := Lib.hid hr
  have HL := Lib.hid hl
  have HM := Lib.hid hm
  have HP := Lib.hid hp
  have HZ := Lib.hid hz
  have HK := Lib.hid hk
  have HH := Lib.hid (And.intro hh (And.intro y0 y1))
  clear hr hl hm hp hz hh hk y0 y1
  go_enter Try.func6, Try.ntmps6
  go_wp2_with (first
    | (go_at_call 10; have _t := A1.out; refine (right_any _ s k y).mono ?_; rw [HR.out]; rintro e w2 ⟨rfl, hb2⟩; have A2 := Lib.hid (A1.out.next hb2); clear hb2; obtain ⟨d0, d1, d2, -, -⟩ := id A2.out)
    | (go_at_call 7; refine (awake_any _).mono ?_; rintro e w1 ⟨rfl, hb1⟩; have A1 := Lib.hid (A0.out.next hb1); clear hb1; obtain ⟨c0, c1, c2, -, -⟩ := id A1.out))
  go_region_held3 (fun wx => wx.cell? ⟨w.heap.size, 0, none⟩ = some (.int .i64 s) ∧ wx.cell? ⟨w.heap.size, 1, none⟩ = some (.int .i64 k) ∧ wx.cell? ⟨w.heap.size, 2, none⟩ = some (.int .i64 y)) (first | exact ⟨A6.out.c0, A6.out.c1, A6.out.c2⟩ | exact ⟨A5.out.c0, A5.out.c1, A5.out.c2⟩ | exact ⟨A4.out.c0, A4.out.c1, A4.out.c2⟩ | exact ⟨A3.out.c0, A3.out.c1, A3.out.c2⟩ | go_keep) (first
    | (go_at_call 15; refine (pops_any _ s k y).mono ?_; rw [HP.out]; rintro e w5 ⟨rfl, hb5⟩; have A5 := Lib.hid (A4.out.next hb5); clear hb5)
    | (go_at_call 14; refine (marks_any _ s k y).mono ?_; rw [HM.out]; rintro e w4 ⟨rfl, hb4⟩; have A4 := Lib.hid (A3.out.next hb4); clear hb4)
    | (go_at_call 13; refine (links_any _ s k y).mono ?_; rw [HL.out]; rintro e w3 ⟨rfl, hb3⟩; have A3 := Lib.hid (A2.out.drew.next hb3); clear hb3))
  all_goals
    go_wp2
    refine wp_loop_rounds 4 ?_
    repeat any_goals (rw [rounds_succ]; go_wp2_with (go_at_call 16; have _t := A5.out; refine (place_any _ s k y HH.out.2.1 HH.out.2.2).mono ?_; rw [HH.out.1]; rintro e w6 ⟨rfl, hb6⟩; have A6 := Lib.hid ((A5.out.alloc' _).next hb6); clear hb6; obtain ⟨g0, g1, g2, gl, -⟩ := id A6.out))
    all_goals
      go_returns
      refine ⟨?_, A6.out.below.alloc A6.out.below.size _⟩
      have hz := HZ.out
      have hk := HK.out
      first | exact absurd rfl hk | (simp [hk]; done) | (simp [hk]; omega)
set_option maxRecDepth 100000 in
set_option maxHeartbeats 4000000 in
theorem one_pops (w : World) (s k y h : Int) (hr : rightB s k y = true) (y0 : 0 ≤ y) (y1 : y ≤ 999) (hl : linksB k = false) (hm : marksB s k = false) (hp : popsB s k = true) (hk : k ≠ 3) (hh : headI s y = h) (h0 : 0 ≤ h) (h1 : h < 4) (hz : s = 2 ∨ h = 0) :
    Calls Try.prog 6 #[.agg #[.int .i64 s, .int .i64 k, .int .i64 y]] w fun e w' => e = .returned (.bool true) ∧ Below w.heap.size w w' := by
  have A0 := Lib.hid (One.new w s k y 25)
  have HR := Lib.hid hr
  have HL := Lib.hid hl
  have HM := Lib.hid hm
  have HP := Lib.hid hp
  have HZ := Lib.hid hz
  have HK := Lib.hid hk
  have HH := Lib.hid (And.intro hh (And.intro y0 y1))
  clear hr hl hm hp hz hh hk y0 y1
  go_enter Try.func6, Try.ntmps6
  go_wp2_with (first
    | (go_at_call 10; have _t := A1.out; refine (right_any _ s k y).mono ?_; rw [HR.out]; rintro e w2 ⟨rfl, hb2⟩; have A2 := Lib.hid (A1.out.next hb2); clear hb2; obtain ⟨d0, d1, d2, -, -⟩ := id A2.out)
    | (go_at_call 7; refine (awake_any _).mono ?_; rintro e w1 ⟨rfl, hb1⟩; have A1 := Lib.hid (A0.out.next hb1); clear hb1; obtain ⟨c0, c1, c2, -, -⟩ := id A1.out))
  go_region_held3 (fun wx => wx.cell? ⟨w.heap.size, 0, none⟩ = some (.int .i64 s) ∧ wx.cell? ⟨w.heap.size, 1, none⟩ = some (.int .i64 k) ∧ wx.cell? ⟨w.heap.size, 2, none⟩ = some (.int .i64 y)) (first | exact ⟨A6.out.c0, A6.out.c1, A6.out.c2⟩ | exact ⟨A5.out.c0, A5.out.c1, A5.out.c2⟩ | exact ⟨A4.out.c0, A4.out.c1, A4.out.c2⟩ | exact ⟨A3.out.c0, A3.out.c1, A3.out.c2⟩ | go_keep) (first
    | (go_at_call 15; refine (pops_any _ s k y).mono ?_; rw [HP.out]; rintro e w5 ⟨rfl, hb5⟩; have A5 := Lib.hid (A4.out.next hb5); clear hb5)
    | (go_at_call 14; refine (marks_any _ s k y).mono ?_; rw [HM.out]; rintro e w4 ⟨rfl, hb4⟩; have A4 := Lib.hid (A3.out.next hb4); clear hb4)
    | (go_at_call 13; refine (links_any _ s k y).mono ?_; rw [HL.out]; rintro e w3 ⟨rfl, hb3⟩; have A3 := Lib.hid (A2.out.drew.next hb3); clear hb3))
  all_goals
    go_wp2
    refine wp_loop_rounds 4 ?_
    repeat any_goals (rw [rounds_succ]; go_wp2_with (go_at_call 16; have _t := A5.out; refine (place_any _ s k y HH.out.2.1 HH.out.2.2).mono ?_; rw [HH.out.1]; rintro e w6 ⟨rfl, hb6⟩; have A6 := Lib.hid ((A5.out.alloc' _).next hb6); clear hb6; obtain ⟨g0, g1, g2, gl, -⟩ := id A6.out))
    all_goals
      go_returns
      refine ⟨?_, A6.out.below.alloc A6.out.below.size _⟩
      have hz := HZ.out
      have hk := HK.out
      first | exact absurd rfl hk | (simp [hk]; done) | (simp [hk]; omega)
set_option maxRecDepth 100000 in
set_option maxHeartbeats 4000000 in
theorem one_has (w : World) (s y h : Int) (hr : rightB s 3 y = true) (y0 : 0 ≤ y) (y1 : y ≤ 999) (hl : linksB 3 = false) (hm : marksB s 3 = false) (hp : popsB s 3 = false) (hh : headI s y = h) (h0 : 0 ≤ h) (h1 : h < 4) (hz : s = 2 ∨ h = 0) :
    Calls Try.prog 6 #[.agg #[.int .i64 s, .int .i64 3, .int .i64 y]] w fun e w' => e = .returned (.bool true) ∧ Below w.heap.size w w' := by
  have A0 := Lib.hid (One.new w s 3 y 25)
  have HR := Lib.hid hr
  have HL := Lib.hid hl
  have HM := Lib.hid hm
  have HP := Lib.hid hp
  have HZ := Lib.hid hz
  have HH := Lib.hid (And.intro hh (And.intro y0 y1))
  clear hr hl hm hp hz hh y0 y1
  go_enter Try.func6, Try.ntmps6
  go_wp2_with (first
    | (go_at_call 10; have _t := A1.out; refine (right_any _ s 3 y).mono ?_; rw [HR.out]; rintro e w2 ⟨rfl, hb2⟩; have A2 := Lib.hid (A1.out.next hb2); clear hb2; obtain ⟨d0, d1, d2, -, -⟩ := id A2.out)
    | (go_at_call 7; refine (awake_any _).mono ?_; rintro e w1 ⟨rfl, hb1⟩; have A1 := Lib.hid (A0.out.next hb1); clear hb1; obtain ⟨c0, c1, c2, -, -⟩ := id A1.out))
  go_region_held3 (fun wx => wx.cell? ⟨w.heap.size, 0, none⟩ = some (.int .i64 s) ∧ wx.cell? ⟨w.heap.size, 1, none⟩ = some (.int .i64 3) ∧ wx.cell? ⟨w.heap.size, 2, none⟩ = some (.int .i64 y)) (first | exact ⟨A6.out.c0, A6.out.c1, A6.out.c2⟩ | exact ⟨A5.out.c0, A5.out.c1, A5.out.c2⟩ | exact ⟨A4.out.c0, A4.out.c1, A4.out.c2⟩ | exact ⟨A3.out.c0, A3.out.c1, A3.out.c2⟩ | go_keep) (first
    | (go_at_call 15; refine (pops_any _ s 3 y).mono ?_; rw [HP.out]; rintro e w5 ⟨rfl, hb5⟩; have A5 := Lib.hid (A4.out.next hb5); clear hb5)
    | (go_at_call 14; refine (marks_any _ s 3 y).mono ?_; rw [HM.out]; rintro e w4 ⟨rfl, hb4⟩; have A4 := Lib.hid (A3.out.next hb4); clear hb4)
    | (go_at_call 13; refine (links_any _ s 3 y).mono ?_; rw [HL.out]; rintro e w3 ⟨rfl, hb3⟩; have A3 := Lib.hid (A2.out.drew.next hb3); clear hb3))
  all_goals
    go_wp2
    refine wp_loop_rounds 4 ?_
    repeat any_goals (rw [rounds_succ]; go_wp2_with (go_at_call 16; have _t := A5.out; refine (place_any _ s 3 y HH.out.2.1 HH.out.2.2).mono ?_; rw [HH.out.1]; rintro e w6 ⟨rfl, hb6⟩; have A6 := Lib.hid ((A5.out.alloc' _).next hb6); clear hb6; obtain ⟨g0, g1, g2, gl, -⟩ := id A6.out))
    all_goals
      go_returns
      refine ⟨?_, A6.out.below.alloc A6.out.below.size _⟩
      have hz := HZ.out
      first | rfl | (simp; done) | (simp; omega)
theorem one_any (w : World) (s k y : Int) :
    Calls Try.prog 6 #[.agg #[.int .i64 s, .int .i64 k, .int .i64 y]] w fun e w' => e = .returned (.bool true) ∧ Below w.heap.size w w' := by
  cases hr : rightB s k y
  · exact one_wrong w s k y hr
  · have hi := (right_iff s k y).1 hr
    have y0 : 0 ≤ y := by omega
    have y1 : y ≤ 999 := by omega
    have h0 : 0 ≤ headI s y ∧ headI s y < 4 ∧ (s = 2 ∨ headI s y = 0) := by unfold headI; split <;> omega
    by_cases h3 : k = 3
    · subst h3
      have hs : s = 1 ∨ s = 2 := by omega
      refine one_has w s y _ hr y0 y1 (by decide) ?_ ?_ rfl h0.1 h0.2.1 h0.2.2
      · rcases hs with rfl | rfl <;> decide
      · rcases hs with rfl | rfl <;> decide
    · have hc : (s = 1 ∧ k = 1) ∨ (s = 2 ∧ k = 1) ∨ (s = 3 ∧ k = 4) ∨ (s = 4 ∧ k = 4) ∨ (s = 1 ∧ k = 2) ∨ (s = 2 ∧ k = 2) ∨ (s = 3 ∧ k = 5) ∨ (s = 4 ∧ k = 5) := by omega
      rcases hc with ⟨rfl, rfl⟩ | ⟨rfl, rfl⟩ | ⟨rfl, rfl⟩ | ⟨rfl, rfl⟩ | ⟨rfl, rfl⟩ | ⟨rfl, rfl⟩ | ⟨rfl, rfl⟩ | ⟨rfl, rfl⟩
      · exact one_links w 1 1 y _ hr y0 y1 (by decide) (by decide) (by decide) h3 rfl h0.1 h0.2.1 h0.2.2
      · exact one_links w 2 1 y _ hr y0 y1 (by decide) (by decide) (by decide) h3 rfl h0.1 h0.2.1 h0.2.2
      · exact one_links w 3 4 y _ hr y0 y1 (by decide) (by decide) (by decide) h3 rfl h0.1 h0.2.1 h0.2.2
      · exact one_links w 4 4 y _ hr y0 y1 (by decide) (by decide) (by decide) h3 rfl h0.1 h0.2.1 h0.2.2
      · exact one_marks w 1 2 y _ hr y0 y1 (by decide) (by decide) (by decide) h3 rfl h0.1 h0.2.1 h0.2.2
      · exact one_marks w 2 2 y _ hr y0 y1 (by decide) (by decide) (by decide) h3 rfl h0.1 h0.2.1 h0.2.2
      · exact one_marks w 3 5 y _ hr y0 y1 (by decide) (by decide) (by decide) h3 rfl h0.1 h0.2.1 h0.2.2
      · exact one_pops w 4 5 y _ hr y0 y1 (by decide) (by decide) (by decide) h3 rfl h0.1 h0.2.1 h0.2.2
end Go.Proofs.Ytipappihophijaa.task
