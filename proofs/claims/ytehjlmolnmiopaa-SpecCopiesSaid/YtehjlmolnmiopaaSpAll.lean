/- The law SpecAll answers true at any shape and any operations. -/
import Derived.Test.YtehjlmolnmiopaaSpPlays
namespace Go.Proofs.Ytehjlmolnmiopaa.spec
open Go.RowKit task

/-- May they be played, the first k of them? -/
def mayTo (s : Int) (os : List OpV) (k : Nat) : Bool := decide (1 ≤ s ∧ s ≤ 4) && (os.take k).all fun o => rightB s o.K o.Y
theorem mayTo_succ (s : Int) (os : List OpV) (k : Nat) (hk : k < os.length) : mayTo s os (k + 1) = (mayTo s os k && rightB s os[k].K os[k].Y) := by
  unfold mayTo
  rw [List.take_succ_eq_append_getElem hk, List.all_append, List.all_cons, List.all_nil, Bool.and_true, Bool.and_assoc]
theorem mayTo_all {s : Int} {os : List OpV} (h : mayTo s os os.length = true) : (1 ≤ s ∧ s ≤ 4) ∧ allRight s os := by
  unfold mayTo at h
  rw [List.take_length, Bool.and_eq_true, decide_eq_true_eq, List.all_eq_true] at h
  exact h
theorem mayTo_not {s : Int} {os : List OpV} (h : mayTo s os os.length = false) (hs : 1 ≤ s ∧ s ≤ 4) : ¬ allRight s os := by
  intro ha
  unfold mayTo at h
  rw [List.take_length, decide_eq_true hs, Bool.true_and] at h
  have : (os.all fun o => rightB s o.K o.Y) = true := List.all_eq_true.2 ha
  rw [h] at this
  exact absurd this (by decide)
theorem play_refused (w : World) (s : Int) (a : Option Addr) (os : List OpV) (N cap : Nat) (hN : os.length = N) (hl : N ≤ 60) (hx : OpsAt w a os) (hm : mayTo s os N = false) :
    Calls Try.prog 18 #[.int .i64 s, .slice a N cap] w (Refused w) := by
  by_cases hs : 1 ≤ s ∧ s ≤ 4
  · exact play_wrong w s a os N cap hs hN hl hx (mayTo_not (by rw [hN]; exact hm) hs)
  · exact play_none w s a N cap hs

theorem play_told (w : World) (s : Int) (a : Option Addr) (os : List OpV) (N cap : Nat) (hs : 1 ≤ s ∧ s ≤ 4) (hN : os.length = N) (hl : N ≤ 60) (hx : OpsAt w a os) (hr : allRight s os) :
    Calls Try.prog 18 #[.int .i64 s, .slice a N cap] w fun e w' => ∃ X f g c, e = .returned (.tuple #[.slice (some ⟨g, 0, none⟩) N c, .pointer (some ⟨X, 0, none⟩), .int .i64 0]) ∧ w'.ownsRow w.heap.size 37 3 (.slice (some ⟨g, 0, none⟩) N c) N (resTo s os N) ∧ Run w w' X f s (stateL s os) := by
  refine (play_right w s a os N cap hs hN hl hx hr).mono fun e w' ⟨X, f, g, c, he, hrow, _, hm, hf, hb⟩ => ⟨X, f, g, c, ?_, ?_, hm, good_state s os hr, hf, hb⟩
  · rw [he, hN]
  · rw [hN] at hrow; exact hrow
theorem first_nil (w : World) (X : Nat) (f : Nat → Prop) (s : Int) (h : Mean w X f s []) :
    Calls Try.prog 19 #[.pointer (some ⟨X, 0, none⟩)] w fun e w' => e = .returned (.tuple #[.int .i64 0, .bool false]) ∧ ∃ n, w' = w.drewN n := by
  obtain ⟨t, h1, hi, _⟩ := h
  exact first_none w X s t h1 hi
theorem first_cons (w : World) (X : Nat) (f : Nat → Prop) (s x : Int) (L : List Int) (h : Mean w X f s (x :: L)) (hl : (x :: L).length ≤ 1000) :
    Calls Try.prog 19 #[.pointer (some ⟨X, 0, none⟩)] w fun e w' => e = .returned (.tuple #[.int .i64 x, .bool true]) ∧ ∃ n, w' = w.drewN n := by
  obtain ⟨t, h1, hi, _⟩ := h
  exact first_some w X s t x L h1 hi (by rw [hi]; exact hl)
/-- Its items, none. -/
theorem items_nil (w : World) (X : Nat) (f : Nat → Prop) (s : Int) (h : Mean w X f s []) :
    Calls Try.prog 15 #[.pointer (some ⟨X, 0, none⟩)] w fun e w' => ∃ A c, e = .returned (.slice A 0 c) ∧ Below w.heap.size w w' :=
  (items_mean w X f s [] h (by simp)).mono fun _ _ ⟨A, c, _, he, _, _, hb⟩ => ⟨A, c, he, hb⟩
/-- Its items, some. -/
theorem items_cons (w : World) (X : Nat) (f : Nat → Prop) (s x : Int) (L : List Int) (h : Mean w X f s (x :: L)) (hl : (x :: L).length ≤ 1000) :
    Calls Try.prog 15 #[.pointer (some ⟨X, 0, none⟩)] w fun e w' => ∃ g o n c, e = .returned (.slice (some ⟨g, o, none⟩) n c) ∧ (0 : Int) < (n : Int) ∧ w'.cell? ⟨g, o, none⟩ = some (.int .i64 x) ∧ Below w.heap.size w w' := by
  refine (items_mean w X f s (x :: L) h hl).mono fun _ _ ⟨A, c, g, he, hr, _, hb⟩ => ?_
  obtain ⟨o, hA, hrow⟩ := hr.row (by simp)
  subst hA
  exact ⟨g, o, _, c, he, by simp, hrow.cell (j := 0) (by simp), hb⟩

attribute [local go_sem] eq_res
set_option maxRecDepth 100000 in
set_option maxHeartbeats 1000000 in
theorem all_long (w : World) (s : Int) (a : Option Addr) (N cap : Nat) (hl : 60 < (N : Int)) :
    Calls Try.prog 4 #[.int .i64 s, .slice a N cap] w fun e w' => e = .returned (.bool true) ∧ Below w.heap.size w w' := by
  go_enter Try.func4, Try.ntmps4
  go_wp2_with (go_at_call 8; refine (awake_any _).mono ?_; rintro e w1 ⟨rfl, hb⟩; have HB := Lib.hid hb; clear hb)
  go_returns
  exact ⟨rfl, HB.out⟩
set_option maxRecDepth 100000 in
set_option maxHeartbeats 8000000 in
theorem all_short (w : World) (s : Int) (a : Option Addr) (os : List OpV) (N cap : Nat) (hN : os.length = N) (hc : N ≤ cap) (hl : (N : Int) ≤ 60) (hx : OpsAt w a os) :
    Calls Try.prog 4 #[.int .i64 s, .slice a N cap] w fun e w' => e = .returned (.bool true) ∧ Below w.heap.size w w' := by
  have HX := Lib.hid hx
  have HN := Lib.hid hN
  clear hx hN
  have h0 : mayTo s os 0 = decide (1 ≤ s ∧ s ≤ 4) := by unfold mayTo; simp
  have H0 := Lib.hid h0
  clear h0
  go_enter Try.func4, Try.ntmps4
  go_wp2_with (first
    | (go_at_call 8; refine (awake_any _).mono ?_; rintro e w1 ⟨rfl, hb⟩; have HB1 := Lib.hid hb; clear hb)
    | (go_at_call 10; refine (none_any _ s).mono ?_; rw [← H0.out]; rintro e w3 ⟨rfl, hw⟩; obtain rfl := hw))
  go_loopw [5, 26] (fun v i wr => ∃ k : Nat, k ≤ N ∧ i = .int .i64 k ∧ v = .bool (mayTo s os k) ∧ Below w.heap.size w wr) (fun _ i _ => N - (intOf i).toNat)
  case atStart => exact ⟨0, Nat.zero_le _, rfl, by simp, HB1.out⟩
  case round =>
    clear HB1
    obtain ⟨k, hk, rfl, rfl, hb⟩ := hrel
    have HB := Lib.hid hb
    clear hb
    by_cases hlt : k < N
    · have hkl : k < os.length := by rw [HN.out]; exact hlt
      obtain ⟨b, rfl, c0, c1⟩ := HX.out.later HB.out k hkl
      have HS := Lib.hid (mayTo_succ s os k hkl)
      generalize os[k] = o at *
      obtain ⟨K, Y⟩ := o
      simp only at c0 c1
      cases hr : mayTo s os k
      · have HR := Lib.hid hr
        clear hr
        go_wp2
        go_roundw
        case rel => exact ⟨k + 1, by omega, by go_num, by rw [HS.out, HR.out]; rfl, HB.out.alloc HB.out.size _⟩
        case measure => simp [intOf]; omega
      · have HR := Lib.hid hr
        clear hr
        go_wp2_with (go_at_call 12; refine (may_any _ s K Y).mono ?_; rintro e w2 ⟨rfl, hb2⟩; have HB2 := Lib.hid (past (HB.out.alloc HB.out.size _) hb2); clear hb2)
        all_goals
          go_roundw
          case rel => exact ⟨k + 1, by omega, by go_num, by rw [HS.out, HR.out]; rfl, HB2.out⟩
          case measure => simp [intOf]; omega
    · have hkN : k = N := by omega
      subst hkN
      cases hr : mayTo s os k
      · have HR := Lib.hid hr
        clear hr
        go_wp2_with (go_at_call 18; refine (play_refused _ s a os k cap HN.out (by omega) (HX.out.later HB.out) HR.out).mono ?_; rintro e w3 ⟨rfl, hb3⟩; have HB3 := Lib.hid (past HB.out hb3); clear hb3)
        go_returns
        exact ⟨rfl, HB3.out⟩
      · have HR := Lib.hid (mayTo_all (by rw [HN.out]; exact hr))
        clear hr
        go_wp2_with (go_at_call 18; go_loud (refine (play_told _ s a os k cap HR.out.1 HN.out (by omega) (HX.out.later HB.out) HR.out.2).mono ?_; rintro e w3 ⟨X, f, g, c, rfl, hrow, hrun⟩; have HB3 := Lib.hid (past HB.out hrun.below); have M3 := Lib.hid hrun.mean; have ROW := Lib.hid hrow; clear hrow hrun))
        go_loopw [72] (fun i wx => ∃ j : Nat, j ≤ k ∧ i = .int .i64 j ∧ Below w3.heap.size w3 wx) (fun i _ => k - (intOf i).toNat)
        case atStart => exact ⟨0, Nat.zero_le _, rfl, Below.refl _ _⟩
        case round =>
          obtain ⟨j, hj, rfl, hbx⟩ := hrel
          have HBX := Lib.hid hbx
          clear hbx
          by_cases hlt2 : j < k
          · have hjl : j < os.length := by rw [HN.out]; exact hlt2
            obtain ⟨b, rfl, c0, c1⟩ := HX.out.later (past HB3.out HBX.out) j hjl
            obtain ⟨d0, d1, d2⟩ := row_res (owns_below ROW.out HBX.out) (by rw [HN.out]; exact Nat.le_refl _) j hjl hlt2
            have HTA := told_agree (right_take HR.out.2 j) (right_at HR.out.2 hjl)
            have HRJ := Lib.hid (right_at HR.out.2 hjl)
            have HTL : Hid ((os.take j).length = j) := by show _ = _; simp; omega
            rw [HTA.1] at d1
            rw [HTA.2] at d2
            clear HTA
            generalize os[j] = o at *
            obtain ⟨K, Y⟩ := o
            simp only at c0 c1 d0 d1 d2
            have hjc : j ≤ cap := by omega
            go_wp2
            have B1 : Hid (Below wr.heap.size wr (wr.alloc (.cells #[.int .i64 K, .int .i64 Y] 35))) := (Below.refl _ _).alloc (Nat.le_refl _) _
            have e0 := (B1.out.cell (World.block_lt_of_cell? wr _ d0)).trans d0
            have e1 := (B1.out.cell (World.block_lt_of_cell? wr _ d1)).trans d1
            have e2 := (B1.out.cell (World.block_lt_of_cell? wr _ d2)).trans d2
            have k0 : (wr.alloc (.cells #[.int .i64 K, .int .i64 Y] 35)).cell? ⟨wr.heap.size, 0, none⟩ = some (.int .i64 K) := by go_simp
            have k1 : (wr.alloc (.cells #[.int .i64 K, .int .i64 Y] 35)).cell? ⟨wr.heap.size, 1, none⟩ = some (.int .i64 Y) := by go_simp
            go_region_held3 (fun wx => wx.cell? ⟨wr.heap.size, 0, none⟩ = some (.int .i64 K) ∧ wx.cell? ⟨wr.heap.size, 1, none⟩ = some (.int .i64 Y) ∧ wx.cell? ⟨g, j * 3, none⟩ = some (.int .i64 0) ∧ wx.cell? ⟨g, j * 3 + 1, none⟩ = some (.bool (okR s (os.take j) K Y)) ∧ wx.cell? ⟨g, j * 3 + 2, none⟩ = some (.int .i64 (valR s (os.take j) K))) (go_keep)
              ((go_at_call 13; go_loud (refine (res_any _ s K Y (some b) (os.take j) j cap HTL.out (by omega) (by omega) (((HX.out.later (past HB3.out HBX.out)).later (B1.out.drew)).take j) HRJ.out).mono ?_; rintro e w4 ⟨rfl, hb4⟩; have B4 := Lib.hid (past B1.out.drew hb4); obtain ⟨f0, f1⟩ : w4.cell? ⟨wr.heap.size, 0, none⟩ = some (.int .i64 K) ∧ w4.cell? ⟨wr.heap.size, 1, none⟩ = some (.int .i64 Y) := ⟨(hb4.cell (p := ⟨wr.heap.size, 0, none⟩) (by simp)).trans k0, (hb4.cell (p := ⟨wr.heap.size, 1, none⟩) (by simp)).trans k1⟩; have g0 := (B4.out.cell (World.block_lt_of_cell? wr _ d0)).trans d0; have g1 := (B4.out.cell (World.block_lt_of_cell? wr _ d1)).trans d1; have g2 := (B4.out.cell (World.block_lt_of_cell? wr _ d2)).trans d2; clear hb4)))
            go_wp2
            go_roundw
            case rel => exact ⟨j + 1, by omega, by go_num, past HBX.out B4.out⟩
            case measure => simp [intOf]; omega
          · have hjk : j = k := by omega
            subst hjk
            have M4 := Lib.hid (M3.out.below HBX.out)
            have hsl : (stateL s os).length ≤ 1000 := by have := state_len s os; have := HN.out; omega
            have HSL := Lib.hid hsl
            clear hsl
            cases hi : stateL s os with
            | nil =>
              have HI := Lib.hid hi
              clear hi
              go_wp2_with (first
                | (go_at_call 19; refine (first_nil _ X f s (by rw [← HI.out]; exact M4.out)).mono ?_; rintro e w5 ⟨rfl, hw⟩; have B5 := Lib.hid (drewN_below hw); clear hw)
                | (go_at_call 15; refine (items_nil _ X f s (by rw [← HI.out]; exact M4.out.below B5.out)).mono ?_; rintro e w6 ⟨A, c, rfl, hb⟩; have B6 := Lib.hid (past B5.out hb); clear hb))
              go_returns
              exact ⟨rfl, past HB3.out (past HBX.out B6.out)⟩
            | cons x L =>
              have HI := Lib.hid hi
              clear hi
              go_wp2_with (first
                | (go_at_call 19; refine (first_cons _ X f s x L (by rw [← HI.out]; exact M4.out) (by rw [← HI.out]; exact HSL.out)).mono ?_; rintro e w5 ⟨rfl, hw⟩; have B5 := Lib.hid (drewN_below hw); clear hw)
                | (go_at_call 15; refine (items_cons _ X f s x L (by rw [← HI.out]; exact M4.out.below B5.out) (by rw [← HI.out]; exact HSL.out)).mono ?_; rintro e w6 ⟨gi, oi, ni, ci, rfl, hn0, hcell, hb⟩; have B6 := Lib.hid (past B5.out hb); clear hb))
              go_returns
              exact ⟨rfl, past HB3.out (past HBX.out B6.out)⟩

theorem all_any (w : World) (s : Int) (a : Option Addr) (os : List OpV) (N cap : Nat) (hN : os.length = N) (hc : N ≤ cap) (hx : OpsAt w a os) :
    Calls Try.prog 4 #[.int .i64 s, .slice a N cap] w fun e w' => e = .returned (.bool true) ∧ Below w.heap.size w w' := by
  by_cases hl : 60 < (N : Int)
  · exact all_long w s a N cap hl
  · exact all_short w s a os N cap hN hc (by omega) hx
end Go.Proofs.Ytehjlmolnmiopaa.spec
