/- The law HistPlays answers true at every list of events. -/
import Derived.Test.YtfacojlheeoppaaHPlay
namespace Go.Proofs.Ytfacojlheeoppaa.hist
open Go.RowKit

attribute [local go_sem] eq_op eq_res eq_span
set_option maxRecDepth 100000 in
set_option maxHeartbeats 8000000 in
theorem plays_any (w : World) (a : Option Addr) (l : List EvV) (N cap : Nat) (hN : l.length = N) (hx : At cells7 7 w a l) :
    Calls Try.prog 3 #[.slice a N cap] w fun e w' => e = .returned (.bool true) ∧ Below w.heap.size w w' := by
  have HX := Lib.hid hx
  have HN := Lib.hid hN
  clear hx hN
  by_cases h60 : N ≤ 60
  · have hl0 : (N : Int) ≤ 60 := by omega
    go_enter Try.func3, Try.ntmps3
    go_wp2_with (first
      | (go_at_call 9; have _t := A1.out; go_loud (refine (new_any _).mono ?_; rintro e w2 ⟨X, f, rfl, hm, hn, hb⟩; have P0 : Hid (Play w w2 X f (.slice none 0 0) [] []) := Lib.hid ⟨hm, Grow.nil _ _ _ (past A1.out hb), fun g hg => (by simp [Value.ownBlock] at hg), fun b hb => Nat.le_trans A1.out.size (hn b hb)⟩; clear hm hn hb))
      | (go_at_call 8; go_loud (refine (awake_any _).mono ?_; rintro e w1 ⟨rfl, hb⟩; have A1 := Lib.hid hb; clear hb)))
    go_loopw [4, 16] (fun v i wr => ∃ (k : Nat) (f' : Nat → Prop), k ≤ N ∧ i = .int .i64 (k : Int) ∧ Play w wr X f' v (tookE (l.take k)) (tookE (l.take k))) (fun _ i _ => N - (intOf i).toNat)
    case atStart => exact ⟨0, f, Nat.zero_le _, rfl, P0.out⟩
    case round =>
      clear P0
      obtain ⟨k, f1, hk, rfl, hp⟩ := hrel
      have HP := Lib.hid hp
      clear hp
      by_cases hlt : k < N
      · have hkl : k < l.length := by rw [HN.out]; exact hlt
        have hki : (k : Int) < (N : Int) := by omega
        obtain ⟨b, rfl, p0, p1, p2, p3, p4, p5, p6⟩ := (HX.out.later HP.out.row.below).ev k hkl
        have hbl := World.block_lt_of_cell? wr _ p0
        have HT := Lib.hid (took_take hkl)
        have HL := Lib.hid (Nat.le_trans (took_take_len l k) hk)
        generalize tookE (l.take k) = L at *
        generalize l[k] = u at *
        obtain ⟨A, c, rfl, hc1, hc2, ha⟩ := HP.out.row.told len7
        clear hc1 hc2 ha
        obtain ⟨T, E, K, Y, C, O, V⟩ := u
        simp only at p0 p1 p2 p3 p4 p5 p6
        have HF : Hid (¬ f1 wr.heap.size) := Lib.hid fun h => absurd (HP.out.hst.lt _ h) (Nat.lt_irrefl _)
        have HG : Hid (some wr.heap.size ≠ (Value.slice A L.length c).ownBlock) := Lib.hid fun h => absurd (HP.out.row.own.lt h.symm) (Nat.lt_irrefl _)
        have HL0 : Hid (L.length ≤ 1000) := by have := HL.out; show _ ≤ _; omega
        obtain ⟨i0, hi, hz0, hz1, hz2⟩ := info_parts Tryinfo_rev
        cases E
        · obtain ⟨x, hxe⟩ : ∃ x, errE L ⟨T, false, K, Y, C, O, V⟩ = x := ⟨_, rfl⟩
          have HE := Lib.hid hxe
          have B0 : Hid (Blk7 (wr.alloc (.cells #[.int .i64 T, .bool false, .int .i64 K, .int .i64 Y, .int .i64 C, .bool O, .int .i64 V] 32)) wr.heap.size ⟨T, false, K, Y, C, O, V⟩) := Lib.hid ⟨new_block _ _ _⟩
          have BA : Hid (Below wr.heap.size wr (wr.alloc (.cells #[.int .i64 T, .bool false, .int .i64 K, .int .i64 Y, .int .i64 C, .bool O, .int .i64 V] 32))) := Lib.hid ((Below.refl _ _).alloc (Nat.le_refl _) _)
          by_cases h0 : x = 0
          · subst h0
            have HS : Hid (stepE L ⟨T, false, K, Y, C, O, V⟩ = L ++ [⟨T, false, K, Y, 0, false, 0⟩]) := Lib.hid (step_yes hxe)
            clear hxe
            go_wp2_with (first
              | (at_builtin; have _t := P3.out; go_loud (obtain ⟨v4, w4, hrun, hown, hgr, hat, -⟩ := append_row len7 (w3.alloc (.cells #[.int .i64 T, .bool false, .int .i64 K, .int .i64 Y, .int .i64 0, .bool false, .int .i64 0] 32)) 22 22 32 i0 _ 56 Try.underlying22 hi hz0 hz1 hz2 rfl (by decide) _ L ⟨T, false, K, Y, 0, false, 0⟩ ((P3.out.next ((Below.refl _ _).alloc (Nat.le_refl _) _)).row.own) w3.heap.size (new_cells w3 (cells7 0 ⟨T, false, K, Y, 0, false, 0⟩) _) (one7 _ _) (by have := HL0.out; unfold maxLen; omega) (by have := HL0.out; omega); have P4 := (P3.out.next ((Below.refl _ _).alloc (Nat.le_refl _) (.cells #[.int .i64 T, .bool false, .int .i64 K, .int .i64 Y, .int .i64 0, .bool false, .int .i64 0] 32))).more hown hgr hat; obtain ⟨A4, c4, rfl, -, -, ha⟩ := P4.row.told len7; have A4' := Lib.hid ha; have Q4 := Lib.hid P4; have B4 := Lib.hid ((B3.out.below ((Below.refl _ _).alloc (Nat.le_refl _) _)).grown hgr HG.out); refine wpList_known rfl (.tmp 41) (.tmp 44) 22 rfl _ _ _ w4 rfl rfl hrun ?_; obtain ⟨n0, -⟩ := B4.out.cells; clear hown hgr hat hrun ha P4))
              | (go_at_call 13; have _t := P2.out; go_loud (refine (bare_false w2 T K Y C V O).mono ?_; rintro e w3 ⟨rfl, hb⟩; have P3 := Lib.hid (P2.out.next hb); have B3 := Lib.hid (B2.out.below hb); clear hb))
              | (go_at_call 12; have _t := P1.out; go_loud (refine (error_any w1 A L L.length c rfl HL0.out (P1.out.row.own.at len7) ⟨T, false, K, Y, C, O, V⟩).mono ?_; rintro e w2 ⟨rfl, hb⟩; rw [HE.out]; have P2 := Lib.hid (P1.out.next hb); have B2 := Lib.hid (B1.out.below hb); obtain ⟨m0, m1, m2, m3, m4, m5, m6⟩ := B2.out.cells; clear hb))
              | (go_at_call 11; go_loud (refine (begin_step _ X f1 L (HP.out.next BA.out).hst HL0.out ⟨T, false, K, Y, C, O, V⟩ rfl).mono ?_; rintro e w1 ⟨f2, rfl, hm, hw⟩; rw [HE.out]; have P1 := Lib.hid ((HP.out.next BA.out).step hm hw); have B1 := Lib.hid (B0.out.went hw HF.out); obtain ⟨r0, r1, r2, r3, r4, r5, r6⟩ := B1.out.cells; clear hm hw)))
            go_region_held3 (fun wx => wx.cell? ⟨wr.heap.size, 0, none⟩ = some (.int .i64 T)) (first | exact n0 | go_keep)
              (first
                | (go_at_call 14; go_loud (refine (hst_pending _ X f2 _ (Q4.out.next (drew_below w4)).hst T).mono ?_; rintro e w5 ⟨rfl, hw⟩; subst hw; rw [HS.out]))
                | (go_at_call 15; go_loud (refine (pend_any _ _ _ _ _ (by simp) (by have := HL.out; simp; omega) (A4'.out.later (drew_below w4)) T).mono ?_; rintro e w5 ⟨rfl, hw⟩; subst hw)))
            go_wp2
            go_roundw
            case rel => exact ⟨k + 1, f2, by omega, by go_num, by
              have h := Q4.out.next (drew_below w4)
              rw [HT.out, HS.out]
              rw [HS.out] at h
              exact (by simpa using h)⟩
            case measure => simp [intOf]; omega
          · have HS : Hid (stepE L ⟨T, false, K, Y, C, O, V⟩ = L) := Lib.hid (step_no (by rw [hxe]; exact h0))
            have hx0 : (x == 0) = false := beq_eq_false_iff_ne.2 h0
            clear hxe h0
            go_wp2_with (first
              | (go_at_call 12; have _t := P1.out; go_loud (refine (error_any w1 A L L.length c rfl HL0.out (P1.out.row.own.at len7) ⟨T, false, K, Y, C, O, V⟩).mono ?_; rintro e w2 ⟨rfl, hb⟩; rw [HE.out]; have P2 := Lib.hid (P1.out.next hb); have A2 := Lib.hid (P2.out.row.own.at len7); have B2 := Lib.hid (B1.out.below hb); obtain ⟨m0, -⟩ := B2.out.cells; clear hb))
              | (go_at_call 11; go_loud (refine (begin_step _ X f1 L (HP.out.next BA.out).hst HL0.out ⟨T, false, K, Y, C, O, V⟩ rfl).mono ?_; rintro e w1 ⟨f2, rfl, hm, hw⟩; rw [HE.out]; have P1 := Lib.hid ((HP.out.next BA.out).step hm hw); have B1 := Lib.hid (B0.out.went hw HF.out); obtain ⟨r0, r1, r2, r3, r4, r5, r6⟩ := B1.out.cells; clear hm hw)))
            go_region_held3 (fun wx => wx.cell? ⟨wr.heap.size, 0, none⟩ = some (.int .i64 T)) (first | exact m0 | go_keep)
              (first
                | (go_at_call 14; go_loud (refine (hst_pending _ X f2 _ (P2.out.next (drew_below w2)).hst T).mono ?_; rintro e w5 ⟨rfl, hw⟩; subst hw; rw [HS.out]))
                | (go_at_call 15; go_loud (refine (pend_any _ _ _ _ _ rfl HL0.out (A2.out.later (drew_below w2)) T).mono ?_; rintro e w5 ⟨rfl, hw⟩; subst hw)))
            go_wp2
            go_roundw
            case rel => exact ⟨k + 1, f2, by omega, by go_num, by
              have h := P2.out.next (drew_below w2)
              rw [HT.out, HS.out]
              rw [HS.out] at h
              exact h⟩
            case measure => simp [intOf]; omega
        · obtain ⟨x, hxe⟩ : ∃ x, errE L ⟨T, true, K, Y, C, O, V⟩ = x := ⟨_, rfl⟩
          have HE := Lib.hid hxe
          have B0 : Hid (Blk7 (wr.alloc (.cells #[.int .i64 T, .bool true, .int .i64 K, .int .i64 Y, .int .i64 C, .bool O, .int .i64 V] 32)) wr.heap.size ⟨T, true, K, Y, C, O, V⟩) := Lib.hid ⟨new_block _ _ _⟩
          have BA : Hid (Below wr.heap.size wr (wr.alloc (.cells #[.int .i64 T, .bool true, .int .i64 K, .int .i64 Y, .int .i64 C, .bool O, .int .i64 V] 32))) := Lib.hid ((Below.refl _ _).alloc (Nat.le_refl _) _)
          by_cases h0 : x = 0
          · subst h0
            have HS : Hid (stepE L ⟨T, true, K, Y, C, O, V⟩ = L ++ [⟨T, true, 0, 0, C, O, V⟩]) := Lib.hid (step_yes hxe)
            clear hxe
            go_wp2_with (first
              | (at_builtin; have _t := P3.out; go_loud (obtain ⟨v4, w4, hrun, hown, hgr, hat, -⟩ := append_row len7 (w3.alloc (.cells #[.int .i64 T, .bool true, .int .i64 0, .int .i64 0, .int .i64 C, .bool O, .int .i64 V] 32)) 22 22 32 i0 _ 56 Try.underlying22 hi hz0 hz1 hz2 rfl (by decide) _ L ⟨T, true, 0, 0, C, O, V⟩ ((P3.out.next ((Below.refl _ _).alloc (Nat.le_refl _) _)).row.own) w3.heap.size (new_cells w3 (cells7 0 ⟨T, true, 0, 0, C, O, V⟩) _) (one7 _ _) (by have := HL0.out; unfold maxLen; omega) (by have := HL0.out; omega); have P4 := (P3.out.next ((Below.refl _ _).alloc (Nat.le_refl _) (.cells #[.int .i64 T, .bool true, .int .i64 0, .int .i64 0, .int .i64 C, .bool O, .int .i64 V] 32))).more hown hgr hat; obtain ⟨A4, c4, rfl, -, -, ha⟩ := P4.row.told len7; have A4' := Lib.hid ha; have Q4 := Lib.hid P4; have B4 := Lib.hid ((B3.out.below ((Below.refl _ _).alloc (Nat.le_refl _) _)).grown hgr HG.out); refine wpList_known rfl (.tmp 41) (.tmp 44) 22 rfl _ _ _ w4 rfl rfl hrun ?_; obtain ⟨n0, -⟩ := B4.out.cells; clear hown hgr hat hrun ha P4))
              | (go_at_call 13; have _t := P2.out; go_loud (refine (bare_true w2 T K Y C V O).mono ?_; rintro e w3 ⟨rfl, hb⟩; have P3 := Lib.hid (P2.out.next hb); have B3 := Lib.hid (B2.out.below hb); clear hb))
              | (go_at_call 12; have _t := P1.out; go_loud (refine (error_any w1 A L L.length c rfl HL0.out (P1.out.row.own.at len7) ⟨T, true, K, Y, C, O, V⟩).mono ?_; rintro e w2 ⟨rfl, hb⟩; rw [HE.out]; have P2 := Lib.hid (P1.out.next hb); have B2 := Lib.hid (B1.out.below hb); obtain ⟨m0, m1, m2, m3, m4, m5, m6⟩ := B2.out.cells; clear hb))
              | (go_at_call 10; go_loud (refine (end_step _ X f1 L (HP.out.next BA.out).hst HL0.out ⟨T, true, K, Y, C, O, V⟩ rfl).mono ?_; rintro e w1 ⟨f2, rfl, hm, hw⟩; rw [HE.out]; have P1 := Lib.hid ((HP.out.next BA.out).step hm hw); have B1 := Lib.hid (B0.out.went hw HF.out); obtain ⟨r0, r1, r2, r3, r4, r5, r6⟩ := B1.out.cells; clear hm hw)))
            go_region_held3 (fun wx => wx.cell? ⟨wr.heap.size, 0, none⟩ = some (.int .i64 T)) (first | exact n0 | go_keep)
              (first
                | (go_at_call 14; go_loud (refine (hst_pending _ X f2 _ (Q4.out.next (drew_below w4)).hst T).mono ?_; rintro e w5 ⟨rfl, hw⟩; subst hw; rw [HS.out]))
                | (go_at_call 15; go_loud (refine (pend_any _ _ _ _ _ (by simp) (by have := HL.out; simp; omega) (A4'.out.later (drew_below w4)) T).mono ?_; rintro e w5 ⟨rfl, hw⟩; subst hw)))
            go_wp2
            go_roundw
            case rel => exact ⟨k + 1, f2, by omega, by go_num, by
              have h := Q4.out.next (drew_below w4)
              rw [HT.out, HS.out]
              rw [HS.out] at h
              exact (by simpa using h)⟩
            case measure => simp [intOf]; omega
          · have HS : Hid (stepE L ⟨T, true, K, Y, C, O, V⟩ = L) := Lib.hid (step_no (by rw [hxe]; exact h0))
            have hx0 : (x == 0) = false := beq_eq_false_iff_ne.2 h0
            clear hxe h0
            go_wp2_with (first
              | (go_at_call 12; have _t := P1.out; go_loud (refine (error_any w1 A L L.length c rfl HL0.out (P1.out.row.own.at len7) ⟨T, true, K, Y, C, O, V⟩).mono ?_; rintro e w2 ⟨rfl, hb⟩; rw [HE.out]; have P2 := Lib.hid (P1.out.next hb); have A2 := Lib.hid (P2.out.row.own.at len7); have B2 := Lib.hid (B1.out.below hb); obtain ⟨m0, -⟩ := B2.out.cells; clear hb))
              | (go_at_call 10; go_loud (refine (end_step _ X f1 L (HP.out.next BA.out).hst HL0.out ⟨T, true, K, Y, C, O, V⟩ rfl).mono ?_; rintro e w1 ⟨f2, rfl, hm, hw⟩; rw [HE.out]; have P1 := Lib.hid ((HP.out.next BA.out).step hm hw); have B1 := Lib.hid (B0.out.went hw HF.out); obtain ⟨r0, r1, r2, r3, r4, r5, r6⟩ := B1.out.cells; clear hm hw)))
            go_region_held3 (fun wx => wx.cell? ⟨wr.heap.size, 0, none⟩ = some (.int .i64 T)) (first | exact m0 | go_keep)
              (first
                | (go_at_call 14; go_loud (refine (hst_pending _ X f2 _ (P2.out.next (drew_below w2)).hst T).mono ?_; rintro e w5 ⟨rfl, hw⟩; subst hw; rw [HS.out]))
                | (go_at_call 15; go_loud (refine (pend_any _ _ _ _ _ rfl HL0.out (A2.out.later (drew_below w2)) T).mono ?_; rintro e w5 ⟨rfl, hw⟩; subst hw)))
            go_wp2
            go_roundw
            case rel => exact ⟨k + 1, f2, by omega, by go_num, by
              have h := P2.out.next (drew_below w2)
              rw [HT.out, HS.out]
              rw [HS.out] at h
              exact h⟩
            case measure => simp [intOf]; omega
      · obtain rfl : k = N := by omega
        obtain ⟨A, c, rfl, hc1, hc2, ha⟩ := HP.out.row.told len7
        have HL := Lib.hid (Nat.le_trans (took_take_len l k) hk)
        have HB := Lib.hid (took_bareL (l.take k))
        have HA := Lib.hid ha
        generalize tookE (l.take k) = L at *
        have HL0 : Hid (L.length ≤ 1000) := by have := HL.out; show _ ≤ _; omega
        clear hc1 hc2 ha
        go_wp2_with (first
          | (go_at_call 17; have _t := S1.out; go_loud (refine (callsAre_any _ X f1 L (HP.out.hst.below S1.out) A L.length c rfl HL0.out (HA.out.later S1.out)).mono ?_; rintro e w3 ⟨rfl, hb⟩; have S2 := Lib.hid (past S1.out hb); clear hb))
          | (go_at_call 16; go_loud (refine (same_any _ X f1 L HP.out.hst HB.out A L.length c rfl HL0.out HA.out).mono ?_; rintro e w2 ⟨rfl, hb⟩; have S1 := Lib.hid hb; clear hb)))
        go_returns
        exact ⟨rfl, past HP.out.row.below S2.out⟩
  · have h61 : (60 : Int) < (N : Int) := by omega
    go_enter Try.func3, Try.ntmps3
    go_wp2_with (go_at_call 8; go_loud (refine (awake_any _).mono ?_; rintro e w1 ⟨rfl, hb⟩; have A1 := Lib.hid hb; clear hb))
    go_returns
    exact ⟨rfl, A1.out⟩
end Go.Proofs.Ytfacojlheeoppaa.hist
