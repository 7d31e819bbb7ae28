/- The law HistCopies answers true at any two lists of events. -/
import Derived.Test.YtfacojlheeoppaaHTwin
namespace Go.Proofs.Ytfacojlheeoppaa.hist
open Go.RowKit

/-- Events more, those that are right. -/
def stepsL (L : List EvV) (l : List EvV) : List EvV := l.foldl stepE L
theorem steps_take (L : List EvV) {l : List EvV} {k : Nat} (hk : k < l.length) : stepsL L (l.take (k + 1)) = stepE (stepsL L (l.take k)) l[k] := by
  unfold stepsL
  rw [List.take_succ_eq_append_getElem hk, List.foldl_append]
  rfl
theorem steps_len (L l : List EvV) : (stepsL L l).length ≤ L.length + l.length := by
  induction l using snocInd with
  | nil => simp [stepsL]
  | append_singleton l v ih =>
    have e : stepsL L (l ++ [v]) = stepE (stepsL L l) v := by unfold stepsL; rw [List.foldl_append]; rfl
    have := step_len (stepsL L l) v
    rw [e, List.length_append]
    simp
    omega
theorem steps_bare {L : List EvV} (h : BareE L) (l : List EvV) : BareE (stepsL L l) := by
  induction l using snocInd with
  | nil => exact h
  | append_singleton l v ih =>
    have e : stepsL L (l ++ [v]) = stepE (stepsL L l) v := by unfold stepsL; rw [List.foldl_append]; rfl
    rw [e]
    exact step_bare ih v

set_option maxHeartbeats 1000000 in
theorem copies_long (w : World) (a a2 : Option Addr) (N cap N2 cap2 : Nat) (hl : 60 < (N : Int) ∨ 60 < (N2 : Int)) :
    Calls Try.prog 5 #[.slice a N cap, .slice a2 N2 cap2] w fun e w' => e = .returned (.bool true) ∧ Below w.heap.size w w' := by
  by_cases h1 : 60 < (N : Int)
  · clear hl
    go_enter Try.func5, Try.ntmps5
    go_wp2_with (go_at_call 8; refine (awake_any _).mono ?_; rintro e w1 ⟨rfl, hb⟩; have HB := Lib.hid hb; clear hb)
    go_returns
    exact ⟨rfl, HB.out⟩
  · have h2 : 60 < (N2 : Int) := by omega
    have h3 : decide (60 < (N : Int)) = false := decide_eq_false h1
    clear hl h1
    go_enter Try.func5, Try.ntmps5
    go_wp2_with (go_at_call 8; refine (awake_any _).mono ?_; rintro e w1 ⟨rfl, hb⟩; have HB := Lib.hid hb; clear hb)
    go_returns
    exact ⟨rfl, HB.out⟩

set_option maxRecDepth 100000 in
set_option maxHeartbeats 16000000 in
theorem copies_short (w : World) (a : Option Addr) (l : List EvV) (N cap : Nat) (hN : l.length = N) (hx : At cells7 7 w a l) (a2 : Option Addr) (l2 : List EvV) (N2 cap2 : Nat) (hN2 : l2.length = N2) (hx2 : At cells7 7 w a2 l2) (hl : (N : Int) ≤ 60) (hl2 : (N2 : Int) ≤ 60) :
    Calls Try.prog 5 #[.slice a N cap, .slice a2 N2 cap2] w fun e w' => e = .returned (.bool true) ∧ Below w.heap.size w w' := by
  have HX := Lib.hid hx
  have HN := Lib.hid hN
  have HX2 := Lib.hid hx2
  have HN2 := Lib.hid hN2
  have h3 : decide (60 < (N : Int)) = false := decide_eq_false (by omega)
  have h4 : decide (60 < (N2 : Int)) = false := decide_eq_false (by omega)
  clear hx hN hx2 hN2
  go_enter Try.func5, Try.ntmps5
  go_wp2_with (first
    | (go_at_call 9; have _t := A1.out; go_loud (refine (new_any _).mono ?_; rintro e w2 ⟨X, f, rfl, hm, hn, hb⟩; have P0 : Hid (Play w w2 X f (.slice none 0 0) [] []) := Lib.hid ⟨hm, Grow.nil _ _ _ (past A1.out hb), fun g hg => (by simp [Value.ownBlock] at hg), fun b hb => Nat.le_trans A1.out.size (hn b hb)⟩; clear hm hn hb))
    | (go_at_call 8; go_loud (refine (awake_any _).mono ?_; rintro e w1 ⟨rfl, hb⟩; have A1 := Lib.hid hb; clear hb)))
  clear h3 h4
  go_loopw [6, 30] (fun v i wr => ∃ (k : Nat) (f' : Nat → Prop), k ≤ N ∧ i = .int .i64 (k : Int) ∧ Play w wr X f' v (tookE (l.take k)) (tookE (l.take k))) (fun _ i _ => N - (intOf i).toNat)
  case atStart => exact ⟨0, f, Nat.zero_le _, rfl, P0.out⟩
  case round =>
    clear P0
    obtain ⟨k, f1, hk, rfl, hp⟩ := hrel
    have HP := Lib.hid hp
    clear hp
    obtain ⟨A, c, rfl, -, -, haa⟩ := HP.out.row.told len7
    have HAA := Lib.hid haa
    clear haa
    have HL := Lib.hid (took_take_len l k)
    by_cases hlt : k < N
    · have hkl : k < l.length := by rw [HN.out]; exact hlt
      have hki : (k : Int) < (N : Int) := by omega
      obtain ⟨b, rfl, p0, p1, p2, p3, p4, p5, p6⟩ := (HX.out.later HP.out.row.below).ev k hkl
      have hbl := World.block_lt_of_cell? wr _ p0
      have HT := Lib.hid (took_take hkl)
      have HL0 : Hid ((tookE (l.take k)).length ≤ 1000) := by have := HL.out; show _ ≤ _; omega
      generalize tookE (l.take k) = L at *
      generalize l[k] = u at *
      obtain ⟨T, E, K, Y, C, O, V⟩ := u
      simp only at p0 p1 p2 p3 p4 p5 p6
      have HG : Hid (some wr.heap.size ≠ (Value.slice A L.length c).ownBlock) := Lib.hid fun h => absurd (HP.out.row.own.lt h.symm) (Nat.lt_irrefl _)
      obtain ⟨j0, hj, yz0, yz1, yz2⟩ := info_parts Tryinfo_rev
      cases E
      · obtain ⟨x, hxe⟩ : ∃ x, errE L ⟨T, false, K, Y, C, O, V⟩ = x := ⟨_, rfl⟩
        have HE := Lib.hid hxe
        have BA : Hid (Below wr.heap.size wr (wr.alloc (.cells #[.int .i64 T, .bool false, .int .i64 K, .int .i64 Y, .int .i64 C, .bool O, .int .i64 V] 32))) := Lib.hid ((Below.refl _ _).alloc (Nat.le_refl _) _)
        have B0 : Hid (Blk7 (wr.alloc (.cells #[.int .i64 T, .bool false, .int .i64 K, .int .i64 Y, .int .i64 C, .bool O, .int .i64 V] 32)) wr.heap.size ⟨T, false, K, Y, C, O, V⟩) := Lib.hid ⟨new_block _ _ _⟩
        by_cases h0 : x = 0
        · subst h0
          obtain ⟨bu, hbu⟩ : ∃ bu, bareE ⟨T, false, K, Y, C, O, V⟩ = bu := ⟨_, rfl⟩
          have HBU := Lib.hid hbu
          have HS : Hid (stepE L ⟨T, false, K, Y, C, O, V⟩ = L ++ [bu]) := Lib.hid (by rw [step_yes hxe, hbu])
          clear hxe hbu
          go_wp2_with (first
            | (go_at_call 11; have _t := P5.out; go_loud (refine (begin_step w5 X f1 L P5.out.hst HL0.out ⟨T, false, K, Y, C, O, V⟩ rfl).mono ?_; rintro e w6 ⟨f2, rfl, hm, hw⟩; have P6 := Lib.hid (P5.out.step hm hw); clear hm hw))
            | (at_builtin; have _t := P4.out; go_loud (obtain ⟨v5, w5, hrun, hown, hgr, hat, -⟩ := append_row len7 (w4.alloc (.cells #[.int .i64 bu.T, .bool bu.E, .int .i64 bu.K, .int .i64 bu.Y, .int .i64 bu.C, .bool bu.O, .int .i64 bu.V] 32)) 22 22 32 j0 _ 56 Try.underlying22 hj yz0 yz1 yz2 rfl (by decide) _ L bu ((P4.out.next ((Below.refl _ _).alloc (Nat.le_refl _) _)).row.own) w4.heap.size (new_cells w4 (cells7 0 bu) _) (one7 _ _) (by have := HL0.out; unfold maxLen; omega) (by have := HL0.out; omega); have P5 := Lib.hid ((P4.out.next ((Below.refl _ _).alloc (Nat.le_refl _) (.cells #[.int .i64 bu.T, .bool bu.E, .int .i64 bu.K, .int .i64 bu.Y, .int .i64 bu.C, .bool bu.O, .int .i64 bu.V] 32))).more hown hgr hat); have B5 := Lib.hid ((B4.out.below ((Below.refl _ _).alloc (Nat.le_refl _) _)).grown hgr HG.out); obtain ⟨n0, n1, n2, n3, n4, n5, n6⟩ := B5.out.cells; refine wpList_known rfl (.tmp 38) (.tmp 41) 22 rfl _ _ _ w5 rfl rfl hrun ?_; clear hown hgr hat hrun))
            | (go_at_call 13; have _t := P3.out; go_loud (refine (bare_as w3 ⟨T, false, K, Y, C, O, V⟩ bu HBU.out).mono ?_; rintro e w4 ⟨rfl, hb⟩; have P4 := Lib.hid (P3.out.next hb); have B4 := Lib.hid (B3.out.below hb); clear hb))
            | (go_at_call 12; go_loud (refine (error_as _ A L L.length c rfl HL0.out ((HP.out.next BA.out).row.own.at len7) ⟨T, false, K, Y, C, O, V⟩).mono ?_; rintro e w3 ⟨rfl, hb⟩; rw [HE.out]; have P3 := Lib.hid ((HP.out.next BA.out).next hb); have B3 := Lib.hid (B0.out.below hb); obtain ⟨m0, m1, m2, m3, m4, m5, m6⟩ := B3.out.cells; clear hb)))
          go_roundw
          case rel => exact ⟨k + 1, f2, by omega, by go_num, by
            have h := P6.out
            rw [HS.out] at h
            rw [HT.out, HS.out]
            exact h⟩
          case measure => simp [intOf] <;> omega
        · have HS : Hid (stepE L ⟨T, false, K, Y, C, O, V⟩ = L) := Lib.hid (step_no (by rw [hxe]; exact h0))
          have hx0 : (x == 0) = false := beq_eq_false_iff_ne.2 h0
          clear hxe h0
          go_wp2_with (go_at_call 12; go_loud (refine (error_as _ A L L.length c rfl HL0.out ((HP.out.next BA.out).row.own.at len7) ⟨T, false, K, Y, C, O, V⟩).mono ?_; rintro e w3 ⟨rfl, hb⟩; rw [HE.out]; have P3 := Lib.hid ((HP.out.next BA.out).next hb); clear hb))
          go_roundw
          case rel => exact ⟨k + 1, f1, by omega, by go_num, by rw [HT.out, HS.out]; exact P3.out⟩
          case measure => simp [intOf] <;> omega
      · obtain ⟨x, hxe⟩ : ∃ x, errE L ⟨T, true, K, Y, C, O, V⟩ = x := ⟨_, rfl⟩
        have HE := Lib.hid hxe
        have BA : Hid (Below wr.heap.size wr (wr.alloc (.cells #[.int .i64 T, .bool true, .int .i64 K, .int .i64 Y, .int .i64 C, .bool O, .int .i64 V] 32))) := Lib.hid ((Below.refl _ _).alloc (Nat.le_refl _) _)
        have B0 : Hid (Blk7 (wr.alloc (.cells #[.int .i64 T, .bool true, .int .i64 K, .int .i64 Y, .int .i64 C, .bool O, .int .i64 V] 32)) wr.heap.size ⟨T, true, K, Y, C, O, V⟩) := Lib.hid ⟨new_block _ _ _⟩
        by_cases h0 : x = 0
        · subst h0
          obtain ⟨bu, hbu⟩ : ∃ bu, bareE ⟨T, true, K, Y, C, O, V⟩ = bu := ⟨_, rfl⟩
          have HBU := Lib.hid hbu
          have HS : Hid (stepE L ⟨T, true, K, Y, C, O, V⟩ = L ++ [bu]) := Lib.hid (by rw [step_yes hxe, hbu])
          clear hxe hbu
          go_wp2_with (first
            | (go_at_call 10; have _t := P5.out; go_loud (refine (end_step w5 X f1 L P5.out.hst HL0.out ⟨T, true, K, Y, C, O, V⟩ rfl).mono ?_; rintro e w6 ⟨f2, rfl, hm, hw⟩; have P6 := Lib.hid (P5.out.step hm hw); clear hm hw))
            | (at_builtin; have _t := P4.out; go_loud (obtain ⟨v5, w5, hrun, hown, hgr, hat, -⟩ := append_row len7 (w4.alloc (.cells #[.int .i64 bu.T, .bool bu.E, .int .i64 bu.K, .int .i64 bu.Y, .int .i64 bu.C, .bool bu.O, .int .i64 bu.V] 32)) 22 22 32 j0 _ 56 Try.underlying22 hj yz0 yz1 yz2 rfl (by decide) _ L bu ((P4.out.next ((Below.refl _ _).alloc (Nat.le_refl _) _)).row.own) w4.heap.size (new_cells w4 (cells7 0 bu) _) (one7 _ _) (by have := HL0.out; unfold maxLen; omega) (by have := HL0.out; omega); have P5 := Lib.hid ((P4.out.next ((Below.refl _ _).alloc (Nat.le_refl _) (.cells #[.int .i64 bu.T, .bool bu.E, .int .i64 bu.K, .int .i64 bu.Y, .int .i64 bu.C, .bool bu.O, .int .i64 bu.V] 32))).more hown hgr hat); have B5 := Lib.hid ((B4.out.below ((Below.refl _ _).alloc (Nat.le_refl _) _)).grown hgr HG.out); obtain ⟨n0, n1, n2, n3, n4, n5, n6⟩ := B5.out.cells; refine wpList_known rfl (.tmp 38) (.tmp 41) 22 rfl _ _ _ w5 rfl rfl hrun ?_; clear hown hgr hat hrun))
            | (go_at_call 13; have _t := P3.out; go_loud (refine (bare_as w3 ⟨T, true, K, Y, C, O, V⟩ bu HBU.out).mono ?_; rintro e w4 ⟨rfl, hb⟩; have P4 := Lib.hid (P3.out.next hb); have B4 := Lib.hid (B3.out.below hb); clear hb))
            | (go_at_call 12; go_loud (refine (error_as _ A L L.length c rfl HL0.out ((HP.out.next BA.out).row.own.at len7) ⟨T, true, K, Y, C, O, V⟩).mono ?_; rintro e w3 ⟨rfl, hb⟩; rw [HE.out]; have P3 := Lib.hid ((HP.out.next BA.out).next hb); have B3 := Lib.hid (B0.out.below hb); obtain ⟨m0, m1, m2, m3, m4, m5, m6⟩ := B3.out.cells; clear hb)))
          go_roundw
          case rel => exact ⟨k + 1, f2, by omega, by go_num, by
            have h := P6.out
            rw [HS.out] at h
            rw [HT.out, HS.out]
            exact h⟩
          case measure => simp [intOf] <;> omega
        · have HS : Hid (stepE L ⟨T, true, K, Y, C, O, V⟩ = L) := Lib.hid (step_no (by rw [hxe]; exact h0))
          have hx0 : (x == 0) = false := beq_eq_false_iff_ne.2 h0
          clear hxe h0
          go_wp2_with (go_at_call 12; go_loud (refine (error_as _ A L L.length c rfl HL0.out ((HP.out.next BA.out).row.own.at len7) ⟨T, true, K, Y, C, O, V⟩).mono ?_; rintro e w3 ⟨rfl, hb⟩; rw [HE.out]; have P3 := Lib.hid ((HP.out.next BA.out).next hb); clear hb))
          go_roundw
          case rel => exact ⟨k + 1, f1, by omega, by go_num, by rw [HT.out, HS.out]; exact P3.out⟩
          case measure => simp [intOf] <;> omega
    · have hge : ¬ ((k : Int) < (N : Int)) := by omega
      have HBB := Lib.hid (took_bareL (l.take k))
      have HL0 : Hid ((tookE (l.take k)).length ≤ 60) := by have := HL.out; show _ ≤ _; omega
      generalize tookE (l.take k) = L at *
      generalize wr = wz at *
      have hl60 : (L.length : Int) ≤ 60 := by have := HL0.out; omega
      go_wp2_with (first
        | (at_builtin; have _t := S4.out; go_loud (obtain ⟨v7, w7, hrun, hgw⟩ := whole_row w4 _ L (HP.out.row.own.below (past S1.out S4.out)) (by have := HL0.out; omega) 22; have Q0 := Lib.hid (Quad.of HP.out (past S1.out S4.out) (HC1.out.below S4.out) NC1.out hgw); refine wpList_known rfl (.tmp 74) (.tmp 75) 22 rfl _ _ v7 w7 rfl rfl hrun ?_; clear hrun hgw))
        | (go_at_call 17; have _t := S3.out; go_loud (refine (callsAre_any w3 Xc fc L (HC1.out.below S3.out) A L.length c rfl (by have := HL0.out; omega) (HAA.out.later (past S1.out S3.out))).mono ?_; rintro e w4 ⟨rfl, hb⟩; have S4 := Lib.hid (past S3.out hb); clear hb))
        | (go_at_call 16; have _t := HC1.out; go_loud (refine (same_any w1c Xc fc L HC1.out HBB.out A L.length c rfl (by have := HL0.out; omega) (HAA.out.later S1.out)).mono ?_; rintro e w3 ⟨rfl, hb⟩; have S3 := Lib.hid hb; clear hb))
        | (go_at_call 19; go_loud (refine (copy_any _ X f1 L HP.out.hst (by have := HL0.out; omega)).mono ?_; rintro e w1c ⟨Xc, fc, rfl, hm, hn, hb⟩; have HC1 := Lib.hid hm; have NC1 := Lib.hid hn; have S1 := Lib.hid hb; clear hm hn hb)))
      go_loopw [10, 79] (fun v i wr => ∃ (k : Nat) (f' : Nat → Prop), k ≤ N2 ∧ i = .int .i64 (k : Int) ∧ Quad w wr X f1 (.slice A L.length c) L Xc f' v (stepsL L (l2.take k)) (stepsL L (l2.take k))) (fun _ i _ => N2 - (intOf i).toNat)
      case atStart => exact ⟨0, fc, Nat.zero_le _, rfl, Q0.out⟩
      case round =>
        clear Q0
        obtain ⟨k2, g1, hk2, rfl, hp⟩ := hrel
        have HQ := Lib.hid hp
        clear hp
        obtain ⟨A2, c2, rfl, -, -, haa⟩ := HQ.out.q.row.told len7
        have HAB := Lib.hid haa
        clear haa
        have HL2 : Hid ((stepsL L (l2.take k2)).length ≤ 60 + k2) := by
          have h1 := steps_len L (l2.take k2)
          have h2 := HL0.out
          have h3 : (l2.take k2).length ≤ k2 := by rw [List.length_take]; exact Nat.min_le_left _ _
          show _ ≤ _
          omega
        by_cases hlt2 : k2 < N2
        · have hkl : k2 < l2.length := by rw [HN2.out]; exact hlt2
          have hki : (k2 : Int) < (N2 : Int) := by omega
          obtain ⟨b, rfl, p0, p1, p2, p3, p4, p5, p6⟩ := (HX2.out.later HQ.out.q.row.below).ev k2 hkl
          have hbl := World.block_lt_of_cell? wr _ p0
          have HT := Lib.hid (steps_take L hkl)
          have HM0 : Hid ((stepsL L (l2.take k2)).length ≤ 1000) := by have := HL2.out; show _ ≤ _; omega
          generalize stepsL L (l2.take k2) = M at *
          generalize l2[k2] = u at *
          obtain ⟨T, E, K, Y, C, O, V⟩ := u
          simp only at p0 p1 p2 p3 p4 p5 p6
          have HG : Hid (some wr.heap.size ≠ (Value.slice A2 M.length c2).ownBlock) := Lib.hid fun h => absurd (HQ.out.q.row.own.lt h.symm) (Nat.lt_irrefl _)
          obtain ⟨j0, hj, yz0, yz1, yz2⟩ := info_parts Tryinfo_rev
          cases E
          · obtain ⟨x, hxe⟩ : ∃ x, errE M ⟨T, false, K, Y, C, O, V⟩ = x := ⟨_, rfl⟩
            have HE := Lib.hid hxe
            have BA : Hid (Below wr.heap.size wr (wr.alloc (.cells #[.int .i64 T, .bool false, .int .i64 K, .int .i64 Y, .int .i64 C, .bool O, .int .i64 V] 32))) := Lib.hid ((Below.refl _ _).alloc (Nat.le_refl _) _)
            have B0 : Hid (Blk7 (wr.alloc (.cells #[.int .i64 T, .bool false, .int .i64 K, .int .i64 Y, .int .i64 C, .bool O, .int .i64 V] 32)) wr.heap.size ⟨T, false, K, Y, C, O, V⟩) := Lib.hid ⟨new_block _ _ _⟩
            by_cases h0 : x = 0
            · subst h0
              obtain ⟨bu, hbu⟩ : ∃ bu, bareE ⟨T, false, K, Y, C, O, V⟩ = bu := ⟨_, rfl⟩
              have HBU := Lib.hid hbu
              have HS : Hid (stepE M ⟨T, false, K, Y, C, O, V⟩ = M ++ [bu]) := Lib.hid (by rw [step_yes hxe, hbu])
              clear hxe hbu
              go_wp2_with (first
                | (go_at_call 11; have _t := P5.out; go_loud (refine (begin_step w5 Xc g1 M P5.out.q.hst HM0.out ⟨T, false, K, Y, C, O, V⟩ rfl).mono ?_; rintro e w6 ⟨g2, rfl, hm, hw⟩; have P6 := Lib.hid (P5.out.step hm hw); clear hm hw))
                | (at_builtin; have _t := P4.out; go_loud (obtain ⟨v5, w5, hrun, hown, hgr, hat, -⟩ := append_row len7 (w4.alloc (.cells #[.int .i64 bu.T, .bool bu.E, .int .i64 bu.K, .int .i64 bu.Y, .int .i64 bu.C, .bool bu.O, .int .i64 bu.V] 32)) 22 22 32 j0 _ 56 Try.underlying22 hj yz0 yz1 yz2 rfl (by decide) _ M bu ((P4.out.next ((Below.refl _ _).alloc (Nat.le_refl _) _)).q.row.own) w4.heap.size (new_cells w4 (cells7 0 bu) _) (one7 _ _) (by have := HM0.out; unfold maxLen; omega) (by have := HM0.out; omega); have P5 := Lib.hid ((P4.out.next ((Below.refl _ _).alloc (Nat.le_refl _) (.cells #[.int .i64 bu.T, .bool bu.E, .int .i64 bu.K, .int .i64 bu.Y, .int .i64 bu.C, .bool bu.O, .int .i64 bu.V] 32))).more hown hgr hat); have B5 := Lib.hid ((B4.out.below ((Below.refl _ _).alloc (Nat.le_refl _) _)).grown hgr HG.out); obtain ⟨n0, n1, n2, n3, n4, n5, n6⟩ := B5.out.cells; refine wpList_known rfl (.tmp 87) (.tmp 90) 22 rfl _ _ _ w5 rfl rfl hrun ?_; clear hown hgr hat hrun))
                | (go_at_call 13; have _t := P3.out; go_loud (refine (bare_as w3 ⟨T, false, K, Y, C, O, V⟩ bu HBU.out).mono ?_; rintro e w4 ⟨rfl, hb⟩; have P4 := Lib.hid (P3.out.next hb); have B4 := Lib.hid (B3.out.below hb); clear hb))
                | (go_at_call 12; go_loud (refine (error_as _ A2 M M.length c2 rfl HM0.out ((HQ.out.next BA.out).q.row.own.at len7) ⟨T, false, K, Y, C, O, V⟩).mono ?_; rintro e w3 ⟨rfl, hb⟩; rw [HE.out]; have P3 := Lib.hid ((HQ.out.next BA.out).next hb); have B3 := Lib.hid (B0.out.below hb); obtain ⟨m0, m1, m2, m3, m4, m5, m6⟩ := B3.out.cells; clear hb)))
              go_roundw
              case rel => exact ⟨k2 + 1, g2, by omega, by go_num, by
                have h := P6.out
                rw [HS.out] at h
                rw [HT.out, HS.out]
                exact h⟩
              case measure => simp [intOf] <;> omega
            · have HS : Hid (stepE M ⟨T, false, K, Y, C, O, V⟩ = M) := Lib.hid (step_no (by rw [hxe]; exact h0))
              have hx0 : (x == 0) = false := beq_eq_false_iff_ne.2 h0
              clear hxe h0
              go_wp2_with (go_at_call 12; go_loud (refine (error_as _ A2 M M.length c2 rfl HM0.out ((HQ.out.next BA.out).q.row.own.at len7) ⟨T, false, K, Y, C, O, V⟩).mono ?_; rintro e w3 ⟨rfl, hb⟩; rw [HE.out]; have P3 := Lib.hid ((HQ.out.next BA.out).next hb); clear hb))
              go_roundw
              case rel => exact ⟨k2 + 1, g1, by omega, by go_num, by rw [HT.out, HS.out]; exact P3.out⟩
              case measure => simp [intOf] <;> omega
          · obtain ⟨x, hxe⟩ : ∃ x, errE M ⟨T, true, K, Y, C, O, V⟩ = x := ⟨_, rfl⟩
            have HE := Lib.hid hxe
            have BA : Hid (Below wr.heap.size wr (wr.alloc (.cells #[.int .i64 T, .bool true, .int .i64 K, .int .i64 Y, .int .i64 C, .bool O, .int .i64 V] 32))) := Lib.hid ((Below.refl _ _).alloc (Nat.le_refl _) _)
            have B0 : Hid (Blk7 (wr.alloc (.cells #[.int .i64 T, .bool true, .int .i64 K, .int .i64 Y, .int .i64 C, .bool O, .int .i64 V] 32)) wr.heap.size ⟨T, true, K, Y, C, O, V⟩) := Lib.hid ⟨new_block _ _ _⟩
            by_cases h0 : x = 0
            · subst h0
              obtain ⟨bu, hbu⟩ : ∃ bu, bareE ⟨T, true, K, Y, C, O, V⟩ = bu := ⟨_, rfl⟩
              have HBU := Lib.hid hbu
              have HS : Hid (stepE M ⟨T, true, K, Y, C, O, V⟩ = M ++ [bu]) := Lib.hid (by rw [step_yes hxe, hbu])
              clear hxe hbu
              go_wp2_with (first
                | (go_at_call 10; have _t := P5.out; go_loud (refine (end_step w5 Xc g1 M P5.out.q.hst HM0.out ⟨T, true, K, Y, C, O, V⟩ rfl).mono ?_; rintro e w6 ⟨g2, rfl, hm, hw⟩; have P6 := Lib.hid (P5.out.step hm hw); clear hm hw))
                | (at_builtin; have _t := P4.out; go_loud (obtain ⟨v5, w5, hrun, hown, hgr, hat, -⟩ := append_row len7 (w4.alloc (.cells #[.int .i64 bu.T, .bool bu.E, .int .i64 bu.K, .int .i64 bu.Y, .int .i64 bu.C, .bool bu.O, .int .i64 bu.V] 32)) 22 22 32 j0 _ 56 Try.underlying22 hj yz0 yz1 yz2 rfl (by decide) _ M bu ((P4.out.next ((Below.refl _ _).alloc (Nat.le_refl _) _)).q.row.own) w4.heap.size (new_cells w4 (cells7 0 bu) _) (one7 _ _) (by have := HM0.out; unfold maxLen; omega) (by have := HM0.out; omega); have P5 := Lib.hid ((P4.out.next ((Below.refl _ _).alloc (Nat.le_refl _) (.cells #[.int .i64 bu.T, .bool bu.E, .int .i64 bu.K, .int .i64 bu.Y, .int .i64 bu.C, .bool bu.O, .int .i64 bu.V] 32))).more hown hgr hat); have B5 := Lib.hid ((B4.out.below ((Below.refl _ _).alloc (Nat.le_refl _) _)).grown hgr HG.out); obtain ⟨n0, n1, n2, n3, n4, n5, n6⟩ := B5.out.cells; refine wpList_known rfl (.tmp 87) (.tmp 90) 22 rfl _ _ _ w5 rfl rfl hrun ?_; clear hown hgr hat hrun))
                | (go_at_call 13; have _t := P3.out; go_loud (refine (bare_as w3 ⟨T, true, K, Y, C, O, V⟩ bu HBU.out).mono ?_; rintro e w4 ⟨rfl, hb⟩; have P4 := Lib.hid (P3.out.next hb); have B4 := Lib.hid (B3.out.below hb); clear hb))
                | (go_at_call 12; go_loud (refine (error_as _ A2 M M.length c2 rfl HM0.out ((HQ.out.next BA.out).q.row.own.at len7) ⟨T, true, K, Y, C, O, V⟩).mono ?_; rintro e w3 ⟨rfl, hb⟩; rw [HE.out]; have P3 := Lib.hid ((HQ.out.next BA.out).next hb); have B3 := Lib.hid (B0.out.below hb); obtain ⟨m0, m1, m2, m3, m4, m5, m6⟩ := B3.out.cells; clear hb)))
              go_roundw
              case rel => exact ⟨k2 + 1, g2, by omega, by go_num, by
                have h := P6.out
                rw [HS.out] at h
                rw [HT.out, HS.out]
                exact h⟩
              case measure => simp [intOf] <;> omega
            · have HS : Hid (stepE M ⟨T, true, K, Y, C, O, V⟩ = M) := Lib.hid (step_no (by rw [hxe]; exact h0))
              have hx0 : (x == 0) = false := beq_eq_false_iff_ne.2 h0
              clear hxe h0
              go_wp2_with (go_at_call 12; go_loud (refine (error_as _ A2 M M.length c2 rfl HM0.out ((HQ.out.next BA.out).q.row.own.at len7) ⟨T, true, K, Y, C, O, V⟩).mono ?_; rintro e w3 ⟨rfl, hb⟩; rw [HE.out]; have P3 := Lib.hid ((HQ.out.next BA.out).next hb); clear hb))
              go_roundw
              case rel => exact ⟨k2 + 1, g1, by omega, by go_num, by rw [HT.out, HS.out]; exact P3.out⟩
              case measure => simp [intOf] <;> omega
        · have hge2 : ¬ ((k2 : Int) < (N2 : Int)) := by omega
          have HBC := Lib.hid (steps_bare HBB.out (l2.take k2))
          have HM0 : Hid ((stepsL L (l2.take k2)).length ≤ 120) := by have := HL2.out; show _ ≤ _; omega
          generalize stepsL L (l2.take k2) = M at *
          generalize wr = wq at *
          have HML := Lib.hid (calls_le HQ.out.p.hst.valid)
          go_wp2_with (go_at_call 20; go_loud (refine (events_any wq X f1 L HQ.out.p.hst HBB.out (by have := HL0.out; omega)).mono ?_; rintro e w8 ⟨v8, rfl, hg⟩; obtain ⟨A8, c8, rfl, -, -, -⟩ := hg.told len7; have G8 := Lib.hid hg; clear hg))
          have RW : Hid (0 < L.length → ∃ g, A8 = some ⟨g, 0, none⟩ ∧ Row1 wq w8 g (L.length * 7)) := Lib.hid fun h => by
            obtain ⟨g, c, hv, _, hr⟩ := G8.out.row1 h
            simp at hv
            exact ⟨g, hv.1, hr⟩
          go_loopw [111] (fun i wi => ∃ j : Nat, j ≤ L.length ∧ i = .int .i64 (j : Int) ∧ Below wq.heap.size wq wi ∧ (0 < L.length → ∃ g, A8 = some ⟨g, 0, none⟩ ∧ Row1 wq wi g (L.length * 7))) (fun i _ => L.length - (intOf i).toNat)
          case atStart => exact ⟨0, Nat.zero_le _, rfl, G8.out.below, RW.out⟩
          case round =>
            clear RW
            obtain ⟨j, hj, rfl, hb, hr⟩ := hrel
            have HV := Lib.hid hb
            clear hb
            generalize wr = w9 at *
            by_cases hjlt : j < L.length
            · have hji : (j : Int) < (L.length : Int) := by omega
              obtain ⟨g, rfl, hrow⟩ := hr (by omega)
              have HR1 := Lib.hid hrow
              obtain ⟨u0, t0⟩ := hrow.there (i := j * 7) (by omega)
              have gfr := hrow.free
              have HR2 := Lib.hid (hrow.put (j * 7) (.int .i64 9))
              clear hrow
              go_wp2
              go_roundw
              case rel => exact ⟨j + 1, by omega, by go_num, HR2.out.below, fun _ => ⟨g, rfl, HR2.out⟩⟩
              case measure => simp [intOf] <;> omega
            · have hgej : ¬ ((j : Int) < (L.length : Int)) := by omega
              clear hr
              have Q9 := Lib.hid (HQ.out.next HV.out)
              go_wp2_with (go_at_call 21; go_loud (refine (calls_any w9 X f1 L Q9.out.p.hst (by have := HL0.out; omega)).mono ?_; rintro e w10 ⟨v10, rfl, hg⟩; obtain ⟨A10, c10, rfl, -, -, -⟩ := hg.told len9; have G10 := Lib.hid hg; clear hg))
              generalize hm : (callsE L).length = m at *
              have HMM := Lib.hid hm
              clear hm
              have hm60 : (m : Int) ≤ 60 := by have := HML.out; have := HL0.out; omega
              have RW : Hid (0 < m → ∃ g, A10 = some ⟨g, 0, none⟩ ∧ Row1 w9 w10 g (m * 9)) := Lib.hid fun h => by
                obtain ⟨g, c, hv, _, hr⟩ := G10.out.row1 (by rw [HMM.out]; exact h)
                simp at hv
                rw [HMM.out] at hr
                exact ⟨g, hv.1, hr⟩
              go_loopw [123] (fun i wi => ∃ j : Nat, j ≤ m ∧ i = .int .i64 (j : Int) ∧ Below w9.heap.size w9 wi ∧ (0 < m → ∃ g, A10 = some ⟨g, 0, none⟩ ∧ Row1 w9 wi g (m * 9))) (fun i _ => m - (intOf i).toNat)
              case atStart => exact ⟨0, Nat.zero_le _, rfl, G10.out.below, RW.out⟩
              case round =>
                clear RW
                obtain ⟨i1, hi1, rfl, hb, hr⟩ := hrel
                have HV2 := Lib.hid hb
                clear hb
                generalize wr = w11 at *
                by_cases hilt : i1 < m
                · have hii : (i1 : Int) < (m : Int) := by omega
                  obtain ⟨g, rfl, hrow⟩ := hr (by omega)
                  obtain ⟨u0, t0⟩ := hrow.there (i := i1 * 9 + 1) (by omega)
                  have gfr := hrow.free
                  have HR2 := Lib.hid (hrow.put (i1 * 9 + 1) (.int .i64 99))
                  clear hrow
                  go_wp2
                  go_roundw
                  case rel => exact ⟨i1 + 1, by omega, by go_num, HR2.out.below, fun _ => ⟨g, rfl, HR2.out⟩⟩
                  case measure => simp [intOf] <;> omega
                · have hgei : ¬ ((i1 : Int) < (m : Int)) := by omega
                  clear hr
                  have Q11 := Lib.hid (Q9.out.next HV2.out)
                  go_wp2_with (first
                    | (go_at_call 17; have _t := Q14.out; go_loud (refine (callsAre_any w14 Xc g1 M Q14.out.q.hst A2 M.length c2 rfl (by have := HM0.out; omega) (Q14.out.q.row.own.at len7)).mono ?_; rintro e w15 ⟨rfl, hb⟩; have Q15 := Lib.hid (Q14.out.next hb); clear hb))
                    | (go_at_call 16; have _t := Q13.out; go_loud (refine (same_any w13 Xc g1 M Q13.out.q.hst HBC.out A2 M.length c2 rfl (by have := HM0.out; omega) (Q13.out.q.row.own.at len7)).mono ?_; rintro e w14 ⟨rfl, hb⟩; have Q14 := Lib.hid (Q13.out.next hb); clear hb))
                    | (go_at_call 17; have _t := Q12.out; go_loud (refine (callsAre_any w12 X f1 L Q12.out.p.hst A L.length c rfl (by have := HL0.out; omega) (Q12.out.p.row.own.at len7)).mono ?_; rintro e w13 ⟨rfl, hb⟩; have Q13 := Lib.hid (Q12.out.next hb); clear hb))
                    | (go_at_call 16; go_loud (refine (same_any w11 X f1 L Q11.out.p.hst HBB.out A L.length c rfl (by have := HL0.out; omega) (Q11.out.p.row.own.at len7)).mono ?_; rintro e w12 ⟨rfl, hb⟩; have Q12 := Lib.hid (Q11.out.next hb); clear hb)))
                  go_returns
                  exact ⟨rfl, Q15.out.p.row.below⟩

theorem copies_any (w : World) (a : Option Addr) (l : List EvV) (N cap : Nat) (hN : l.length = N) (hx : At cells7 7 w a l) (a2 : Option Addr) (l2 : List EvV) (N2 cap2 : Nat) (hN2 : l2.length = N2) (hx2 : At cells7 7 w a2 l2) :
    Calls Try.prog 5 #[.slice a N cap, .slice a2 N2 cap2] w fun e w' => e = .returned (.bool true) ∧ Below w.heap.size w w' := by
  by_cases h : 60 < (N : Int) ∨ 60 < (N2 : Int)
  · exact copies_long w a a2 N cap N2 cap2 h
  · exact copies_short w a l N cap hN hx a2 l2 N2 cap2 hN2 hx2 (by omega) (by omega)
end Go.Proofs.Ytfacojlheeoppaa.hist
