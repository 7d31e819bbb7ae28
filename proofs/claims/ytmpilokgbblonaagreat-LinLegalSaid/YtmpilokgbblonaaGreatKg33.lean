/- An order of a history's calls is legal just if the document says so; the items behind it are told. -/
import Derived.Test.YtmpilokgbblonaaGreatKg31
import Derived.Test.YtmpilokgbblonaaGreatKg32
namespace Go.Proofs.YtmpilokgbblonaaGreat.lin
open Go.RowKit Go.Maps
open hist (ClV EvV befB past new_block Went At cells7 cells8 len7 len8 Hst callsE Play Grow refCalls_any tookE)
open spec (Rw Row OpV OpsAt stateL itemsR itemsR_any items_agree)
set_option maxRecDepth 100000 in
set_option maxHeartbeats 8000000 in
theorem legal_law (w : World) (s : Int) (a : Option Addr) (l : List EvV) (N cap : Nat) (hN : l.length = N) (hx : At cells7 7 w a l) (A : Option Addr) (o : List Int) (n c : Nat) (hn : o.length = n) (hnc : n ≤ c) (ho : NumAt w A o) :
    Calls Tryz.prog 4 #[.int .i64 s, .slice a N cap, .slice A n c] w fun e w' => e = .returned (.bool true) ∧ Below w.heap.size w w' := by
  by_cases hbig : 60 < N ∨ 20 < n
  · rcases hbig with h60 | h20
    · have h60i : (60 : Int) < (N : Int) := by omega
      go_enter Tryz.func4, Tryz.ntmps4
      go_wp2_with (go_at_call 7; refine (awake_any _).mono ?_; rintro e w1 ⟨rfl, hb⟩; have HB := Lib.hid hb; clear hb)
      go_returns
      exact ⟨rfl, HB.out⟩
    · have h20i : (20 : Int) < (n : Int) := by omega
      go_enter Tryz.func4, Tryz.ntmps4
      go_wp2_with (go_at_call 7; refine (awake_any _).mono ?_; rintro e w1 ⟨rfl, hb⟩; have HB := Lib.hid hb; clear hb)
      all_goals
        go_returns
        exact ⟨rfl, HB.out⟩
  · have h60 : N ≤ 60 := by omega
    have h20 : n ≤ 20 := by omega
    have h60i : ¬ (60 : Int) < (N : Int) := by omega
    have h20i : ¬ (20 : Int) < (n : Int) := by omega
    have HX := Lib.hid hx
    have HN := Lib.hid hN
    have HO := Lib.hid ho
    have HNN := Lib.hid hn
    have HNC := Lib.hid hnc
    have H60 := Lib.hid h60
    have H20 := Lib.hid h20
    have HRC := Lib.hid (raw_calls l)
    have HRL : Hid ((rawE l).length ≤ 60) := Lib.hid (by rw [raw_len]; exact Nat.le_trans (hist.took_len l) (by omega))
    have HTL : Hid ((tookE l).length ≤ 100) := Lib.hid (Nat.le_trans (hist.took_len l) (by omega))
    have HCL : Hid ((callsE (tookE l)).length ≤ 100) := Lib.hid (by have h1 := hist.calls_le (hist.took_valid l); have h2 := HTL.out; omega)
    clear hx hN ho hn hnc h60 h20 hbig
    by_cases hs : 1 ≤ s ∧ s ≤ 4
    · have HS := Lib.hid hs
      clear hs
      by_cases hlg : legalI s (callsE (tookE l)) o
      · have HLG := Lib.hid hlg
        have HAG : Hid (stateL s (opsI (callsE (tookE l)) o) = itemsR s (opsI (callsE (tookE l)) o)) := Lib.hid (items_agree HS.out (ok_right (okI_iff.1 hlg.2.1).2))
        have HVL := Lib.hid (okI_lt hlg.2.1)
        have HOL : Hid ((opsI (callsE (tookE l)) o).length ≤ 100) := Lib.hid (by unfold opsI; rw [ops_len, List.length_map, HNN.out]; have := H20.out; omega)
        have HSL : Hid ((stateL s (opsI (callsE (tookE l)) o)).length ≤ 1000) := Lib.hid (by have h1 := spec.state_len s (opsI (callsE (tookE l)) o); have := HOL.out; omega)
        clear hlg
        go_enter Tryz.func4, Tryz.ntmps4
        go_wp2_with (first
        | (go_at_call 13; have _t := R8i.out; go_loud (refine (spec.ints_any _ G4 c4' G8 c8' A4' A8' _ _ (R4.out.below (past B45.out (past B56.out (past B67.out B78.out)))) R8i.out (by have := HSL.out; omega) (by have := HSL.out; rw [HAG.out] at this; omega)).mono ?_; rw [decide_eq_true HAG.out]; rintro e w9 ⟨rfl, hw⟩; have B9 := Lib.hid (past B8.out (spec.drewN_below hw)); clear hw))
        | (go_at_call 17; have _t := O7.out; go_loud (refine (itemsR_any _ s A7 _ _ c7 rfl (by have := HOL.out; omega) HC7.out O7.out).mono ?_; rintro e w8 ⟨A8', c8', G8, rfl, hr8, -, hb⟩; have R8i := Lib.hid hr8; have B78 := Lib.hid hb; have B8 := Lib.hid (past B7.out hb); clear hr8 hb))
        | (go_at_call 18; have _t := B6.out; go_loud (refine (ops_any _ A8 c8 _ (callsE (tookE l)) (((R8.out.later B34.out).later B45.out).later B56.out) rfl HCL.out c A o (na_below HO.out B6.out) n HNN.out (by have := H20.out; omega) HVL.out).mono ?_; rintro e w7 ⟨v7, rfl, hg⟩; obtain ⟨A7, c7, rfl, hc7, -, ha7⟩ := hg.told len2; have O7 := Lib.hid (ops_at ha7); have HC7 := Lib.hid hc7; have B67 := Lib.hid hg.below; have B7 := Lib.hid (past B6.out hg.below); clear hg ha7 hc7))
        | (go_at_call 16; have _t := B5.out; go_loud (refine (legal_any _ X s (callsE (tookE l)) o A n c (behind_any _ X f (tookE l) P5.out.hst HTL.out s HS.out c A o (na_below HO.out B5.out) n HNN.out (by have := H20.out; omega))).mono ?_; rintro e w6 ⟨b6, rfl, h6, hb⟩; obtain rfl : b6 = true := h6.2 HLG.out; have B56 := Lib.hid hb; have B6 := Lib.hid (past B5.out hb); clear h6 hb))
        | (go_at_call 15; have _t := B4.out; go_loud (refine (legalR_any _ s A8 c8 _ (callsE (tookE l)) (R8.out.later B34.out) rfl HCL.out c A o (na_below HO.out B4.out) (by rw [HNN.out]; exact HNC.out) n HNN.out (by have := H20.out; omega)).mono ?_; rintro e w5 ⟨b5, rfl, h5, hb⟩; obtain rfl : b5 = true := h5.2 HLG.out; have B45 := Lib.hid hb; have B5 := Lib.hid (past B4.out hb); have P5 := Lib.hid (P4.out.next hb); clear h5 hb))
        | (go_at_call 14; have _t := R8.out; go_loud (refine (behind_any _ X f (tookE l) P3.out.hst HTL.out s HS.out c A o (na_below HO.out B3.out) n HNN.out (by have := H20.out; omega)).mono ?_; rintro e w4 ⟨hb, ⟨_, A4', c4', G4, rfl, hr4⟩ | ⟨h, _⟩⟩; rotate_left; exact absurd HLG.out h; have R4 := Lib.hid hr4; have B34 := Lib.hid hb; have B4 := Lib.hid (past B3.out hb); have P4 := Lib.hid (P3.out.next hb); clear hb))
        | (go_at_call 9; have _t := P2.out; go_loud (refine (refCalls_any _ A4 (rawE l) _ c4 rfl (by have := HRL.out; omega) P2a.out).mono ?_; rintro e w3 ⟨v3, rfl, hg⟩; rw [HRC.out] at hg; obtain ⟨A8, c8, rfl, -, -, ha⟩ := hg.told len8; have R8 := Lib.hid ha; have B3 := Lib.hid (past B2.out hg.below); have P3 := Lib.hid (P2.out.next hg.below); clear hg ha))
        | (go_at_call 8; have _t := B1.out; go_loud (refine (make_any _ a l N cap HN.out H60.out (HX.out.later B1.out)).mono ?_; rintro e w2 ⟨X, f, v, rfl, hp⟩; obtain ⟨A4, c4, rfl, -, -, ha4⟩ := hp.row.told len7; have P2 := Lib.hid hp; have P2a := Lib.hid ha4; have B2 := Lib.hid (past B1.out hp.row.below); clear hp ha4))
        | (go_at_call 7; go_loud (refine (awake_any _).mono ?_; rintro e w1 ⟨rfl, hb⟩; have B1 := Lib.hid hb; clear hb)))
        go_returns
        exact ⟨rfl, B9.out⟩
      · have HLG := Lib.hid hlg
        clear hlg
        go_enter Tryz.func4, Tryz.ntmps4
        go_wp2_with (first
        | (go_at_call 16; have _t := B5.out; go_loud (refine (legal_any _ X s (callsE (tookE l)) o A n c (behind_any _ X f (tookE l) P5.out.hst HTL.out s HS.out c A o (na_below HO.out B5.out) n HNN.out (by have := H20.out; omega))).mono ?_; rintro e w6 ⟨b6, rfl, h6, hb⟩; obtain rfl : b6 = false := Bool.eq_false_iff.2 (fun hh => HLG.out (h6.1 hh)); have B56 := Lib.hid hb; have B6 := Lib.hid (past B5.out hb); clear h6 hb))
        | (go_at_call 15; have _t := B4.out; go_loud (refine (legalR_any _ s A8 c8 _ (callsE (tookE l)) (R8.out.later B34.out) rfl HCL.out c A o (na_below HO.out B4.out) (by rw [HNN.out]; exact HNC.out) n HNN.out (by have := H20.out; omega)).mono ?_; rintro e w5 ⟨b5, rfl, h5, hb⟩; obtain rfl : b5 = false := Bool.eq_false_iff.2 (fun hh => HLG.out (h5.1 hh)); have B45 := Lib.hid hb; have B5 := Lib.hid (past B4.out hb); have P5 := Lib.hid (P4.out.next hb); clear h5 hb))
        | (go_at_call 14; have _t := R8.out; go_loud (refine (behind_any _ X f (tookE l) P3.out.hst HTL.out s HS.out c A o (na_below HO.out B3.out) n HNN.out (by have := H20.out; omega)).mono ?_; rintro e w4 ⟨hb, ⟨h, _⟩ | ⟨_, rfl⟩⟩; exact absurd h HLG.out; have B34 := Lib.hid hb; have B4 := Lib.hid (past B3.out hb); have P4 := Lib.hid (P3.out.next hb); clear hb))
        | (go_at_call 9; have _t := P2.out; go_loud (refine (refCalls_any _ A4 (rawE l) _ c4 rfl (by have := HRL.out; omega) P2a.out).mono ?_; rintro e w3 ⟨v3, rfl, hg⟩; rw [HRC.out] at hg; obtain ⟨A8, c8, rfl, -, -, ha⟩ := hg.told len8; have R8 := Lib.hid ha; have B3 := Lib.hid (past B2.out hg.below); have P3 := Lib.hid (P2.out.next hg.below); clear hg ha))
        | (go_at_call 8; have _t := B1.out; go_loud (refine (make_any _ a l N cap HN.out H60.out (HX.out.later B1.out)).mono ?_; rintro e w2 ⟨X, f, v, rfl, hp⟩; obtain ⟨A4, c4, rfl, -, -, ha4⟩ := hp.row.told len7; have P2 := Lib.hid hp; have P2a := Lib.hid ha4; have B2 := Lib.hid (past B1.out hp.row.below); clear hp ha4))
        | (go_at_call 7; go_loud (refine (awake_any _).mono ?_; rintro e w1 ⟨rfl, hb⟩; have B1 := Lib.hid hb; clear hb)))
        go_returns
        exact ⟨rfl, B6.out⟩
    · have HS := Lib.hid hs
      clear hs
      go_enter Tryz.func4, Tryz.ntmps4
      go_wp2_with (first
        | (go_at_call 16; have _t := B5.out; go_loud (refine (legal_wrong _ s HS.out _ A n c).mono ?_; rintro e w6 ⟨rfl, hb⟩; have B6 := Lib.hid (past B5.out hb); clear hb))
        | (go_at_call 15; have _t := B4.out; go_loud (refine (legalR_any _ s A8 c8 _ (callsE (tookE l)) (R8.out.later B34.out) rfl HCL.out c A o (na_below HO.out B4.out) (by rw [HNN.out]; exact HNC.out) n HNN.out (by have := H20.out; omega)).mono ?_; rintro e w5 ⟨b5, rfl, h5, hb⟩; obtain rfl : b5 = false := Bool.eq_false_iff.2 (fun hh => HS.out (h5.1 hh).1); have B5 := Lib.hid (past B4.out hb); clear h5 hb))
        | (go_at_call 14; have _t := R8.out; go_loud (refine (behind_wrong _ s HS.out _ A n c).mono ?_; rintro e w4 ⟨rfl, hb⟩; have B34 := Lib.hid hb; have B4 := Lib.hid (past B3.out hb); clear hb))
        | (go_at_call 9; have _t := P2.out; go_loud (refine (refCalls_any _ A4 (rawE l) _ c4 rfl (by have := HRL.out; omega) P2a.out).mono ?_; rintro e w3 ⟨v3, rfl, hg⟩; rw [HRC.out] at hg; obtain ⟨A8, c8, rfl, -, -, ha⟩ := hg.told len8; have R8 := Lib.hid ha; have B3 := Lib.hid (past B2.out hg.below); clear hg ha))
        | (go_at_call 8; have _t := B1.out; go_loud (refine (make_any _ a l N cap HN.out H60.out (HX.out.later B1.out)).mono ?_; rintro e w2 ⟨X, f, v, rfl, hp⟩; obtain ⟨A4, c4, rfl, -, -, ha4⟩ := hp.row.told len7; have P2 := Lib.hid hp; have P2a := Lib.hid ha4; have B2 := Lib.hid (past B1.out hp.row.below); clear hp ha4))
        | (go_at_call 7; go_loud (refine (awake_any _).mono ?_; rintro e w1 ⟨rfl, hb⟩; have B1 := Lib.hid hb; clear hb)))
      go_returns
      exact ⟨rfl, B6.out⟩
end Go.Proofs.YtmpilokgbblonaaGreat.lin
