/- A history of many calls, one behind the other: its order, or that it is too long. -/
import Derived.Test.YtmpilokgbblonaaKl28
namespace Go.Proofs.Ytmpilokgbblonaa.lin
open Go.RowKit Go.Maps
open hist (ClV EvV befB past new_block Went At cells9 len9 Blk9 Hst callsE begin_any end_any new_any ValidE errE pendE)
open spec (Rw Row Mean OpV okB valI nextL stateL)
open task (rightB)
set_option maxRecDepth 100000 in
set_option maxHeartbeats 8000000 in
theorem long_any (w : World) (x y : Int) (x0 : 0 ≤ x) (x1 : x < 256) (y0 : 0 ≤ y) (y1 : y < 256) :
    Calls Try.prog 3 #[.int .u8 x, .int .u8 y] w fun e w' => e = .returned (.bool true) ∧ Below w.heap.size w w' := by
  obtain ⟨m, hm⟩ : ∃ m : Nat, y % 40 = (m : Int) := ⟨(y % 40).toNat, by omega⟩
  have hm40 : (m : Int) < 40 := by omega
  have HY := Lib.hid hm
  have HS : Hid (1 ≤ 1 + x % 4 ∧ 1 + x % 4 ≤ 4) := Lib.hid (by omega)
  by_cases h2 : 2 < 1 + x % 4
  · have hKK : Kinds (1 + x % 4) 4 true := ⟨by rw [task.right_iff]; omega, Or.inr ⟨rfl, rfl⟩⟩
    have HK := Lib.hid hKK
    clear hKK
    go_enter Try.func3, Try.ntmps3
    go_wp2_with (first
      | (go_at_call 5; have _t := B1.out; go_loud (refine (new_any _).mono ?_; rintro e w2 ⟨X, f2, rfl, hm, hn, hb⟩; have H2 := Lib.hid hm; have N2 : Hid (∀ b, f2 b → w.heap.size ≤ b) := Lib.hid (fun b hb2 => Nat.le_trans B1.out.size (hn b hb2)); have B2 := Lib.hid (past B1.out hb); clear hm hn hb))
      | (go_at_call 4; go_loud (refine (awake_any _).mono ?_; rintro e w1 ⟨rfl, hb⟩; have B1 := Lib.hid hb; clear hb)))
    go_loopw [8] (fun i wr => ∃ k : Nat, k ≤ m ∧ i = .int .i64 (k : Int) ∧ ∃ f', Hst wr X f' (altE (manyL 4 true k)) ∧ (∀ b, f' b → w.heap.size ≤ b) ∧ Below w.heap.size w wr) (fun i _ => m - (intOf i).toNat)
    case atStart => exact ⟨0, Nat.zero_le _, rfl, f2, H2.out, N2.out, B2.out⟩
    case round =>
      obtain ⟨k, hk, rfl, f3, hH, hN, hB⟩ := hrel
      have HH := Lib.hid hH
      have HN := Lib.hid hN
      have HB := Lib.hid hB
      clear hH hN hB
      have hkm : (k : Int) ≤ 40 := by omega
      by_cases hlt : k < m
      · have hki : (k : Int) < (m : Int) := by omega
        obtain ⟨e1, e2⟩ := many_errs 4 true k
        have HE1 := Lib.hid e1
        have HE2 := Lib.hid e2
        have HMO := Lib.hid (many_more 4 true k)
        have HLE : Hid ((altE (manyL 4 true k)).length ≤ 999) := Lib.hid (by rw [alt_len, many_len]; omega)
        clear e1 e2
        go_wp2_with (first
          | (go_at_call 7; have _t := H4.out; go_loud (refine (end_any _ X f4 _ H4.out (by rw [List.length_append]; have := HLE.out; simp; omega) 0 0 0 true HE2.out).mono ?_; rintro e w5 ⟨f5, rfl, hm5, hw5⟩; rw [HMO.out] at hm5; have H5 := Lib.hid hm5; have N5 := Lib.hid (hw5.from B4.out.size N4.out); have B5 := Lib.hid (hw5.below B4.out B4.out.size N4.out); clear hm5 hw5))
          | (go_at_call 6; go_loud (refine (begin_any _ X f3 _ HH.out (by have := HLE.out; omega) 0 4 0 HE1.out).mono ?_; rintro e w4 ⟨f4, rfl, hm4, hw4⟩; have H4 := Lib.hid hm4; have N4 := Lib.hid (hw4.from HB.out.size HN.out); have B4 := Lib.hid (hw4.below HB.out HB.out.size HN.out); clear hm4 hw4)))
        go_roundw
        case rel => exact ⟨k + 1, by omega, by go_num, f5, H5.out, N5.out, B5.out⟩
        case measure => simp [intOf]; omega
      · obtain rfl : k = m := by omega
        have HM : Hid (manyL 4 true k = manyL 4 true k) := Lib.hid rfl
        by_cases h24 : k ≤ 24
        · have h24i : ¬ (24 : Int) < (k : Int) := by omega
          have H24 := Lib.hid h24
          clear h24
          go_wp2_with (first
            | (go_at_call 10; have _t := B8.out; go_loud (refine (legal_nil _ _ HS.out none 0 0).mono ?_; rintro e w9 ⟨rfl, hb⟩; have B9 := Lib.hid (past B8.out hb); clear hb))
            | (go_at_call 9; have _t := B7.out; go_loud (refine (linear_bare _ _ _ _ (order_nil _ _ HS.out)).mono ?_; rintro e w8 ⟨rfl, hb⟩; have B8 := Lib.hid (past B7.out hb); clear hb))
            | (go_at_call 8; have _t := B6.out; go_loud (refine (order_nil _ _ HS.out).mono ?_; rintro e w7 ⟨rfl, hb⟩; have B7 := Lib.hid (past B6.out hb); clear hb))
            | (go_at_call 8; go_loud (refine (many_order _ X f3 _ 4 true k HH.out HK.out HS.out H24.out).mono ?_; rintro e w6 ⟨A6, c6, rfl, hb⟩; have B6 := Lib.hid (past HB.out hb); clear hb)))
          go_returns
          exact ⟨rfl, B9.out⟩
        · have h24i : (24 : Int) < (k : Int) := by omega
          have H24 : Hid (24 < (callsE (altE (manyL 4 true k))).length) := Lib.hid (by rw [(many_valid 4 true k).2, altC_len, many_len]; omega)
          have HLE : Hid ((altE (manyL 4 true k)).length ≤ 1000) := Lib.hid (by rw [alt_len, many_len]; omega)
          clear h24
          go_wp2_with (first
            | (go_at_call 10; have _t := B8.out; go_loud (refine (legal_nil _ _ HS.out none 0 0).mono ?_; rintro e w9 ⟨rfl, hb⟩; have B9 := Lib.hid (past B8.out hb); clear hb))
            | (go_at_call 9; have _t := B7.out; go_loud (refine (linear_bare _ _ _ _ (order_nil _ _ HS.out)).mono ?_; rintro e w8 ⟨rfl, hb⟩; have B8 := Lib.hid (past B7.out hb); clear hb))
            | (go_at_call 8; have _t := B6.out; go_loud (refine (order_nil _ _ HS.out).mono ?_; rintro e w7 ⟨rfl, hb⟩; have B7 := Lib.hid (past B6.out hb); clear hb))
            | (go_at_call 8; go_loud (refine (order_long _ X f3 _ HH.out HLE.out H24.out _ HS.out).mono ?_; rintro e w6 ⟨rfl, hb⟩; have B6 := Lib.hid (past HB.out hb); clear hb)))
          go_returns
          exact ⟨rfl, B9.out⟩
  · have hKK : Kinds (1 + x % 4) 3 false := ⟨by rw [task.right_iff]; omega, Or.inl ⟨rfl, rfl⟩⟩
    have HK := Lib.hid hKK
    clear hKK
    go_enter Try.func3, Try.ntmps3
    go_wp2_with (first
      | (go_at_call 5; have _t := B1.out; go_loud (refine (new_any _).mono ?_; rintro e w2 ⟨X, f2, rfl, hm, hn, hb⟩; have H2 := Lib.hid hm; have N2 : Hid (∀ b, f2 b → w.heap.size ≤ b) := Lib.hid (fun b hb2 => Nat.le_trans B1.out.size (hn b hb2)); have B2 := Lib.hid (past B1.out hb); clear hm hn hb))
      | (go_at_call 4; go_loud (refine (awake_any _).mono ?_; rintro e w1 ⟨rfl, hb⟩; have B1 := Lib.hid hb; clear hb)))
    go_loopw [8] (fun i wr => ∃ k : Nat, k ≤ m ∧ i = .int .i64 (k : Int) ∧ ∃ f', Hst wr X f' (altE (manyL 3 false k)) ∧ (∀ b, f' b → w.heap.size ≤ b) ∧ Below w.heap.size w wr) (fun i _ => m - (intOf i).toNat)
    case atStart => exact ⟨0, Nat.zero_le _, rfl, f2, H2.out, N2.out, B2.out⟩
    case round =>
      obtain ⟨k, hk, rfl, f3, hH, hN, hB⟩ := hrel
      have HH := Lib.hid hH
      have HN := Lib.hid hN
      have HB := Lib.hid hB
      clear hH hN hB
      have hkm : (k : Int) ≤ 40 := by omega
      by_cases hlt : k < m
      · have hki : (k : Int) < (m : Int) := by omega
        obtain ⟨e1, e2⟩ := many_errs 3 false k
        have HE1 := Lib.hid e1
        have HE2 := Lib.hid e2
        have HMO := Lib.hid (many_more 3 false k)
        have HLE : Hid ((altE (manyL 3 false k)).length ≤ 999) := Lib.hid (by rw [alt_len, many_len]; omega)
        clear e1 e2
        go_wp2_with (first
          | (go_at_call 7; have _t := H4.out; go_loud (refine (end_any _ X f4 _ H4.out (by rw [List.length_append]; have := HLE.out; simp; omega) 0 0 0 false HE2.out).mono ?_; rintro e w5 ⟨f5, rfl, hm5, hw5⟩; rw [HMO.out] at hm5; have H5 := Lib.hid hm5; have N5 := Lib.hid (hw5.from B4.out.size N4.out); have B5 := Lib.hid (hw5.below B4.out B4.out.size N4.out); clear hm5 hw5))
          | (go_at_call 6; go_loud (refine (begin_any _ X f3 _ HH.out (by have := HLE.out; omega) 0 3 0 HE1.out).mono ?_; rintro e w4 ⟨f4, rfl, hm4, hw4⟩; have H4 := Lib.hid hm4; have N4 := Lib.hid (hw4.from HB.out.size HN.out); have B4 := Lib.hid (hw4.below HB.out HB.out.size HN.out); clear hm4 hw4)))
        go_roundw
        case rel => exact ⟨k + 1, by omega, by go_num, f5, H5.out, N5.out, B5.out⟩
        case measure => simp [intOf]; omega
      · obtain rfl : k = m := by omega
        have HM : Hid (manyL 3 false k = manyL 3 false k) := Lib.hid rfl
        by_cases h24 : k ≤ 24
        · have h24i : ¬ (24 : Int) < (k : Int) := by omega
          have H24 := Lib.hid h24
          clear h24
          go_wp2_with (first
            | (go_at_call 10; have _t := B8.out; go_loud (refine (legal_nil _ _ HS.out none 0 0).mono ?_; rintro e w9 ⟨rfl, hb⟩; have B9 := Lib.hid (past B8.out hb); clear hb))
            | (go_at_call 9; have _t := B7.out; go_loud (refine (linear_bare _ _ _ _ (order_nil _ _ HS.out)).mono ?_; rintro e w8 ⟨rfl, hb⟩; have B8 := Lib.hid (past B7.out hb); clear hb))
            | (go_at_call 8; have _t := B6.out; go_loud (refine (order_nil _ _ HS.out).mono ?_; rintro e w7 ⟨rfl, hb⟩; have B7 := Lib.hid (past B6.out hb); clear hb))
            | (go_at_call 8; go_loud (refine (many_order _ X f3 _ 3 false k HH.out HK.out HS.out H24.out).mono ?_; rintro e w6 ⟨A6, c6, rfl, hb⟩; have B6 := Lib.hid (past HB.out hb); clear hb)))
          go_returns
          exact ⟨rfl, B9.out⟩
        · have h24i : (24 : Int) < (k : Int) := by omega
          have H24 : Hid (24 < (callsE (altE (manyL 3 false k))).length) := Lib.hid (by rw [(many_valid 3 false k).2, altC_len, many_len]; omega)
          have HLE : Hid ((altE (manyL 3 false k)).length ≤ 1000) := Lib.hid (by rw [alt_len, many_len]; omega)
          clear h24
          go_wp2_with (first
            | (go_at_call 10; have _t := B8.out; go_loud (refine (legal_nil _ _ HS.out none 0 0).mono ?_; rintro e w9 ⟨rfl, hb⟩; have B9 := Lib.hid (past B8.out hb); clear hb))
            | (go_at_call 9; have _t := B7.out; go_loud (refine (linear_bare _ _ _ _ (order_nil _ _ HS.out)).mono ?_; rintro e w8 ⟨rfl, hb⟩; have B8 := Lib.hid (past B7.out hb); clear hb))
            | (go_at_call 8; have _t := B6.out; go_loud (refine (order_nil _ _ HS.out).mono ?_; rintro e w7 ⟨rfl, hb⟩; have B7 := Lib.hid (past B6.out hb); clear hb))
            | (go_at_call 8; go_loud (refine (order_long _ X f3 _ HH.out HLE.out H24.out _ HS.out).mono ?_; rintro e w6 ⟨rfl, hb⟩; have B6 := Lib.hid (past HB.out hb); clear hb)))
          go_returns
          exact ⟨rfl, B9.out⟩
end Go.Proofs.Ytmpilokgbblonaa.lin
