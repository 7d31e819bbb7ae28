/- A stack's items, a set's; the document's items and results. -/
import Derived.Test.YtehjlmolnmiopaaSpRef2
namespace Go.Proofs.Ytehjlmolnmiopaa.spec
open Go.RowKit task

theorem pileGo_succ {l : List OpV} {i : Nat} (hi : i < l.length) (n : Nat) : pileGo l (i + 1) (n + 1) = if l[i].K = 4 ∧ many (l.take i) = n then l[i].Y :: pileGo l i n else pileGo l i (n + 1) := by
  rw [pileGo, if_neg (by omega), List.getElem?_eq_getElem hi]
  rfl
set_option maxRecDepth 100000 in
set_option maxHeartbeats 2000000 in
theorem pile_any (w : World) (a : Option Addr) (os : List OpV) (N cap : Nat) (hN : os.length = N) (hl : N ≤ 1000) (hc : N ≤ cap) (hx : OpsAt w a os) :
    Calls Try.prog 34 #[.slice a N cap] w (Told w (pileL os)) := by
  have HX := Lib.hid hx
  have HN := Lib.hid hN
  have HM := Lib.hid (many_le os)
  clear hx hN
  go_enter Try.func34, Try.ntmps34
  go_wp2_with (go_at_call 45; refine (many_any _ a os N cap HN.out hl HX.out).mono ?_; rintro e w2 ⟨rfl, hw⟩; obtain rfl := hw)
  go_loopw [3, 4, 5] (fun v d i wr => ∃ (k n : Nat) (out : List Int), k ≤ N ∧ out.length + k ≤ N ∧ n ≤ N ∧ i = .int .i64 ((k : Int) - 1) ∧ d = .int .i64 n ∧ Lst w wr v out ∧ pileL os = out ++ pileGo os k n) (fun _ _ i _ => (intOf i + 1).toNat)
  case atStart => exact ⟨N, many os, [], Nat.le_refl _, by simp, by have := HM.out; have := HN.out; omega, rfl, rfl, ⟨Own.nil _ _, Below.refl _ _⟩, by rw [← HN.out]; rfl⟩
  case round =>
    obtain ⟨k, n, out, hk, hle, hnN, rfl, rfl, hst, hp⟩ := hrel
    have HL := Lib.hid hst
    have HB := Lib.hid hst.below.size
    have HP := Lib.hid hp
    clear hst hp
    have fin : (k = 0 ∨ n = 0) → Hid (pileL os = out) := by
      rintro (rfl | rfl)
      · show pileL os = out; rw [HP.out, pileGo, List.append_nil]
      · show pileL os = out; rw [HP.out, pileGo_zero, List.append_nil]
    by_cases hlt : 0 < k
    · obtain ⟨j, rfl⟩ : ∃ j, k = j + 1 := ⟨k - 1, by omega⟩
      have hj1 : (((j + 1 : Nat) : Int) - 1) = (j : Int) := by omega
      rw [hj1]
      clear hj1
      by_cases hn : 0 < n
      · obtain ⟨m, rfl⟩ : ∃ m, n = m + 1 := ⟨n - 1, by omega⟩
        clear fin
        have hjl : j < os.length := by rw [HN.out]; omega
        have hjN : j < N := by omega
        have hjc : j ≤ cap := by omega
        obtain ⟨b, rfl, c0, c1⟩ := (HX.out.later HL.out.below) j hjl
        have HS := Lib.hid (pileGo_succ hjl m)
        have HT : Hid ((os.take j).length = j) := by show _ = _; simp; omega
        have hm1 : (((m + 1 : Nat) : Int) - 1) = (m : Int) := by omega
        generalize os[j] = o at *
        obtain ⟨K, Y⟩ := o
        simp only at c0 c1
        have hjz : (0 : Int) ≤ (j : Int) := by omega
        have hmz : (0 : Int) < ((m + 1 : Nat) : Int) := by omega
        clear hjl hlt hn
        have HM1 := Lib.hid hm1
        clear hm1
        generalize hz : ((m + 1 : Nat) : Int) = z at *
        have HZ := Lib.hid hz
        clear hz
        have hz1 : z ≤ 1001 := by have := HZ.out; omega
        by_cases h4 : K = 4
        · subst h4
          by_cases hq : many (os.take j) = m
          · have HH : Hid (pileGo os (j + 1) (m + 1) = Y :: pileGo os j m) := by show _ = _; rw [HS.out, if_pos ⟨rfl, hq⟩]
            have hqb : (((many (os.take j) : Nat) : Int) == z - 1) = true := beq_iff_eq.2 (by rw [HM1.out, hq])
            clear hq
            obtain ⟨i0, hi, hz0, hz1, hz2⟩ := info_parts Tryinfo_int
            have hml : out.length + 1 ≤ maxLen := by unfold maxLen; omega
            go_wp2_with (first
              | (go_at_call 45; refine (many_any _ (some b) (os.take j) j cap HT.out (by omega) ((HX.out.later HL.out.below).take j)).mono ?_; rintro e w2 ⟨rfl, hw⟩; obtain rfl := hw)
              | (at_builtin; refine wpList_append_own _ rfl (.tmp 34) (.tmp 40) 29 rfl w.heap.size 3 i0 (.int .i64 0) 1 8 Try.underlying29 hi hz0 hz1 hz2 rfl (by decide) _ out.length (out.map (Value.int .i64)) rfl (HL.out.own.below ((Below.refl _ _).alloc (Nat.le_refl _) (.cells #[.int .i64 Y] 3))) ⟨wr.heap.size, 0, none⟩ 1 1 [.int .i64 Y] rfl rfl (cell_one_new _ _ _) (one_cell _ rfl) hml (by omega) (by have := HB.out; simp; omega) ?_; intro v' w3 hown' hgrow hiff; have L3 := Lib.hid (HL.out.more hown' hgrow); clear hown' hgrow hiff))
            go_roundw
            case rel => exact ⟨j, m, out ++ [Y], by omega, by simp; omega, by omega, rfl, by rw [HM1.out], L3.out, by rw [HP.out, HH.out]; simp⟩
            case measure => simp [intOf]
          · have HH : Hid (pileGo os (j + 1) (m + 1) = pileGo os j (m + 1)) := by show _ = _; rw [HS.out, if_neg (fun h => hq h.2)]
            have hqb : (((many (os.take j) : Nat) : Int) == z - 1) = false := beq_eq_false_iff_ne.2 (by rw [HM1.out]; omega)
            clear hq
            go_wp2_with (go_at_call 45; refine (many_any _ (some b) (os.take j) j cap HT.out (by omega) ((HX.out.later HL.out.below).take j)).mono ?_; rintro e w2 ⟨rfl, hw⟩; obtain rfl := hw)
            go_roundw
            case rel => exact ⟨j, m + 1, out, by omega, by omega, by omega, rfl, by rw [HZ.out], HL.out, by rw [HP.out, HH.out]⟩
            case measure => simp [intOf]
        · have h4b : (K == 4) = false := beq_eq_false_iff_ne.2 h4
          have HH : Hid (pileGo os (j + 1) (m + 1) = pileGo os j (m + 1)) := by show _ = _; rw [HS.out, if_neg (fun h => h4 h.1)]
          clear h4
          go_wp2
          go_roundw
          case rel => exact ⟨j, m + 1, out, by omega, by omega, by omega, rfl, by rw [HZ.out], HL.out, by rw [HP.out, HH.out]⟩
          case measure => simp [intOf]
      · obtain rfl : n = 0 := by omega
        have F := fin (Or.inr rfl)
        clear fin
        go_wp2
        go_returns
        rw [F.out]
        exact HL.out.told
    · obtain rfl : k = 0 := by omega
      have F := fin (Or.inl rfl)
      clear fin
      go_wp2
      go_returns
      rw [F.out]
      exact HL.out.told

set_option maxRecDepth 100000 in
set_option maxHeartbeats 2000000 in
theorem keys_any (w : World) (s : Int) (a : Option Addr) (os : List OpV) (N cap : Nat) (hN : os.length = N) (hl : N ≤ 1000) (hx : OpsAt w a os) (h3 : ¬ s = 3) (h4 : ¬ s = 4) :
    Calls Try.prog 17 #[.int .i64 s, .slice a N cap] w (Told w (keysL os)) := by
  have HX := Lib.hid hx
  have HN := Lib.hid hN
  have h3b : (s == 3) = false := beq_eq_false_iff_ne.2 h3
  have h4b : (s == 4) = false := beq_eq_false_iff_ne.2 h4
  clear hx hN h3 h4
  go_enter Try.func17, Try.ntmps17
  go_wp2
  go_loopw [5, 6] (fun v i wr => ∃ k : Nat, k ≤ 1000 ∧ i = .int .i64 k ∧ Lst w wr v (keysTo os k)) (fun _ i _ => 1000 - (intOf i).toNat)
  case atStart => exact ⟨0, Nat.zero_le _, rfl, ⟨Own.nil _ _, Below.refl _ _⟩⟩
  case round =>
    obtain ⟨k, hk, rfl, hst⟩ := hrel
    have HL := Lib.hid hst
    have HB := Lib.hid hst.below.size
    have HS := Lib.hid (keysTo_succ os k)
    have hkl := keysTo_len os k
    clear hst
    by_cases hlt : k < 1000
    · have hle : (k : Int) ≤ 999 := by omega
      cases hin : inB os (k : Int)
      · have HI := Lib.hid hin
        clear hin
        go_wp2_with (go_at_call 30; refine (in_any _ _ a os N cap HN.out hl (HX.out.later HL.out.below)).mono ?_; rw [HI.out]; rintro e w2 ⟨rfl, hw⟩; obtain rfl := hw)
        go_roundw
        case rel => exact ⟨k + 1, by omega, by go_num, by rw [HS.out, HI.out]; simpa using HL.out⟩
        case measure => simp [intOf]; omega
      · have HI := Lib.hid hin
        clear hin
        obtain ⟨i0, hi, hz0, hz1, hz2⟩ := info_parts Tryinfo_int
        have hml : (keysTo os k).length + 1 ≤ maxLen := by unfold maxLen; omega
        go_wp2_with (first
          | (go_at_call 30; refine (in_any _ _ a os N cap HN.out hl (HX.out.later HL.out.below)).mono ?_; rw [HI.out]; rintro e w2 ⟨rfl, hw⟩; obtain rfl := hw)
          | (at_builtin; refine wpList_append_own _ rfl (.tmp 22) (.tmp 24) 29 rfl w.heap.size 3 i0 (.int .i64 0) 1 8 Try.underlying29 hi hz0 hz1 hz2 rfl (by decide) _ (keysTo os k).length ((keysTo os k).map (Value.int .i64)) rfl (HL.out.own.below ((Below.refl _ _).alloc (Nat.le_refl _) (.cells #[.int .i64 (k : Int)] 3))) ⟨wr.heap.size, 0, none⟩ 1 1 [.int .i64 (k : Int)] rfl rfl (cell_one_new _ _ _) (one_cell _ rfl) hml (by omega) (by have := HB.out; simp; omega) ?_; intro v' w3 hown' hgrow hiff; have L3 := Lib.hid (HL.out.more hown' hgrow); clear hown' hgrow hiff))
        go_roundw
        case rel => exact ⟨k + 1, by omega, by go_num, by rw [HS.out, if_pos HI.out]; exact L3.out⟩
        case measure => simp [intOf]; omega
    · obtain rfl : k = 1000 := by omega
      go_wp2
      go_returns
      exact HL.out.told

set_option maxHeartbeats 1000000 in
theorem itemsR_any (w : World) (s : Int) (a : Option Addr) (os : List OpV) (N cap : Nat) (hN : os.length = N) (hl : N ≤ 1000) (hc : N ≤ cap) (hx : OpsAt w a os) :
    Calls Try.prog 17 #[.int .i64 s, .slice a N cap] w (Told w (itemsR s os)) := by
  unfold itemsR
  by_cases h3 : s = 3
  · subst h3
    rw [if_pos rfl]
    have HX := Lib.hid hx
    have HN := Lib.hid hN
    clear hx hN
    go_enter Try.func17, Try.ntmps17
    go_wp2_with (go_at_call 33; refine (line_any _ a os N cap HN.out hl HX.out).mono ?_; rintro e w2 ⟨A, c, g, rfl, h⟩; have H := Lib.hid h; clear h)
    go_returns
    exact ⟨A, c, g, rfl, H.out⟩
  · rw [if_neg h3]
    by_cases h4 : s = 4
    · subst h4
      rw [if_pos rfl]
      have HX := Lib.hid hx
      have HN := Lib.hid hN
      clear hx hN
      go_enter Try.func17, Try.ntmps17
      go_wp2_with (go_at_call 34; refine (pile_any _ a os N cap HN.out hl hc HX.out).mono ?_; rintro e w2 ⟨A, c, g, rfl, h⟩; have H := Lib.hid h; clear h)
      go_returns
      exact ⟨A, c, g, rfl, H.out⟩
    · rw [if_neg h4]
      exact keys_any w s a os N cap hN hl hx h3 h4
end Go.Proofs.Ytehjlmolnmiopaa.spec
