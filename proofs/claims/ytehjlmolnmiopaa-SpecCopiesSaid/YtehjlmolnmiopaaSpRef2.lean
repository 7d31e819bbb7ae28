/- The document's lists: a queue's items, a stack's, a set's; two lists compared. -/
import Derived.Test.YtehjlmolnmiopaaSpRef
namespace Go.Proofs.Ytehjlmolnmiopaa.spec
open Go.RowKit task

theorem one_cell (x : Value) (hx : x.oneCell' = true) : ∀ u ∈ [x], u.oneCell' = true := by
  intro u hu
  rw [List.mem_singleton.1 hu]
  exact hx
/-- A list that grows. -/
structure Lst (w wr : World) (v : Value) (L : List Int) : Prop where
  own : Own wr w.heap.size v L
  below : Below w.heap.size w wr
theorem Lst.more {w wr w1 : World} {v v' : Value} {x : Int} {L : List Int} {T : TypeId} (h : Lst w wr v L)
    (hown : w1.ownsRow w.heap.size 3 1 v' (L.length + 1) (L.map (Value.int .i64) ++ [.int .i64 x]))
    (hg : (wr.alloc (.cells #[.int .i64 x] T)).grownBy w1 v.ownBlock) : Lst w w1 v' (L ++ [x]) := by
  refine ⟨by unfold Own; rw [List.length_append, List.map_append]; exact hown, (h.below.alloc h.below.size _).grown hg (by have := h.below.size; simp; omega) fun k hk => (h.own.at hk).1⟩
/-- A list that is told. -/
def Told (w : World) (L : List Int) (e : Ending) (w' : World) : Prop := ∃ A c g, e = .returned (.slice A L.length c) ∧ Rw w' g A c L ∧ (A ≠ none → w.heap.size ≤ g) ∧ Below w.heap.size w w'
theorem Lst.told {w wr : World} {v : Value} {L : List Int} (h : Lst w wr v L) : Told w L (.returned v) wr := by
  obtain ⟨A, c, g, rfl, h1, h2⟩ := h.own.rw
  exact ⟨A, c, g, rfl, h1, h2, h.below⟩
theorem Row.drop {w : World} {g o c : Nat} {xs : List Int} (h : Row w g o c xs) (n : Nat) (hn : n ≤ xs.length) : Row w g (o + n) (c - n) (xs.drop n) := by
  have hl := h.len
  have hb := h.big
  obtain ⟨cur, h1, h2, h3⟩ := h.blk
  refine ⟨by simp; omega, by omega, cur, h1, by omega, fun j hj => ?_⟩
  simp at hj
  have := h3 (n + j) (by omega)
  rw [show o + n + j = o + (n + j) by omega, this]
  simp [List.getD_eq_getElem?_getD]

set_option maxHeartbeats 1000000 in
theorem many_any (w : World) (a : Option Addr) (os : List OpV) (N cap : Nat) (hN : os.length = N) (hl : N ≤ 1000) (hx : OpsAt w a os) :
    Calls Try.prog 45 #[.slice a N cap] w fun e w' => e = .returned (.int .i64 (many os : Nat)) ∧ w = w' := by
  have HX := Lib.hid hx
  have HN := Lib.hid hN
  clear hx hN
  go_enter Try.func45, Try.ntmps45
  go_wp2
  go_loop [3, 4] (fun m i => ∃ k n : Nat, k ≤ N ∧ n ≤ k ∧ i = .int .i64 k ∧ m = .int .i64 n ∧ many (os.take k) = n) (fun _ i => N - (intOf i).toNat)
  case atStart => exact ⟨0, 0, Nat.zero_le _, Nat.le_refl _, rfl, rfl, rfl⟩
  case round =>
    obtain ⟨k, n, hk, hnk, rfl, rfl, hn⟩ := hrel
    have HM := Lib.hid hn
    clear hn
    by_cases hlt : k < N
    · have hjl : k < os.length := by rw [HN.out]; omega
      obtain ⟨b, rfl, c0, c1⟩ := HX.out k hjl
      have HS := Lib.hid (many_take hjl)
      generalize os[k] = o at *
      obtain ⟨K, Y⟩ := o
      simp only at c0 c1
      clear hjl c1
      by_cases h4 : K = 4
      · subst h4
        go_wp2
        go_round
        case rel => exact ⟨k + 1, n + 1, by omega, by omega, by go_num, by go_num, by rw [HS.out, HM.out]; rfl⟩
        case measure => simp [intOf]; omega
      · have h4b : (K == 4) = false := beq_eq_false_iff_ne.2 h4
        have HH : Hid (many (os.take (k + 1)) = n - 1) := by show _ = _; rw [HS.out, HM.out]; simp [manyStep, h4]
        clear h4
        by_cases hn0 : 0 < n
        · have hm : (n : Int) - 1 = ((n - 1 : Nat) : Int) := by omega
          go_wp2
          go_round
          case rel => exact ⟨k + 1, n - 1, by omega, by omega, by go_num, by rw [← hm], HH.out⟩
          case measure => simp [intOf]; omega
        · obtain rfl : n = 0 := by omega
          go_wp2
          go_round
          case rel => exact ⟨k + 1, 0, by omega, by omega, by go_num, rfl, HH.out⟩
          case measure => simp [intOf]; omega
    · obtain rfl : k = N := by omega
      have HE : Hid (many os = n) := by show _ = _; rw [← HM.out, ← HN.out, List.take_length]
      go_wp2
      go_returns
      exact ⟨by rw [HE.out] <;> rfl, rfl⟩

set_option maxHeartbeats 1000000 in
theorem ints_any (w : World) (g1 c1 g2 c2 : Nat) (A1 A2 : Option Addr) (xs ys : List Int) (h1 : Rw w g1 A1 c1 xs) (h2 : Rw w g2 A2 c2 ys) (hx : xs.length ≤ 100000) (hy : ys.length ≤ 100000) :
    Calls Try.prog 16 #[.slice A1 xs.length c1, .slice A2 ys.length c2] w fun e w' => e = .returned (.bool (decide (xs = ys))) ∧ ∃ n, w' = w.drewN n := by
  by_cases hl : xs.length = ys.length
  · have H1 := Lib.hid h1
    have H2 := Lib.hid h2
    have HY := Lib.hid hl
    clear h1 h2
    generalize hN : xs.length = N at *
    have HN := Lib.hid hN
    have hq : ys.length = N := hl.symm
    rw [hq]
    clear hN hq hl
    go_enter Try.func16, Try.ntmps16
    go_wp2
    go_loopw [5] (fun i wr => ∃ k n : Nat, k ≤ N ∧ i = .int .i64 k ∧ wr = w.drewN n ∧ ∀ j, j < k → xs.getD j 0 = ys.getD j 0) (fun i _ => N - (intOf i).toNat)
    case atStart => exact ⟨0, 0, Nat.zero_le _, rfl, rfl, fun j hj => absurd hj (by omega)⟩
    case round =>
      obtain ⟨k, n, hk, rfl, rfl, hs⟩ := hrel
      have HS := Lib.hid hs
      clear hs
      by_cases hlt : k < N
      · obtain ⟨o1, hA1, r1⟩ := H1.out.row (by rintro rfl; have := HN.out; simp at this; omega)
        obtain ⟨o2, hA2, r2⟩ := H2.out.row (by rintro rfl; have := HY.out; simp at this; omega)
        subst hA1
        subst hA2
        have d1 := r1.cell (j := k) (by rw [HN.out]; exact hlt)
        have d2 := r2.cell (j := k) (by rw [← HY.out]; exact hlt)
        clear r1 r2
        by_cases he : xs.getD k 0 = ys.getD k 0
        · have HE := Lib.hid he
          rw [he] at d1
          clear he
          go_wp2
          go_quiet (fail)
          go_wp2
          go_roundw
          case rel => exact ⟨k + 1, _, by omega, by go_num, rfl, fun j hj => by
            by_cases hjk : j = k
            · subst hjk; exact HE.out
            · exact HS.out j (by omega)⟩
          case measure => simp [intOf]; omega
        · have HE : Hid (decide (xs = ys) = false) := decide_eq_false (fun h => he (by rw [h]))
          generalize xs.getD k 0 = x at *
          generalize ys.getD k 0 = y at *
          have hb : (x == y) = false := beq_eq_false_iff_ne.2 he
          clear he
          go_wp2
          go_quiet (fail)
          go_wp2
          go_returns
          exact ⟨by rw [HE.out] <;> rfl, _, World.drewN_drewN ..⟩
      · obtain rfl : k = N := by omega
        have HE : Hid (decide (xs = ys) = true) := by
          refine decide_eq_true (List.ext_getElem ?_ fun j hj hj2 => ?_)
          · rw [HN.out]; exact HY.out
          · have := HS.out j (by rw [HN.out] at hj; exact hj)
            simpa [List.getD_eq_getElem?_getD, List.getElem?_eq_getElem hj, List.getElem?_eq_getElem hj2] using this
        go_wp2
        go_returns
        exact ⟨by rw [HE.out] <;> rfl, n, rfl⟩
  · have hd : decide (xs = ys) = false := decide_eq_false fun e => hl (by rw [e])
    rw [hd]
    clear h1 h2 hd
    have hq : ((xs.length : Int) == (ys.length : Int)) = false := beq_eq_false_iff_ne.2 (by omega)
    clear hl
    go_enter Try.func16, Try.ntmps16
    go_wp2
    go_returns
    exact ⟨rfl, 0, rfl⟩

set_option maxRecDepth 100000 in
set_option maxHeartbeats 2000000 in
theorem line_any (w : World) (a : Option Addr) (os : List OpV) (N cap : Nat) (hN : os.length = N) (hl : N ≤ 1000) (hx : OpsAt w a os) :
    Calls Try.prog 33 #[.slice a N cap] w (Told w (lineL os)) := by
  have HX := Lib.hid hx
  have HN := Lib.hid hN
  clear hx hN
  go_enter Try.func33, Try.ntmps33
  go_wp2
  go_loopw [3, 4] (fun v i wr => ∃ k : Nat, k ≤ N ∧ i = .int .i64 k ∧ Lst w wr v (putsL (os.take k)) ∧ (putsL (os.take k)).length ≤ k) (fun _ i _ => N - (intOf i).toNat)
  case atStart => exact ⟨0, Nat.zero_le _, rfl, ⟨Own.nil _ _, Below.refl _ _⟩, by simp [putsL]⟩
  case round =>
    obtain ⟨k, hk, rfl, hst, hle⟩ := hrel
    have HL := Lib.hid hst
    have HB := Lib.hid hst.below.size
    clear hst
    by_cases hlt : k < N
    · have hjl : k < os.length := by rw [HN.out]; omega
      obtain ⟨b, rfl, c0, c1⟩ := (HX.out.later HL.out.below) k hjl
      have HS := Lib.hid (puts_take hjl)
      generalize os[k] = o at *
      obtain ⟨K, Y⟩ := o
      simp only at c0 c1
      clear hjl
      by_cases h4 : K = 4
      · subst h4
        obtain ⟨i0, hi, hz0, hz1, hz2⟩ := info_parts Tryinfo_int
        have hml : (putsL (os.take k)).length + 1 ≤ maxLen := by unfold maxLen; omega
        go_wp2_with (at_builtin; refine wpList_append_own _ rfl (.tmp 17) (.tmp 23) 29 rfl w.heap.size 3 i0 (.int .i64 0) 1 8 Try.underlying29 hi hz0 hz1 hz2 rfl (by decide) _ (putsL (os.take k)).length ((putsL (os.take k)).map (Value.int .i64)) rfl (HL.out.own.below ((Below.refl _ _).alloc (Nat.le_refl _) (.cells #[.int .i64 Y] 3))) ⟨wr.heap.size, 0, none⟩ 1 1 [.int .i64 Y] rfl rfl (cell_one_new _ _ _) (one_cell _ rfl) hml (by omega) (by have := HB.out; simp; omega) ?_; intro v' w3 hown' hgrow hiff; have L3 := Lib.hid (HL.out.more hown' hgrow); clear hown' hgrow hiff)
        go_roundw
        case rel => exact ⟨k + 1, by omega, by go_num, by rw [HS.out]; exact L3.out, by rw [HS.out]; simp; omega⟩
        case measure => simp [intOf]; omega
      · have h4b : (K == 4) = false := beq_eq_false_iff_ne.2 h4
        have HH : Hid (putsL (os.take (k + 1)) = putsL (os.take k)) := by show _ = _; rw [HS.out]; simp [h4]
        clear h4
        go_wp2
        go_roundw
        case rel => exact ⟨k + 1, by omega, by go_num, by rw [HH.out]; exact HL.out, by rw [HH.out]; omega⟩
        case measure => simp [intOf]; omega
    · obtain rfl : k = N := by omega
      have e : os.take k = os := by rw [← HN.out, List.take_length]
      have hl2 := HL.out
      rw [e] at hl2
      have HL2 := Lib.hid hl2
      obtain ⟨A, c, g, hv, hr, hg⟩ := hl2.own.rw
      subst hv
      have hle2 : (putsL os).length ≤ 1000 := by rw [e] at hle; omega
      have hcap := rw_cap hr
      have HM := Lib.hid (many_puts os)
      have HLL := Lib.hid (lineL_len os)
      have hm0 : (many os : Int) ≤ ((putsL os).length : Int) := by have := HM.out; omega
      have HR := Lib.hid hr
      have HG := Lib.hid hg
      clear hle HL HB hr hg e hl2
      rcases HR.out with ⟨hA, hc0, hp0⟩ | ⟨o, hA, hrow⟩
      · subst hA
        subst hc0
        rw [hp0] at hm0 hcap ⊢
        go_wp2_with (go_at_call 45; refine (many_any _ a os k cap HN.out (by omega) (HX.out.later HL2.out.below)).mono ?_; rintro e w2 ⟨rfl, hw⟩; obtain rfl := hw)
        go_returns
        have h0 : lineL os = [] := List.eq_nil_of_length_eq_zero (by have := HLL.out; simp at hm0; omega)
        rw [h0]
        exact ⟨none, 0, 0, rfl, Or.inl ⟨rfl, rfl, rfl⟩, fun h => absurd rfl h, HL2.out.below⟩
      · subst hA
        obtain ⟨lo, hlo⟩ : ∃ lo : Nat, lo = (putsL os).length - many os := ⟨_, rfl⟩
        have hsub : ((putsL os).length : Int) - (many os : Int) = (lo : Int) := by omega
        have hdrop : lineL os = (putsL os).drop lo := by rw [hlo]; rfl
        have HD := Lib.hid hdrop
        have hll : (putsL os).length - lo = (lineL os).length := by rw [hdrop, List.length_drop]
        have HE := Lib.hid hll
        have HW := Lib.hid hrow
        have hln : lo ≤ (putsL os).length := by omega
        have hlc : lo ≤ c := by omega
        clear hlo hdrop hll hrow
        by_cases hce : c = lo
        · subst hce
          go_wp2_with (go_at_call 45; refine (many_any _ a os k cap HN.out (by omega) (HX.out.later HL2.out.below)).mono ?_; rintro e w2 ⟨rfl, hw⟩; obtain rfl := hw)
          go_returns
          have h0 : lineL os = [] := List.eq_nil_of_length_eq_zero (by have := HE.out; omega)
          rw [h0]
          refine ⟨some ⟨g, o, none⟩, 0, g, ?_, Or.inr ⟨o, rfl, HW.out.empty⟩, fun _ => HG.out (by simp), HL2.out.below⟩
          simp
        · go_wp2_with (go_at_call 45; refine (many_any _ a os k cap HN.out (by omega) (HX.out.later HL2.out.below)).mono ?_; rintro e w2 ⟨rfl, hw⟩; obtain rfl := hw)
          go_returns
          refine ⟨some ⟨g, o + lo, none⟩, c - lo, g, ?_, Or.inr ⟨o + lo, rfl, ?_⟩, fun _ => HG.out (by simp), HL2.out.below⟩
          · rw [← HE.out] <;> rfl
          · rw [HD.out]
            exact HW.out.drop lo hln
end Go.Proofs.Ytehjlmolnmiopaa.spec
