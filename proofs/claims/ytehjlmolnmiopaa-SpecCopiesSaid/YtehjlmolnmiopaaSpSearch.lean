/- sort.Find, walked: the first place whose item isn't less than the key; whether the key is there. -/
import Derived.Test.YtehjlmolnmiopaaSpFind
namespace Go.Proofs.Ytehjlmolnmiopaa.spec
open Go.RowKit task

/-- All items ahead of a place are less than a key, and all from it on aren't. -/
structure Place (L : List Int) (y : Int) (i : Nat) : Prop where
  le : i ≤ L.length
  less : ∀ k, k < i → L.getD k 0 < y
  more : ∀ k, i ≤ k → k < L.length → y ≤ L.getD k 0
theorem rise_get {L : List Int} (hp : L.Pairwise (· < ·)) {a b : Nat} (hab : a < b) (hb : b < L.length) : L.getD a 0 < L.getD b 0 := by
  rw [List.pairwise_iff_getElem] at hp
  have := hp a b (by omega) hb hab
  simpa [List.getD_eq_getElem?_getD, List.getElem?_eq_getElem hb, List.getElem?_eq_getElem (show a < L.length by omega)] using this
theorem cmp_sign (x y : Int) : (0 < Lib.compareInt x y ↔ y < x) ∧ (Lib.compareInt x y = 0 ↔ x = y) := by
  unfold Lib.compareInt
  split
  · omega
  · split <;> omega
theorem cmp_not {x y : Int} (h : ¬ x < y) : Lib.compareInt y x = 0 ∨ Lib.compareInt y x = -1 := by
  unfold Lib.compareInt
  by_cases h1 : y < x
  · rw [if_pos h1]; exact Or.inr rfl
  · rw [if_neg h1, if_neg (by omega)]; exact Or.inl rfl
theorem place_mem {L : List Int} {y : Int} {i : Nat} (hp : L.Pairwise (· < ·)) (h : Place L y i) : y ∈ L ↔ i < L.length ∧ L.getD i 0 = y := by
  constructor
  · intro hm
    obtain ⟨k, hk, he⟩ := List.getElem_of_mem hm
    have hg : L.getD k 0 = y := by simp [List.getD_eq_getElem?_getD, List.getElem?_eq_getElem hk, he]
    by_cases h1 : k < i
    · have := h.less k h1
      omega
    · by_cases h2 : k = i
      · subst h2; exact ⟨hk, hg⟩
      · have h3 := h.more i (Nat.le_refl _) (by omega)
        have h4 := rise_get hp (show i < k by omega) hk
        omega
  · rintro ⟨hi, hg⟩
    rw [← hg]
    simp [List.getD_eq_getElem?_getD, List.getElem?_eq_getElem hi]

set_option maxHeartbeats 1000000 in
theorem find_walk (w : World) (K P X : Nat) (y s : Int) (t : Parts) (hq : Ask w K P X y) (h : Two w X s t) (hl : t.items.length ≤ 1000) (hp : t.items.Pairwise (· < ·)) :
    Calls Try.prog 40 #[.int .i64 (t.items.length : Nat), .func (.func 41) #[] #[.pointer (some ⟨K, 0, none⟩), .pointer (some ⟨P, 0, none⟩)]] w fun e w' =>
      (∃ i : Nat, Place t.items y i ∧ e = .returned (.tuple #[.int .i64 i, .bool (decide (y ∈ t.items))])) ∧ ∃ n, w' = w.drewN n := by
  have H := Lib.hid h
  have HL := Lib.hid hl
  have HP := Lib.hid hp
  have HQ := Lib.hid hq
  clear h hp hq
  generalize hN : t.items.length = N at *
  have HN := Lib.hid hN
  clear hN
  go_enter Try.func40, Try.ntmps40
  go_wp2
  go_loopw [4, 6] (fun i j wr => ∃ a b n : Nat, a ≤ b ∧ b ≤ N ∧ i = .int .i64 a ∧ j = .int .i64 b ∧ wr = w.drewN n ∧ (∀ k, k < a → t.items.getD k 0 < y) ∧ (∀ k, b ≤ k → k < N → y ≤ t.items.getD k 0)) (fun i j _ => (intOf j - intOf i).toNat)
  case atStart => exact ⟨0, N, 0, by omega, Nat.le_refl _, rfl, rfl, rfl, fun k hk => absurd hk (by omega), fun k h1 h2 => absurd h2 (by omega)⟩
  case round =>
    obtain ⟨a, b, n, hab, hbN, rfl, rfl, rfl, hless, hmore⟩ := hrel
    have HLS := Lib.hid hless
    have HMR := Lib.hid hmore
    clear hless hmore
    by_cases hlt : a < b
    · obtain ⟨m, hm⟩ : ∃ m : Nat, m = (a + b) / 2 := ⟨_, rfl⟩
      have hmi : ((a : Int) + (b : Int)) / 2 = (m : Int) := by omega
      have hmN : m < t.items.length := by have := HN.out; omega
      have hma : a ≤ m := by omega
      have hmb : m < b := by omega
      clear hm
      by_cases hy : t.items.getD m 0 < y
      · have hcmp : Lib.compareInt y (t.items.getD m 0) = 1 := by unfold Lib.compareInt; rw [if_neg (by omega), if_pos (by omega)]
        have HC := Lib.hid hcmp
        have HY := Lib.hid hy
        have HM := Lib.hid hmN
        clear hcmp hy hmN
        go_wp2_with (go_at_call 41; refine (cmp_any _ K P X y s t (HQ.out.drewN _) (H.out.drewN _) (by rw [HN.out]; exact HL.out) m _ (by omega) HM.out).mono ?_; rw [HC.out]; rintro e w1 ⟨rfl, n1, rfl⟩)
        go_roundw
        case rel => exact ⟨m + 1, b, n + n1, by omega, by omega, by go_num, rfl, rfl, fun k hk => by
          by_cases hkm : k = m
          · subst hkm; exact HY.out
          · exact Int.lt_trans (rise_get HP.out (show k < m by omega) HM.out) HY.out, HMR.out⟩
        case measure => simp [intOf]; omega
      · have hcmp : Lib.compareInt y (t.items.getD m 0) = 0 ∨ Lib.compareInt y (t.items.getD m 0) = -1 := cmp_not hy
        have HY := Lib.hid hy
        have HM := Lib.hid hmN
        clear hy hmN
        rcases hcmp with hcmp | hcmp
        all_goals
          have HC := Lib.hid hcmp
          clear hcmp
          go_wp2_with (go_at_call 41; refine (cmp_any _ K P X y s t (HQ.out.drewN _) (H.out.drewN _) (by rw [HN.out]; exact HL.out) m _ (by omega) HM.out).mono ?_; rw [HC.out]; rintro e w1 ⟨rfl, n1, rfl⟩)
          go_roundw
          case rel => exact ⟨a, m, n + n1, hma, by omega, rfl, rfl, rfl, HLS.out, fun k hk hkN => by
            have hY := HY.out
            by_cases hkm : k = m
            · subst hkm; omega
            · have := rise_get HP.out (show m < k by omega) (by have := HN.out; omega)
              omega⟩
          case measure => simp [intOf]; omega
    · have hab2 : b = a := by omega
      subst hab2
      have HPL : Hid (Place t.items y b) := ⟨by have := HN.out; omega, HLS.out, fun k h1 h2 => HMR.out k h1 (by have := HN.out; omega)⟩
      have HME := Lib.hid (place_mem HP.out HPL.out)
      by_cases hbN2 : b < N
      · have hbl : b < t.items.length := by have := HN.out; omega
        by_cases hy : t.items.getD b 0 = y
        · have hcmp : Lib.compareInt y (t.items.getD b 0) = 0 := by rw [hy]; unfold Lib.compareInt; rw [if_neg (by omega), if_neg (by omega)]
          have HD : Hid (decide (y ∈ t.items) = true) := decide_eq_true (HME.out.2 ⟨hbl, hy⟩)
          have HC := Lib.hid hcmp
          have HM := Lib.hid hbl
          clear hcmp hbl hy
          go_wp2_with (go_at_call 41; refine (cmp_any _ K P X y s t (HQ.out.drewN _) (H.out.drewN _) (by rw [HN.out]; exact HL.out) b _ rfl HM.out).mono ?_; rw [HC.out]; rintro e w1 ⟨rfl, n1, rfl⟩)
          go_returns
          exact ⟨⟨b, HPL.out, by rw [HD.out] <;> rfl⟩, n + n1, rfl⟩
        · have hcmp : Lib.compareInt y (t.items.getD b 0) = -1 := by
            have := HPL.out.more b (Nat.le_refl _) hbl
            unfold Lib.compareInt
            rw [if_pos (by omega)]
          have HD : Hid (decide (y ∈ t.items) = false) := decide_eq_false (fun h => hy (HME.out.1 h).2)
          have HC := Lib.hid hcmp
          have HM := Lib.hid hbl
          clear hcmp hbl hy
          go_wp2_with (go_at_call 41; refine (cmp_any _ K P X y s t (HQ.out.drewN _) (H.out.drewN _) (by rw [HN.out]; exact HL.out) b _ rfl HM.out).mono ?_; rw [HC.out]; rintro e w1 ⟨rfl, n1, rfl⟩)
          go_returns
          exact ⟨⟨b, HPL.out, by rw [HD.out] <;> rfl⟩, n + n1, rfl⟩
      · have HD : Hid (decide (y ∈ t.items) = false) := decide_eq_false (fun h => by have := (HME.out.1 h).1; have := HN.out; omega)
        go_wp2
        go_returns
        exact ⟨⟨b, HPL.out, by rw [HD.out] <;> rfl⟩, n, rfl⟩
end Go.Proofs.Ytehjlmolnmiopaa.spec
