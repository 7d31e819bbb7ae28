/- The document's answers about orders: where a number stands; the operations of an order; are all in it that must be? -/
import Derived.Test.YtmpilokgbblonaaGreatKg28
import Derived.Test.YtmpilokgbblonaaGreatKg22
import Derived.Test.YtmpilokgbblonaaGreatKg29
namespace Go.Proofs.YtmpilokgbblonaaGreat.lin
open Go.RowKit Go.Maps
open hist (ClV EvV befB past new_block Went At cells8 len8 Hst callsE Own Grow append_row new_cells wpList_known)
open spec (Rw Row OpV OpsAt stateL nextL)
open task (rightB)
set_option maxHeartbeats 1000000 in
theorem place_any (w : World) (c : Nat) (A : Option Addr) (o : List Int) (h : NumAt w A o) (n : Nat) (hn : o.length = n) (hl : n ≤ 1000) (x : Int) :
    Calls Tryz.prog 57 #[.slice A n c, .int .i64 x] w fun e w' => ∃ r : Int, e = .returned (.int .i64 r) ∧ (0 ≤ r ↔ x ∈ o) ∧ w = w' := by
  have H := Lib.hid h
  have HN := Lib.hid hn
  have hl0 : (n : Int) ≤ 1000 := by omega
  clear h hn
  go_enter Tryz.func57, Tryz.ntmps57
  go_wp2
  go_loopw [5] (fun j wr => ∃ k : Nat, k ≤ n ∧ j = .int .i64 (k : Int) ∧ w = wr ∧ x ∉ o.take k) (fun j _ => n - (intOf j).toNat)
  case atStart => exact ⟨0, Nat.zero_le _, rfl, rfl, by simp⟩
  case round =>
    obtain ⟨k, hk, rfl, rfl, hx⟩ := hrel
    have HX := Lib.hid hx
    clear hx
    by_cases hlt : k < n
    · have hkl : k < o.length := by rw [HN.out]; exact hlt
      have hki : (k : Int) < (n : Int) := by omega
      have hk0 : (0 : Int) ≤ (k : Int) := by omega
      obtain ⟨a, rfl, hc⟩ := H.out k hkl
      have HT := Lib.hid (List.take_succ_eq_append_getElem hkl)
      have HMEM : Hid (o[k] ∈ o) := Lib.hid (List.getElem_mem hkl)
      generalize o[k] = y at *
      by_cases hxy : y = x
      · subst hxy
        have hq : (y == y) = true := beq_self_eq_true y
        clear hkl
        go_wp2
        go_returns
        exact ⟨(k : Int), rfl, ⟨fun _ => HMEM.out, fun _ => hk0⟩, rfl⟩
      · have hq : (y == x) = false := beq_eq_false_iff_ne.2 hxy
        have HXY := Lib.hid hxy
        clear hkl hxy
        go_wp2
        go_roundw
        case rel => exact ⟨k + 1, by omega, by go_num, trivial, by rw [HT.out, List.mem_append, List.mem_singleton]; rintro (h | h); exact HX.out h; exact HXY.out h.symm⟩
        case measure => simp [intOf]; omega
    · have HNO : Hid (x ∉ o) := Lib.hid (by have := HX.out; rwa [List.take_of_length_le (by rw [HN.out]; omega)] at this)
      go_wp2
      go_returns
      exact ⟨-1, rfl, ⟨fun h => absurd h (by decide), fun h => absurd h HNO.out⟩, rfl⟩
/-! The operations of an order. -/
def cells2 (_ : Nat) (v : OpV) : List Value := [.int .i64 v.K, .int .i64 v.Y]
theorem len2 (i : Nat) (v : OpV) : (cells2 i v).length = 2 := rfl
theorem one2 (i : Nat) (v : OpV) : ∀ u ∈ cells2 i v, u.oneCell' = true := by
  intro u hu
  simp [cells2] at hu
  rcases hu with rfl | rfl <;> rfl
theorem ops_at {w : World} {A : Option Addr} {os : List OpV} (h : At cells2 2 w A os) : OpsAt w A os := fun i hi => by
  obtain ⟨b, hb, hc⟩ := h i hi
  exact ⟨b, hb, hc 0 _ rfl, hc 1 _ rfl⟩
set_option maxHeartbeats 2000000 in
theorem ops_any (w : World) (A8 : Option Addr) (c8 m : Nat) (L : List ClV) (h8 : At cells8 8 w A8 L) (hm : L.length = m) (hm2 : m ≤ 100) (c : Nat) (A : Option Addr) (o : List Int) (h : NumAt w A o) (n : Nat) (hn : o.length = n) (hl : n ≤ 100) (hv : ∀ x ∈ o, 0 ≤ x ∧ x < L.length) :
    Calls Tryz.prog 18 #[.slice A8 m c8, .slice A n c] w fun e w' => ∃ v, e = .returned v ∧ Grow cells2 2 47 w w' v (opsI L o) := by
  have H8 := Lib.hid h8
  have H := Lib.hid h
  have HN := Lib.hid hn
  have HM := Lib.hid hm
  have HV := Lib.hid hv
  have hl0 : (n : Int) ≤ 100 := by omega
  have hm0 : (m : Int) ≤ 100 := by omega
  clear h8 h hn hm hv
  go_enter Tryz.func18, Tryz.ntmps18
  go_wp2
  go_loopw [5, 6] (fun vt j wr => ∃ k : Nat, k ≤ n ∧ j = .int .i64 (k : Int) ∧ Grow cells2 2 47 w wr vt (opsI L (o.take k))) (fun _ j _ => n - (intOf j).toNat)
  case atStart => exact ⟨0, Nat.zero_le _, rfl, Grow.nil _ _ _ (Below.refl _ _)⟩
  case round =>
    obtain ⟨k, hk, rfl, hg⟩ := hrel
    have HG := Lib.hid hg
    clear hg
    by_cases hlt : k < n
    · have hkl : k < o.length := by rw [HN.out]; exact hlt
      have hki : (k : Int) < (n : Int) := by omega
      have hk0 : (0 : Int) ≤ (k : Int) := by omega
      obtain ⟨a, rfl, hc0⟩ := H.out k hkl
      have hc := (HG.out.below.cell (World.block_lt_of_cell? _ _ hc0)).trans hc0
      have hok := HV.out _ (List.getElem_mem hkl)
      have HT := Lib.hid (List.take_succ_eq_append_getElem hkl)
      generalize o[k] = y at *
      obtain ⟨i, rfl⟩ : ∃ i : Nat, y = (i : Int) := ⟨y.toNat, by omega⟩
      have hil : i < L.length := by omega
      have hi0 : (0 : Int) ≤ (i : Int) := by omega
      have hi1 : (i : Int) < (m : Int) := by have := HM.out; omega
      obtain ⟨b, rfl, p0, p1, p2, p3, p4, p5, p6, p7⟩ := (H8.out.later HG.out.below).cl i hil
      have HO : Hid (opsI L (o.take (k + 1)) = opsI L (o.take k) ++ [⟨L[i].K, L[i].Y⟩]) := Lib.hid (by
        have h3 : ((i : Int)).toNat < L.length := by rw [Int.toNat_natCast]; exact hil
        rw [HT.out, opsI_snoc h3]
        simp only [Int.toNat_natCast])
      have HOL : Hid ((opsI L (o.take k)).length ≤ 100) := Lib.hid (by unfold opsI; rw [ops_len, List.length_map, List.length_take]; omega)
      generalize L[i] = d at *
      generalize opsI L (o.take k) = os at *
      obtain ⟨Af, cf, rfl, -, -, -⟩ := HG.out.told len2
      obtain ⟨j0, hj, yz0, yz1, yz2⟩ := info_parts spec.Tryzinfo_op
      obtain ⟨v3, w3, hrun, hown, hgr, hat, -⟩ := append_row len2 (wr.alloc (.cells #[.int .i64 d.K, .int .i64 d.Y] 47)) 42 42 47 j0 _ 16 Tryz.underlying42 hj yz0 yz1 yz2 rfl (by decide) _ os ⟨d.K, d.Y⟩ ((HG.out.next ((Below.refl _ _).alloc (Nat.le_refl _) _)).own) wr.heap.size (new_cells wr (cells2 0 ⟨d.K, d.Y⟩) _) (one2 _ _) (by have := HOL.out; unfold maxLen; omega) (by have := HOL.out; omega)
      have HG2 := Lib.hid ((HG.out.next ((Below.refl _ _).alloc (Nat.le_refl _) (.cells #[.int .i64 d.K, .int .i64 d.Y] 47))).more hown hgr hat)
      have HRUN := Lib.hid hrun
      clear hrun hown hgr hat hkl hc0 hok hil hj yz0 yz1 yz2
      go_wp2_with (at_builtin; go_loud (refine wpList_known rfl (.tmp 13) (.tmp 22) 42 rfl _ _ v3 w3 rfl rfl HRUN.out ?_))
      go_roundw
      case rel => exact ⟨k + 1, by omega, by go_num, by rw [HO.out]; exact HG2.out⟩
      case measure => simp [intOf]; omega
    · have he : o.take k = o := List.take_of_length_le (by rw [HN.out]; omega)
      rw [he] at HG
      go_wp2
      go_returns
      exact ⟨_, rfl, HG.out⟩
/-! Are all in it that must be? -/
theorem must_iff' {L : List ClV} {i : Nat} (hi : i < L.length) : mustAt L i = true ↔ 0 ≤ L[i].D ∧ L[i].C = 0 := by
  unfold mustAt
  rw [List.getElem?_eq_getElem hi]
  exact must_iff
set_option maxHeartbeats 2000000 in
theorem whole_any (w : World) (A8 : Option Addr) (c8 m : Nat) (L : List ClV) (h8 : At cells8 8 w A8 L) (hm : L.length = m) (hm2 : m ≤ 100) (c : Nat) (A : Option Addr) (o : List Int) (h : NumAt w A o) (n : Nat) (hn : o.length = n) (hl : n ≤ 100) :
    Calls Tryz.prog 32 #[.slice A8 m c8, .slice A n c] w fun e w' => ∃ b, e = .returned (.bool b) ∧ (b = true ↔ ∀ i, mustAt L i = true → (i : Int) ∈ o) ∧ w = w' := by
  have H8 := Lib.hid h8
  have H := Lib.hid h
  have HN := Lib.hid hn
  have HM := Lib.hid hm
  have hl0 : (n : Int) ≤ 100 := by omega
  have hm0 : (m : Int) ≤ 100 := by omega
  have HL : Hid (n ≤ 1000) := Lib.hid (by omega)
  clear h8 h hn hm
  go_enter Tryz.func32, Tryz.ntmps32
  go_wp2
  go_loopw [5] (fun j wr => ∃ k : Nat, k ≤ m ∧ j = .int .i64 (k : Int) ∧ w = wr ∧ ∀ i, i < k → mustAt L i = true → (i : Int) ∈ o) (fun j _ => m - (intOf j).toNat)
  case atStart => exact ⟨0, Nat.zero_le _, rfl, rfl, fun i hi => absurd hi (by omega)⟩
  case round =>
    obtain ⟨k, hk, rfl, rfl, hx⟩ := hrel
    have HX := Lib.hid hx
    clear hx
    by_cases hlt : k < m
    · have hkl : k < L.length := by rw [HM.out]; exact hlt
      have hki : (k : Int) < (m : Int) := by omega
      have hk0 : (0 : Int) ≤ (k : Int) := by omega
      obtain ⟨b, rfl, p0, p1, p2, p3, p4, p5, p6, p7⟩ := H8.out.cl k hkl
      have HMI := Lib.hid (must_iff' hkl)
      generalize L[k] = d at *
      have HNX : Hid ((mustAt L k = true → (k : Int) ∈ o) → ∀ i, i < k + 1 → mustAt L i = true → (i : Int) ∈ o) := Lib.hid (fun h i hi hm => by
        by_cases e : i = k
        · subst e; exact h hm
        · exact HX.out i (by omega) hm)
      clear hkl
      by_cases hd : 0 ≤ d.D
      · by_cases hc : d.C = 0
        · have hq : (d.C == 0) = true := beq_iff_eq.2 hc
          have HMU : Hid (mustAt L k = true) := Lib.hid (HMI.out.2 ⟨hd, hc⟩)
          clear hc
          go_wp2_with (go_at_call 57; go_loud (refine (place_any _ c A o H.out n HN.out HL.out (k : Int)).mono ?_; rintro e w2 ⟨r, rfl, hr, hw⟩; subst hw; have HR := Lib.hid hr; clear hr))
          · have HNO : Hid (¬ (k : Int) ∈ o) := Lib.hid (fun h => by have := HR.out.2 h; omega)
            go_returns
            exact ⟨false, rfl, ⟨fun h => absurd h (by decide), fun h => absurd (h k HMU.out) HNO.out⟩, rfl⟩
          · go_roundw
            case rel => exact ⟨k + 1, by omega, by go_num, trivial, HNX.out (fun _ => HR.out.1 (by omega))⟩
            case measure => simp [intOf]; omega
        · have hq : (d.C == 0) = false := beq_eq_false_iff_ne.2 hc
          have HC := Lib.hid hc
          clear hc
          go_wp2
          go_roundw
          case rel => exact ⟨k + 1, by omega, by go_num, trivial, HNX.out (fun h => absurd (HMI.out.1 h).2 HC.out)⟩
          case measure => simp [intOf]; omega
      · have HD := Lib.hid hd
        go_wp2
        go_roundw
        case rel => exact ⟨k + 1, by omega, by go_num, trivial, HNX.out (fun h => absurd (HMI.out.1 h).1 HD.out)⟩
        case measure => simp [intOf]; omega
    · have HF : Hid (∀ i, mustAt L i = true → (i : Int) ∈ o) := Lib.hid (fun i hm => HX.out i (by have h1 := must_lt hm; rw [HM.out] at h1; omega) hm)
      go_wp2
      go_returns
      exact ⟨true, rfl, ⟨fun _ => HF.out, fun _ => rfl⟩, rfl⟩
end Go.Proofs.YtmpilokgbblonaaGreat.lin
