/- The document's answer: may an order's last number stand where it does; is an order legal? -/
import Derived.Test.YtmpilokgbblonaaGreatKg30
import Derived.Test.YtmpilokgbblonaaGreatKg21
namespace Go.Proofs.YtmpilokgbblonaaGreat.lin
open Go.RowKit Go.Maps
open hist (ClV EvV befB past new_block Went At cells8 len8 Blk8 Hst callsE Own Grow refBefore_any clV eq_res)
open spec (Rw Row OpV OpsAt stateL nextL okR valR res_any)
open task (rightB)
theorem fit_by {s : Int} {L : List ClV} {o : List Int} (ho : okI s L o) {i : Nat} {d : ClV} (hd : L[i]? = some d) :
    fitI s L o (i : Int) = true ↔ (i : Int) ∉ o ∧ mayC s d = true ∧ (∀ (j : Nat) (y : Int), o[j]? = some y → ∀ hy : y.toNat < L.length, befB d.D L[y.toNat].B = false) ∧ toldR s (opsI L o) d = true := by
  have hi : i < L.length := (List.getElem?_eq_some_iff.1 hd).1
  have hid : L[i] = d := (List.getElem?_eq_some_iff.1 hd).2
  rw [fitI_doc ho]
  constructor
  · rintro ⟨hx, _, h1, h2, h3, h4⟩
    have he : L[((i : Int)).toNat] = d := by simp only [Int.toNat_natCast]; exact hid
    rw [he] at h2 h3 h4
    exact ⟨h1, h2, h3, h4⟩
  · rintro ⟨h1, h2, h3, h4⟩
    have hx : ((i : Int)).toNat < L.length := by rw [Int.toNat_natCast]; exact hi
    have he : L[((i : Int)).toNat] = d := by simp only [Int.toNat_natCast]; exact hid
    refine ⟨hx, by omega, h1, ?_, ?_, ?_⟩ <;> rw [he] <;> assumption
/-- May a call stand, as the document asks? -/
theorem may_doc {s : Int} {d : ClV} (hr : rightB s d.K d.Y = true) : mayC s d = true ↔ ¬ (0 ≤ d.D ∧ d.C ≠ 0) := by
  unfold mayC
  rw [hr]
  simp only [Bool.true_and, Bool.or_eq_true, decide_eq_true_eq]
  omega
/-- The call that is looked at, in a block of its own. -/
structure Fq (W w : World) (P : Nat) (d : ClV) : Prop where
  below : Below W.heap.size W w
  blk : Blk8 w P d
theorem Fq.next {W w w' : World} {P : Nat} {d : ClV} (h : Fq W w P d) (hb : Below w.heap.size w w') : Fq W w' P d := ⟨past h.below hb, h.blk.below hb⟩
attribute [local go_sem ↓] eq_res
set_option maxRecDepth 100000 in
set_option maxHeartbeats 8000000 in
theorem fits_any (w : World) (s : Int) (A8 : Option Addr) (c8 m : Nat) (L : List ClV) (h8 : At cells8 8 w A8 L) (hm : L.length = m) (hm2 : m ≤ 100) (c : Nat) (A : Option Addr) (o : List Int) (k : Nat) (h : NumAt w A o) (hbig : o.length ≤ c) (hk : k < o.length) (hl : o.length ≤ 100) (ho : okI s L (o.take k)) :
    Calls Tryz.prog 33 #[.int .i64 s, .slice A8 m c8, .slice A (k + 1) c] w fun e w' => e = .returned (.bool (fitI s L (o.take k) o[k])) ∧ Below w.heap.size w w' := by
  have H8 := Lib.hid h8
  have HM := Lib.hid hm
  have HO := Lib.hid ho
  have HK := Lib.hid hk
  have hm0 : (m : Int) ≤ 100 := by omega
  have hk0 : (0 : Int) ≤ (k : Int) := by omega
  have hk1 : (k : Int) < 100 := by omega
  have hkc : (k : Int) ≤ (c : Int) := by omega
  have hkc1 : (k : Int) < (c : Int) := by omega
  obtain ⟨a, rfl, hc⟩ := h k hk
  have HT := Lib.hid (na_take h k)
  have HTL : Hid ((o.take k).length = k) := Lib.hid (by rw [List.length_take]; omega)
  have HR := Lib.hid h
  have HVL := Lib.hid (okI_lt ho)
  have HK2 : ∀ y : Int, y = o[k]'hk → w.cell? (a.add k) = some (.int .i64 y) := fun y hy => by rw [hy]; exact hc
  generalize hx : o[k]'hk = x
  replace hc := HK2 x hx.symm
  clear h8 hm ho h hbig hx hl HK2
  by_cases hx0 : x < 0
  · rw [not_fit_range (by omega)]
    go_enter Tryz.func33, Tryz.ntmps33
    go_wp2
    go_returns
    exact ⟨rfl, Below.refl _ _⟩
  · by_cases hxm : (m : Int) ≤ x
    · rw [not_fit_range (by rw [HM.out]; omega)]
      go_enter Tryz.func33, Tryz.ntmps33
      go_wp2
      go_returns
      exact ⟨rfl, Below.refl _ _⟩
    · obtain ⟨i, rfl⟩ : ∃ i : Nat, x = (i : Int) := ⟨x.toNat, by omega⟩
      have him : i < m := by omega
      have hi0 : (0 : Int) ≤ (i : Int) := by omega
      have hi1 : (i : Int) < (m : Int) := by omega
      have hil : i < L.length := by rw [HM.out]; exact him
      have hlk : L[i]? = some L[i] := List.getElem?_eq_getElem hil
      have hfit := fit_by HO.out hlk
      obtain ⟨b, rfl, p0, p1, p2, p3, p4, p5, p6, p7⟩ := H8.out.cl i hil
      generalize L[i] = d at *
      have HFIT := Lib.hid hfit
      clear hlk hil hfit
      by_cases hin : (i : Int) ∈ o.take k
      · rw [show fitI s L (o.take k) (i : Int) = false from Bool.eq_false_iff.2 fun h => (HFIT.out.1 h).1 hin]
        have HIN := Lib.hid hin
        clear hin
        go_enter Tryz.func33, Tryz.ntmps33
        go_wp2_with (go_at_call 57; go_loud (refine (place_any _ c _ (o.take k) HT.out k HTL.out (by omega) (i : Int)).mono ?_; rintro e w2 ⟨r, rfl, hr, hw⟩; subst hw; have hr0 : 0 ≤ r := hr.2 HIN.out; clear hr))
        go_returns
        exact ⟨rfl, Below.refl _ _⟩
      · have HIN := Lib.hid hin
        clear hin
        have NB : Hid (Blk8 (w.alloc (.cells #[.int .i64 d.T, .int .i64 d.B, .int .i64 d.D, .int .i64 d.K, .int .i64 d.Y, .int .i64 d.C, .bool d.O, .int .i64 d.V] 67)) w.heap.size d) := Lib.hid ⟨new_block _ _ _⟩
        have BA : Hid (Below w.heap.size w (w.alloc (.cells #[.int .i64 d.T, .int .i64 d.B, .int .i64 d.D, .int .i64 d.K, .int .i64 d.Y, .int .i64 d.C, .bool d.O, .int .i64 d.V] 67))) := Lib.hid ((Below.refl _ _).alloc (Nat.le_refl _) _)
        cases hr : rightB s d.K d.Y
        · have HRT := Lib.hid hr
          rw [show fitI s L (o.take k) (i : Int) = false from Bool.eq_false_iff.2 fun h => by
            have h2 := (HFIT.out.1 h).2.1
            unfold mayC at h2
            rw [hr, Bool.false_and] at h2
            exact absurd h2 (by decide)]
          clear hr
          go_enter Tryz.func33, Tryz.ntmps33
          go_wp2_with (first
            | (go_at_call 19; go_loud (refine (spec.may_any _ s d.K d.Y).mono ?_; rintro e w3 ⟨rfl, hb⟩; rw [HRT.out]; have B3 := Lib.hid (past BA.out hb); clear hb))
            | (go_at_call 57; go_loud (refine (place_any _ c _ (o.take k) HT.out k HTL.out (by omega) (i : Int)).mono ?_; rintro e w2 ⟨r, rfl, hr, hw⟩; subst hw; have hr0 : ¬ 0 ≤ r := fun h => HIN.out (hr.1 h); clear hr)))
          go_returns
          exact ⟨rfl, B3.out⟩
        · have HRT := Lib.hid hr
          have HMD := Lib.hid (may_doc (s := s) hr)
          clear hr
          by_cases hdc : 0 ≤ d.D ∧ d.C ≠ 0
          · rw [show fitI s L (o.take k) (i : Int) = false from Bool.eq_false_iff.2 fun h => (HMD.out.1 (HFIT.out.1 h).2.1) hdc]
            obtain ⟨hd1, hd2⟩ := hdc
            have hq : (d.C != 0) = true := by simpa using hd2
            go_enter Tryz.func33, Tryz.ntmps33
            go_wp2_with (first
              | (go_at_call 19; go_loud (refine (spec.may_any _ s d.K d.Y).mono ?_; rintro e w3 ⟨rfl, hb⟩; rw [HRT.out]; have B3 := Lib.hid (past BA.out hb); have K3 := Lib.hid (NB.out.below hb); obtain ⟨q0, q1, q2, q3, q4, q5, q6, q7⟩ := K3.out.cells; clear hb))
              | (go_at_call 57; go_loud (refine (place_any _ c _ (o.take k) HT.out k HTL.out (by omega) (i : Int)).mono ?_; rintro e w2 ⟨r, rfl, hr, hw⟩; subst hw; have hr0 : ¬ 0 ≤ r := fun h => HIN.out (hr.1 h); clear hr)))
            go_returns
            exact ⟨rfl, B3.out⟩
          · have HMY := Lib.hid (HMD.out.2 hdc)
            have HDC := Lib.hid hdc
            go_enter Tryz.func33, Tryz.ntmps33
            by_cases hd0 : 0 ≤ d.D
            · have hC0 : d.C = 0 := Classical.byContradiction fun h => hdc ⟨hd0, h⟩
              have hq : (d.C != 0) = false := by simpa using hC0
              have HC0 := Lib.hid hC0
              clear hdc hC0
              go_wp2_with (first
                | (go_at_call 19; go_loud (refine (spec.may_any _ s d.K d.Y).mono ?_; rintro e w3 ⟨rfl, hb⟩; rw [HRT.out]; have B3 := Lib.hid (past BA.out hb); have K3 := Lib.hid (NB.out.below hb); obtain ⟨q0, q1, q2, q3, q4, q5, q6, q7⟩ := K3.out.cells; clear hb))
                | (go_at_call 57; go_loud (refine (place_any _ c _ (o.take k) HT.out k HTL.out (by omega) (i : Int)).mono ?_; rintro e w2 ⟨r, rfl, hr, hw⟩; subst hw; have hr0 : ¬ 0 ≤ r := fun h => HIN.out (hr.1 h); clear hr)))
              clear q0 q1 q2 q3 q4 q5 q6 q7
              generalize w.heap.size = P at NB K3 ⊢
              go_loopw [10] (fun j wr => ∃ q : Nat, q ≤ k ∧ j = .int .i64 (q : Int) ∧ Below w.heap.size w wr ∧ Blk8 wr P d ∧ ∀ (j : Nat) (y : Int), j < q → (o.take k)[j]? = some y → ∀ hy : y.toNat < L.length, befB d.D L[y.toNat].B = false) (fun j _ => k - (intOf j).toNat)
              case atStart => exact ⟨0, Nat.zero_le _, rfl, B3.out, K3.out, fun j y hj => absurd hj (by omega)⟩
              case round =>
                obtain ⟨q, hq2, rfl, hb, hk8, hbe⟩ := hrel
                have HB := Lib.hid hb
                have HK8 := Lib.hid hk8
                have HBE := Lib.hid hbe
                clear hb hk8 hbe B3 K3
                by_cases hlt : q < k
                · have hqo : q < o.length := by have := HK.out; omega
                  have hqi : (q : Int) < (k : Int) := by omega
                  have hqi1 : (q : Int) < (k : Int) + 1 := by omega
                  have hq0 : (0 : Int) ≤ (q : Int) := by omega
                  obtain ⟨a', ha', hcq0⟩ := HR.out q hqo
                  obtain rfl : a = a' := Option.some.inj ha'
                  have hcq := (HB.out.cell (World.block_lt_of_cell? _ _ hcq0)).trans hcq0
                  have hyv := HVL.out _ (show o[q] ∈ o.take k from List.mem_iff_getElem?.2 ⟨q, by rw [List.getElem?_take, if_pos hlt, List.getElem?_eq_getElem hqo]⟩)
                  have HQ : Hid ((o.take k)[q]? = some o[q]) := Lib.hid (by rw [List.getElem?_take, if_pos hlt, List.getElem?_eq_getElem hqo])
                  generalize o[q] = y at *
                  obtain ⟨i2, rfl⟩ : ∃ i2 : Nat, y = (i2 : Int) := ⟨y.toNat, by omega⟩
                  have hil2 : i2 < L.length := by omega
                  have hi20 : (0 : Int) ≤ (i2 : Int) := by omega
                  have hi21 : (i2 : Int) < (m : Int) := by have := HM.out; omega
                  obtain ⟨b2, hb2, r0, r1, r2, r3, r4, r5, r6, r7⟩ := (H8.out.later HB.out).cl i2 hil2
                  obtain rfl := Option.some.inj hb2
                  have HSTEP : Hid (befB d.D L[i2].B = false → ∀ (j : Nat) (y : Int), j < q + 1 → (o.take k)[j]? = some y → ∀ hy : y.toNat < L.length, befB d.D L[y.toNat].B = false) := Lib.hid (fun h j y hj hy hyl => by
                    by_cases e : j = q
                    · subst e
                      rw [HQ.out] at hy
                      obtain rfl := Option.some.inj hy
                      exact h
                    · exact HBE.out j y (by omega) hy hyl)
                  have HBAD : Hid (befB d.D L[i2].B = true → fitI s L (o.take k) (i : Int) = false) := Lib.hid (fun h => Bool.eq_false_iff.2 fun h2 => by
                    have h3 := (HFIT.out.1 h2).2.2.1 q (i2 : Int) HQ.out (by rw [Int.toNat_natCast]; exact hil2)
                    simp only [Int.toNat_natCast] at h3
                    rw [h] at h3
                    exact absurd h3 (by decide))
                  generalize L[i2] = e2 at *
                  obtain ⟨q0, q1, q2, q3, q4, q5, q6, q7⟩ := HK8.out.cells
                  clear hcq0 hyv hil2 hqo ha'
                  go_wp2
                  refine wp_region_still_tail 8 (by kernel_rfl) (by kernel_rfl) ?_
                  simp only [List.take_succ_cons, List.take_zero, List.drop_succ_cons, List.drop_zero]
                  repeat still_step
                  try refine wpStill_nil ?_
                  cases hbf : befB d.D e2.B
                  · have HBF := Lib.hid hbf
                    have HS2 := Lib.hid (HSTEP.out hbf)
                    clear hbf
                    go_wp2_with (go_at_call 58; go_loud (refine (refBefore_any _ d e2).mono ?_; rintro e w6 ⟨rfl, hb⟩; rw [HBF.out]; have hb2 := ((Below.refl wr.heap.size wr).drew).trans hb; have HB6 := Lib.hid (past HB.out hb2); have K6 := Lib.hid (HK8.out.below hb2); clear hb hb2))
                    go_roundw
                    case rel => exact ⟨q + 1, by omega, by go_num, HB6.out, K6.out, HS2.out⟩
                    case measure => simp [intOf]; omega
                  · have HBF := Lib.hid hbf
                    have HFB := Lib.hid (HBAD.out hbf)
                    clear hbf
                    go_wp2_with (go_at_call 58; go_loud (refine (refBefore_any _ d e2).mono ?_; rintro e w6 ⟨rfl, hb⟩; rw [HBF.out]; have hb2 := ((Below.refl wr.heap.size wr).drew).trans hb; have HB6 := Lib.hid (past HB.out hb2); clear hb hb2))
                    go_returns
                    exact ⟨by rw [HFB.out]; rfl, HB6.out⟩
                · have hqk : q = k := by omega
                  have HALL : Hid (∀ (j : Nat) (y : Int), (o.take k)[j]? = some y → ∀ hy : y.toNat < L.length, befB d.D L[y.toNat].B = false) := Lib.hid (fun j y hy hyl => HBE.out j y (by have := (List.getElem?_eq_some_iff.1 hy).1; rw [List.length_take] at this; omega) hy hyl)
                  obtain ⟨q0, q1, q2, q3, q4, q5, q6, q7⟩ := HK8.out.cells
                  have hlt0 : ¬ d.D < 0 := by omega
                  have hdf : decide (d.D < 0) = false := decide_eq_false hlt0
                  have HTD : Hid (toldR s (opsI L (o.take k)) d = (d.C == 0 && (d.O == okR s (opsI L (o.take k)) d.K d.Y && d.V == valR s (opsI L (o.take k)) d.K))) := Lib.hid (by
                    unfold toldR
                    rw [hdf, Bool.false_or, Bool.and_assoc]
                    rfl)
                  have HRR : Hid (fitI s L (o.take k) (i : Int) = toldR s (opsI L (o.take k)) d) := Lib.hid (by
                    rw [Bool.eq_iff_iff, HFIT.out]
                    exact ⟨fun h => h.2.2.2, fun h => ⟨HIN.out, HMY.out, HALL.out, h⟩⟩)
                  have HRES : Hid (∀ (wx : World) (Ax : Option Addr) (N cap : Nat), (opsI L (o.take k)).length = N → N ≤ 1000 → N ≤ cap → OpsAt wx Ax (opsI L (o.take k)) → Calls Tryz.prog 23 #[.int .i64 s, .slice Ax N cap, .agg #[.int .i64 d.K, .int .i64 d.Y]] wx (spec.ResIs wx (okR s (opsI L (o.take k)) d.K d.Y) (valR s (opsI L (o.take k)) d.K))) := Lib.hid (fun wx Ax N cap h1 h2 h3 h4 => res_any wx s d.K d.Y Ax _ N cap h1 h2 h3 h4 HRT.out)
                  have HOPL : Hid ((opsI L (o.take k)).length ≤ 1000) := Lib.hid (by unfold opsI; rw [ops_len, List.length_map, HTL.out]; omega)
                  rw [HTD.out] at HRR
                  generalize okR s (opsI L (o.take k)) d.K d.Y = ob at *
                  generalize valR s (opsI L (o.take k)) d.K = vb at *
                  have K0 := Lib.hid (HK8.out.below ((Below.refl wr.heap.size wr).drew))
                  have BD := Lib.hid (past HB.out ((Below.refl wr.heap.size wr).drew))
                  clear q0 q1 q2 q3 q4 q5 q6 q7 hq hqk
                  go_wp2
                  go_region_held3 (fun wx => wx.cell? ⟨P, 0, none⟩ = some (.int .i64 d.T) ∧ wx.cell? ⟨P, 1, none⟩ = some (.int .i64 d.B) ∧ wx.cell? ⟨P, 2, none⟩ = some (.int .i64 d.D) ∧ wx.cell? ⟨P, 3, none⟩ = some (.int .i64 d.K) ∧ wx.cell? ⟨P, 4, none⟩ = some (.int .i64 d.Y) ∧ wx.cell? ⟨P, 5, none⟩ = some (.int .i64 d.C) ∧ wx.cell? ⟨P, 6, none⟩ = some (.bool d.O) ∧ wx.cell? ⟨P, 7, none⟩ = some (.int .i64 d.V)) (first | exact K7.out.cells | exact K6.out.cells | exact K0.out.cells | go_keep) (first
                    | (go_at_call 23; have _t := G6.out; go_loud (refine (HRES.out _ A6 _ c6 rfl HOPL.out HC6.out G6.out).mono ?_; rintro e w7 ⟨rfl, hb⟩; have B7 := Lib.hid (past B6.out hb); have K7 := Lib.hid (K6.out.below hb); clear hb))
                    | (go_at_call 18; go_loud (refine (ops_any _ _ c8 m L (H8.out.later BD.out) HM.out hm2 c _ (o.take k) (na_below HT.out BD.out) k HTL.out (by omega) HVL.out).mono ?_; rintro e w6 ⟨v6, rfl, hg⟩; obtain ⟨A6, c6, rfl, hc6, -, ha6⟩ := hg.told len2; have G6 := Lib.hid (ops_at ha6); have HC6 := Lib.hid hc6; have B6 := Lib.hid (past BD.out hg.below); have K6 := Lib.hid (K0.out.below hg.below); clear hg ha6 hc6)))
                  go_wp2
                  go_returns
                  exact ⟨by rw [HRR.out]; rfl, B7.out⟩
            · have HD0 := Lib.hid hd0
              clear hdc
              go_wp2_with (first
                | (go_at_call 19; go_loud (refine (spec.may_any _ s d.K d.Y).mono ?_; rintro e w3 ⟨rfl, hb⟩; rw [HRT.out]; have B3 := Lib.hid (past BA.out hb); have K3 := Lib.hid (NB.out.below hb); obtain ⟨q0, q1, q2, q3, q4, q5, q6, q7⟩ := K3.out.cells; clear hb))
                | (go_at_call 57; go_loud (refine (place_any _ c _ (o.take k) HT.out k HTL.out (by omega) (i : Int)).mono ?_; rintro e w2 ⟨r, rfl, hr, hw⟩; subst hw; have hr0 : ¬ 0 ≤ r := fun h => HIN.out (hr.1 h); clear hr)))
              clear q0 q1 q2 q3 q4 q5 q6 q7
              generalize w.heap.size = P at NB K3 ⊢
              go_loopw [10] (fun j wr => ∃ q : Nat, q ≤ k ∧ j = .int .i64 (q : Int) ∧ Below w.heap.size w wr ∧ Blk8 wr P d ∧ ∀ (j : Nat) (y : Int), j < q → (o.take k)[j]? = some y → ∀ hy : y.toNat < L.length, befB d.D L[y.toNat].B = false) (fun j _ => k - (intOf j).toNat)
              case atStart => exact ⟨0, Nat.zero_le _, rfl, B3.out, K3.out, fun j y hj => absurd hj (by omega)⟩
              case round =>
                obtain ⟨q, hq2, rfl, hb, hk8, hbe⟩ := hrel
                have HB := Lib.hid hb
                have HK8 := Lib.hid hk8
                have HBE := Lib.hid hbe
                clear hb hk8 hbe B3 K3
                by_cases hlt : q < k
                · have hqo : q < o.length := by have := HK.out; omega
                  have hqi : (q : Int) < (k : Int) := by omega
                  have hqi1 : (q : Int) < (k : Int) + 1 := by omega
                  have hq0 : (0 : Int) ≤ (q : Int) := by omega
                  obtain ⟨a', ha', hcq0⟩ := HR.out q hqo
                  obtain rfl : a = a' := Option.some.inj ha'
                  have hcq := (HB.out.cell (World.block_lt_of_cell? _ _ hcq0)).trans hcq0
                  have hyv := HVL.out _ (show o[q] ∈ o.take k from List.mem_iff_getElem?.2 ⟨q, by rw [List.getElem?_take, if_pos hlt, List.getElem?_eq_getElem hqo]⟩)
                  have HQ : Hid ((o.take k)[q]? = some o[q]) := Lib.hid (by rw [List.getElem?_take, if_pos hlt, List.getElem?_eq_getElem hqo])
                  generalize o[q] = y at *
                  obtain ⟨i2, rfl⟩ : ∃ i2 : Nat, y = (i2 : Int) := ⟨y.toNat, by omega⟩
                  have hil2 : i2 < L.length := by omega
                  have hi20 : (0 : Int) ≤ (i2 : Int) := by omega
                  have hi21 : (i2 : Int) < (m : Int) := by have := HM.out; omega
                  obtain ⟨b2, hb2, r0, r1, r2, r3, r4, r5, r6, r7⟩ := (H8.out.later HB.out).cl i2 hil2
                  obtain rfl := Option.some.inj hb2
                  have HSTEP : Hid (befB d.D L[i2].B = false → ∀ (j : Nat) (y : Int), j < q + 1 → (o.take k)[j]? = some y → ∀ hy : y.toNat < L.length, befB d.D L[y.toNat].B = false) := Lib.hid (fun h j y hj hy hyl => by
                    by_cases e : j = q
                    · subst e
                      rw [HQ.out] at hy
                      obtain rfl := Option.some.inj hy
                      exact h
                    · exact HBE.out j y (by omega) hy hyl)
                  have HBAD : Hid (befB d.D L[i2].B = true → fitI s L (o.take k) (i : Int) = false) := Lib.hid (fun h => Bool.eq_false_iff.2 fun h2 => by
                    have h3 := (HFIT.out.1 h2).2.2.1 q (i2 : Int) HQ.out (by rw [Int.toNat_natCast]; exact hil2)
                    simp only [Int.toNat_natCast] at h3
                    rw [h] at h3
                    exact absurd h3 (by decide))
                  generalize L[i2] = e2 at *
                  obtain ⟨q0, q1, q2, q3, q4, q5, q6, q7⟩ := HK8.out.cells
                  clear hcq0 hyv hil2 hqo ha'
                  go_wp2
                  refine wp_region_still_tail 8 (by kernel_rfl) (by kernel_rfl) ?_
                  simp only [List.take_succ_cons, List.take_zero, List.drop_succ_cons, List.drop_zero]
                  repeat still_step
                  try refine wpStill_nil ?_
                  cases hbf : befB d.D e2.B
                  · have HBF := Lib.hid hbf
                    have HS2 := Lib.hid (HSTEP.out hbf)
                    clear hbf
                    go_wp2_with (go_at_call 58; go_loud (refine (refBefore_any _ d e2).mono ?_; rintro e w6 ⟨rfl, hb⟩; rw [HBF.out]; have hb2 := ((Below.refl wr.heap.size wr).drew).trans hb; have HB6 := Lib.hid (past HB.out hb2); have K6 := Lib.hid (HK8.out.below hb2); clear hb hb2))
                    go_roundw
                    case rel => exact ⟨q + 1, by omega, by go_num, HB6.out, K6.out, HS2.out⟩
                    case measure => simp [intOf]; omega
                  · have HBF := Lib.hid hbf
                    have HFB := Lib.hid (HBAD.out hbf)
                    clear hbf
                    go_wp2_with (go_at_call 58; go_loud (refine (refBefore_any _ d e2).mono ?_; rintro e w6 ⟨rfl, hb⟩; rw [HBF.out]; have hb2 := ((Below.refl wr.heap.size wr).drew).trans hb; have HB6 := Lib.hid (past HB.out hb2); clear hb hb2))
                    go_returns
                    exact ⟨by rw [HFB.out]; rfl, HB6.out⟩
                · have hqk : q = k := by omega
                  have HALL : Hid (∀ (j : Nat) (y : Int), (o.take k)[j]? = some y → ∀ hy : y.toNat < L.length, befB d.D L[y.toNat].B = false) := Lib.hid (fun j y hy hyl => HBE.out j y (by have := (List.getElem?_eq_some_iff.1 hy).1; rw [List.length_take] at this; omega) hy hyl)
                  obtain ⟨q0, q1, q2, q3, q4, q5, q6, q7⟩ := HK8.out.cells
                  have HT2 : Hid (fitI s L (o.take k) (i : Int) = true) := Lib.hid (HFIT.out.2 ⟨HIN.out, HMY.out, HALL.out, by unfold toldR; rw [decide_eq_true (show d.D < 0 by have := HD0.out; omega)]; rfl⟩)
                  have hlt0 : d.D < 0 := by have := HD0.out; omega
                  have hdt : decide (d.D < 0) = true := decide_eq_true hlt0
                  go_wp2
                  refine quiet.region (C := fun wx => Fq wr wx P d) (Fq.mk ((Below.refl _ _).drew) (HK8.out.below ((Below.refl _ _).drew))) (by kernel_rfl) (by kernel_rfl) ?_
                  repeat (first
                    | go_big_quiet_skip
                    | (go_big_quiet_want; go_big_quiet_op; go_big_quiet_on)
                    | (refine BigFrame.wpQuiet_want (by rfl) (fun K hK => ?_)
                       apply Exists.intro
                       refine ⟨fun wx hwx => ?_, hK _ ?_⟩
                       · have hx := hwx.blk.cells
                         go_split_ands
                         go_simp
                         first | rfl
                       clear hK K
                       simp only [Act.put, List.setIfInBounds_toArray, List.set_cons_zero, List.set_cons_succ]))
                  refine wpQuiet_nil ?_
                  intro w6 hq6
                  have B6 := Lib.hid (past HB.out hq6.below)
                  clear hq6
                  go_wp2
                  go_returns
                  exact ⟨by rw [HT2.out]; rfl, B6.out⟩
end Go.Proofs.YtmpilokgbblonaaGreat.lin
/- The document's answer: is an order legal; and the project's. -/
namespace Go.Proofs.YtmpilokgbblonaaGreat.lin
open Go.RowKit Go.Maps
open hist (ClV EvV befB past new_block Went At cells8 len8 Hst callsE)
open spec (Rw Row stateL)
/-- A question is answered. -/
def TellsQ (p : Prop) (w : World) (e : Ending) (w' : World) : Prop := ∃ b, e = .returned (.bool b) ∧ (b = true ↔ p) ∧ Below w.heap.size w w'
set_option maxHeartbeats 2000000 in
theorem legalR_any (w : World) (s : Int) (A8 : Option Addr) (c8 m : Nat) (L : List ClV) (h8 : At cells8 8 w A8 L) (hm : L.length = m) (hm2 : m ≤ 100) (c : Nat) (A : Option Addr) (o : List Int) (h : NumAt w A o) (hbig : o.length ≤ c) (n : Nat) (hn : o.length = n) (hl : n ≤ 100) :
    Calls Tryz.prog 15 #[.int .i64 s, .slice A8 m c8, .slice A n c] w (TellsQ (legalI s L o) w) := by
  have H8 := Lib.hid h8
  have H := Lib.hid h
  have HN := Lib.hid hn
  have HM := Lib.hid hm
  have hl0 : (n : Int) ≤ 100 := by omega
  have HBG := Lib.hid hbig
  have hnc : (n : Int) ≤ (c : Int) := by omega
  clear h8 h hn hm
  by_cases h1 : s < 1
  · have HF : Hid (¬ legalI s L o) := Lib.hid (fun h => by have := h.1; omega)
    go_enter Tryz.func15, Tryz.ntmps15
    go_wp2
    go_returns
    exact ⟨false, rfl, ⟨fun h => absurd h (by decide), fun h => absurd h HF.out⟩, Below.refl _ _⟩
  · by_cases h4 : 4 < s
    · have HF : Hid (¬ legalI s L o) := Lib.hid (fun h => by have := h.1; omega)
      go_enter Tryz.func15, Tryz.ntmps15
      go_wp2
      go_returns
      exact ⟨false, rfl, ⟨fun h => absurd h (by decide), fun h => absurd h HF.out⟩, Below.refl _ _⟩
    · have HS : Hid (1 ≤ s ∧ s ≤ 4) := Lib.hid (by omega)
      go_enter Tryz.func15, Tryz.ntmps15
      go_wp2
      go_loopw [7] (fun j wr => ∃ k : Nat, k ≤ n ∧ j = .int .i64 ((k : Int) + 1) ∧ Below w.heap.size w wr ∧ okI s L (o.take k)) (fun j _ => n + 1 - (intOf j).toNat)
      case atStart => exact ⟨0, Nat.zero_le _, rfl, Below.refl _ _, okI_nil⟩
      case round =>
        obtain ⟨k, hk, rfl, hb, hok⟩ := hrel
        have HB := Lib.hid hb
        have HOK := Lib.hid hok
        clear hb hok
        by_cases hlt : k < n
        · have hko : k < o.length := by rw [HN.out]; exact hlt
          have hki : (k : Int) + 1 ≤ (n : Int) := by omega
          have hk0 : (0 : Int) ≤ (k : Int) + 1 := by omega
          have hkc : (k : Int) + 1 ≤ (c : Int) := by omega
          have HKO := Lib.hid hko
          cases hf : fitI s L (o.take k) (o[k]'hko)
          · have HFF := Lib.hid hf
            have HF := Lib.hid (okI_bad hko hf)
            clear hf
            go_wp2_with (go_at_call 33; go_loud (refine (fits_any _ s A8 c8 m L (H8.out.later HB.out) HM.out hm2 c A o k (na_below H.out HB.out) HBG.out HKO.out (by rw [HN.out]; omega) HOK.out).mono ?_; rintro e w2 ⟨rfl, hb2⟩; rw [HFF.out]; have B2 := Lib.hid (past HB.out hb2); clear hb2))
            go_returns
            exact ⟨false, rfl, ⟨fun h => absurd h (by decide), fun h => absurd h HF.out⟩, B2.out⟩
          · have HFF := Lib.hid hf
            have HNX := Lib.hid (okI_next hko HOK.out hf)
            clear hf
            go_wp2_with (go_at_call 33; go_loud (refine (fits_any _ s A8 c8 m L (H8.out.later HB.out) HM.out hm2 c A o k (na_below H.out HB.out) HBG.out HKO.out (by rw [HN.out]; omega) HOK.out).mono ?_; rintro e w2 ⟨rfl, hb2⟩; rw [HFF.out]; have B2 := Lib.hid (past HB.out hb2); clear hb2))
            go_roundw
            case rel => exact ⟨k + 1, by omega, by go_num, B2.out, HNX.out⟩
            case measure => simp [intOf]; omega
        · have hki : ¬ ((k : Int) + 1 ≤ (n : Int)) := by omega
          have HOK1 : Hid (okI s L o) := Lib.hid (by have := HOK.out; rwa [List.take_of_length_le (by rw [HN.out]; omega)] at this)
          have HWI : Hid ((∀ i, mustAt L i = true → (i : Int) ∈ o) ↔ (sysOf s L).whole (o.map Int.toNat) = true) := Lib.hid (by
            rw [whole_iff]
            have hlt2 := okI_lt HOK1.out
            constructor
            · intro h1 j _ hmu
              exact List.mem_map.2 ⟨_, h1 j hmu, by simp⟩
            · intro h1 j hmu
              have := h1 j (must_lt hmu) hmu
              exact (toNat_mem (L := L) hlt2 (x := (j : Int)) (by omega)).1 (by rw [Int.toNat_natCast]; exact this))
          go_wp2_with (go_at_call 32; go_loud (refine (whole_any _ A8 c8 m L (H8.out.later HB.out) HM.out hm2 c A o (na_below H.out HB.out) n HN.out (by omega)).mono ?_; rintro e w2 ⟨b2, rfl, hb2, hw⟩; subst hw; have HB2 := Lib.hid hb2; clear hb2))
          go_returns
          exact ⟨b2, rfl, ⟨fun h => ⟨HS.out, HOK1.out, HWI.out.1 (HB2.out.1 h)⟩, fun h => HB2.out.2 (HWI.out.2 h.2.2)⟩, HB.out⟩
theorem legal_any (w : World) (X : Nat) (s : Int) (L : List ClV) (o : List Int) (A : Option Addr) (n c : Nat) (h : Calls Tryz.prog 14 #[.int .i64 s, .pointer (some ⟨X, 0, none⟩), .slice A n c] w (BehQ s L o w)) :
    Calls Tryz.prog 16 #[.int .i64 s, .pointer (some ⟨X, 0, none⟩), .slice A n c] w (TellsQ (legalI s L o) w) := by
  have H := Lib.hid h
  clear h
  by_cases hl : legalI s L o
  · have HL := Lib.hid hl
    clear hl
    go_enter Tryz.func16, Tryz.ntmps16
    go_wp2_with (go_at_call 14; go_loud (refine H.out.mono ?_; rintro e w2 ⟨hb, ⟨_, A2, c2, G2, rfl, _⟩ | ⟨h, _⟩⟩; rotate_left; exact absurd HL.out h; have B2 := Lib.hid hb; clear hb))
    go_returns
    exact ⟨true, rfl, ⟨fun _ => HL.out, fun _ => rfl⟩, B2.out⟩
  · have HL := Lib.hid hl
    clear hl
    go_enter Tryz.func16, Tryz.ntmps16
    go_wp2_with (go_at_call 14; go_loud (refine H.out.mono ?_; rintro e w2 ⟨hb, ⟨h, _⟩ | ⟨_, rfl⟩⟩; exact absurd h HL.out; have B2 := Lib.hid hb; clear hb))
    go_returns
    exact ⟨false, rfl, ⟨fun h => absurd h (by decide), fun h => absurd h HL.out⟩, B2.out⟩
theorem legal_wrong (w : World) (s : Int) (hs : ¬ (1 ≤ s ∧ s ≤ 4)) (a : Option Addr) (A : Option Addr) (n c : Nat) : Calls Tryz.prog 16 #[.int .i64 s, .pointer a, .slice A n c] w fun e w' => e = .returned (.bool false) ∧ Below w.heap.size w w' := by
  have HS := Lib.hid hs
  clear hs
  go_enter Tryz.func16, Tryz.ntmps16
  go_wp2_with (go_at_call 14; go_loud (refine (behind_wrong _ s HS.out a A n c).mono ?_; rintro e w1 ⟨rfl, hb1⟩; have B1 := Lib.hid hb1; clear hb1))
  go_returns
  exact ⟨rfl, B1.out⟩
end Go.Proofs.YtmpilokgbblonaaGreat.lin
