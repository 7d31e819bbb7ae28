/- The items behind an order are told, if it is legal. -/
import Derived.Test.YtmpilokgbblonaaGreatKg27
import Derived.Test.YtmpilokgbblonaaGreatKg06
import Derived.BigRegion
import Derived.Deep.DeepCutAuto
namespace Go.Proofs.YtmpilokgbblonaaGreat.lin
open Go.RowKit Go.Maps
open hist (ClV EvV befB past new_block Went At cells9 len9 Blk9 Hst callsE calls_any before_any)
open spec (Rw Row Mean new_right new_wrong items_mean stateL nextL)
open task (rightB)
theorem behind_wrong (w : World) (s : Int) (hs : ¬ (1 ≤ s ∧ s ≤ 4)) (a : Option Addr) (A : Option Addr) (n c : Nat) : Calls Tryz.prog 14 #[.int .i64 s, .pointer a, .slice A n c] w fun e w' => e = .returned (.tuple #[.slice none 0 0, .bool false]) ∧ Below w.heap.size w w' := by
  have HS := Lib.hid hs
  clear hs
  go_enter Tryz.func14, Tryz.ntmps14
  go_wp2_with (go_at_call 26; go_loud (refine (new_wrong _ s HS.out).mono ?_; rintro e w1 ⟨rfl, hw⟩; subst hw))
  go_returns
  exact ⟨rfl, Below.refl _ _⟩
set_option maxRecDepth 100000 in
set_option maxHeartbeats 8000000 in
theorem behind_any (w : World) (X : Nat) (f : Nat → Prop) (l : List EvV) (h : Hst w X f l) (hl : l.length ≤ 100) (s : Int) (hs : 1 ≤ s ∧ s ≤ 4) (c : Nat) (A : Option Addr) (o : List Int) (hr : NumAt w A o) (n : Nat) (hn : o.length = n) (hn2 : n ≤ 100) :
    Calls Tryz.prog 14 #[.int .i64 s, .pointer (some ⟨X, 0, none⟩), .slice A n c] w (BehQ s (callsE l) o w) := by
  have HH := Lib.hid h
  have HL := Lib.hid hl
  have HS := Lib.hid hs
  have HR := Lib.hid hr
  have HN := Lib.hid hn
  have hcl := hist.calls_le h.valid
  generalize hLL : callsE l = L at *
  have HLL := Lib.hid hLL
  generalize hm : L.length = m at *
  have HM := Lib.hid hm
  have hm0 : (m : Int) ≤ 100 := by omega
  have hn0 : (n : Int) ≤ 100 := by omega
  have hmk : ∀ w : World, (Instr.makeSlice 81 (.int .i64 (m : Int)) (.int .i64 (m : Int))).run Tryz.prog w = .ok (.slice (some ⟨w.heap.size, 0, none⟩) m m) (w.alloc (.cells (List.replicate m (.bool false)).toArray 4)) := fun w => make_bools w m (by omega)
  have hTe := tells_any
  have hMay := may_any
  have hMust := must_any
  unfold clA at hTe hMay hMust
  have HTE := Lib.hid hTe
  have HMY := Lib.hid hMay
  have HMU := Lib.hid hMust
  clear h hl hs hr hn hLL hm hcl hTe hMay hMust
  go_enter Tryz.func14, Tryz.ntmps14
  go_wp2_with (first
    | (go_at_call 27; have _t := B1.out; go_loud (refine (calls_any _ X f l (HH.out.below B1.out) (by have := HL.out; omega)).mono ?_; rintro e w2 ⟨v2, rfl, hg⟩; obtain ⟨A9, c9, rfl, -, -, ha⟩ := hg.told len9; have HLT := Lib.hid (own_lt hg.own); rw [HLL.out] at ha; rw [HLL.out, HM.out]; have B2 := Lib.hid (past B1.out hg.below); have R2 := Lib.hid ha; have M2 := Lib.hid (M1.out.below hg.below); have R9new : Hid (∀ b, A9 = some b → w1.heap.size ≤ b.block) := Lib.hid (own_new hg); clear hg ha))
    | (go_at_call 26; go_loud (refine (new_right _ s HS.out).mono ?_; rintro e w1 ⟨X1, f1, rfl, hm, hf1, hb1⟩; have M1 := Lib.hid hm; have B1 := Lib.hid hb1; have F1 := Lib.hid hf1; clear hm hf1 hb1)))
  clear hmk
  have BH0 : Hid (Bh w ((w2.alloc (.cells (Array.replicate m (.bool false)) 4)).alloc (.cells #[.int .i64 0, .int .i64 0] 83)) A9 L X1 f1 s [] w2.heap.size (w2.heap.size + 1) m [] 0 0) := Lib.hid (by
    have b1 : Below w2.heap.size w2 (w2.alloc (.cells (Array.replicate m (.bool false)) 4)) := (Below.refl _ _).alloc (Nat.le_refl _) _
    have s1 : (w2.alloc (.cells (Array.replicate m (.bool false)) 4)).heap.size = w2.heap.size + 1 := by simp
    have k1 := new_block w2 (Array.replicate m (.bool false)) 4
    generalize w2.alloc (.cells (Array.replicate m (.bool false)) 4) = w3 at *
    have b2 : Below w3.heap.size w3 (w3.alloc (.cells #[.int .i64 0, .int .i64 0] 83)) := (Below.refl _ _).alloc (Nat.le_refl _) _
    have k2 := new_block w3 #[.int .i64 0, .int .i64 0] 83
    rw [s1] at k2
    have hsz := B2.out.size
    refine ⟨(R2.out.later b1).later b2, (M2.out.below b1).below b2, ⟨?_⟩, ⟨k2⟩, past (past B2.out b1) b2, F1.out, by omega, ⟨fun e => by have := M2.out.lt _ e; omega, fun e => by have := M2.out.lt _ e; omega⟩, fun a ha => ?_⟩
    · rw [sb_nil, b2.block _ (by omega), k1]
      simp
    · have h1 := HLT.out a ha
      have h2 := R9new.out a ha
      refine ⟨by omega, by omega, fun e => ?_, ?_⟩
      · have := M1.out.lt _ e; omega
      · have := b1.size; have := b2.size; omega)
  generalize ((w2.alloc (.cells (Array.replicate m (.bool false)) 4)).alloc (.cells #[.int .i64 0, .int .i64 0] 83)) = w4 at *
  generalize w2.heap.size = Bs at *
  clear R2 M2 B2 M1 B1 F1 HLT R9new
  go_loopw [36] (fun j wr => ∃ (k : Nat) (f2 : Nat → Prop) (b d : Int), k ≤ n ∧ j = .int .i64 (k : Int) ∧ okI s L (o.take k) ∧ Last L (o.take k) b ∧ Bh w wr A9 L X1 f2 s (stateL s (opsI L (o.take k))) Bs (Bs + 1) m (o.take k) b d) (fun j _ => n - (intOf j).toNat)
  case atStart => exact ⟨0, f1, 0, 0, Nat.zero_le _, rfl, okI_nil, last_nil L, BH0.out⟩
  case round =>
    obtain ⟨k, f2, b, d, hk, rfl, hok, hla, hbh⟩ := hrel
    have HOK := Lib.hid hok
    have HLA := Lib.hid hla
    have HB := Lib.hid hbh
    clear hok hla hbh BH0
    by_cases hlt : k < n
    · have hkl : k < o.length := by rw [HN.out]; exact hlt
      have hki : (k : Int) < (n : Int) := by omega
      obtain ⟨x, hx⟩ : ∃ x, x = o[k] := ⟨_, rfl⟩
      have HX := Lib.hid hx
      have HKL := Lib.hid hkl
      obtain ⟨ao, hA, hrow⟩ := HR.out k hkl
      subst hA
      have cx : wr.cell? (ao.add k) = some (.int .i64 x) := by
        have h2 : w.cell? (ao.add k) = some (.int .i64 x) := by rw [hx]; exact hrow
        exact (HB.out.below.cell (World.block_lt_of_cell? _ _ h2)).trans h2
      clear hx hrow
      by_cases hx0 : x < 0
      · have HF : Hid (¬ legalI s L o) := Lib.hid (okI_bad HKL.out (by rw [← HX.out]; exact not_fit_range (by omega)))
        go_wp2
        go_returns
        exact ⟨HB.out.below, Or.inr ⟨HF.out, rfl⟩⟩
      · by_cases hxm : (m : Int) ≤ x
        · have HF : Hid (¬ legalI s L o) := Lib.hid (okI_bad HKL.out (by rw [← HX.out]; exact not_fit_range (by rw [HM.out]; omega)))
          go_wp2
          go_returns
          exact ⟨HB.out.below, Or.inr ⟨HF.out, rfl⟩⟩
        · obtain ⟨i, rfl⟩ : ∃ i : Nat, x = (i : Int) := ⟨x.toNat, by omega⟩
          have him : i < m := by omega
          have hi0 : (0 : Int) ≤ (i : Int) := by omega
          have hi1 : (i : Int) < (m : Int) := by omega
          have hil : i < L.length := by rw [HM.out]; exact him
          have cst : wr.cell? ⟨Bs, i, none⟩ = some (.bool (decide ((i : Int) ∈ o.take k))) := by rw [HB.out.st.cell, sb_get _ him]
          have hlk : L[i]? = some L[i] := List.getElem?_eq_getElem hil
          have hfit := fitI_iff HOK.out HLA.out hlk
          obtain ⟨a, hA9, p0, p1, p2, p3, p4, p5, p6, p7, p8⟩ := HB.out.calls.ca i hil
          obtain rfl : A9 = some a := hA9
          have HLK := Lib.hid hlk
          have HBAD : Hid (fitI s L (o.take k) (i : Int) = false → ¬ legalI s L o) := Lib.hid (fun h => okI_bad HKL.out (by rw [← HX.out]; exact h))
          generalize L[i] = c0 at *
          clear hlk hil
          by_cases hin : (i : Int) ∈ o.take k
          · have hd : decide ((i : Int) ∈ o.take k) = true := decide_eq_true hin
            rw [hd] at cst
            have HF : Hid (¬ legalI s L o) := Lib.hid (HBAD.out (Bool.eq_false_iff.2 fun h => (hfit.1 h).1 hin))
            clear hd hin hfit
            go_wp2
            go_returns
            exact ⟨HB.out.below, Or.inr ⟨HF.out, rfl⟩⟩
          · have hd : decide ((i : Int) ∈ o.take k) = false := decide_eq_false hin
            rw [hd] at cst
            have HML : Hid ((stateL s (opsI L (o.take k))).length ≤ 999) := Lib.hid (by
              have h1 := spec.state_len s (opsI L (o.take k))
              unfold opsI at h1 ⊢
              rw [ops_len, List.length_map, List.length_take] at h1
              omega)
            have HGD : Hid (spec.Good s (stateL s (opsI L (o.take k)))) := Lib.hid (spec.good_state s _ (ok_right (okI_iff.1 HOK.out).2))
            have bA : Below wr.heap.size wr (wr.alloc (.cells #[.int .i64 c0.B, .int .i64 c0.D, .int .i64 (i : Int), .int .i64 c0.T, .int .i64 c0.K, .int .i64 c0.Y, .int .i64 c0.C, .bool c0.O, .int .i64 c0.V] 85)) := (Below.refl _ _).alloc (Nat.le_refl _) _
            have HB1 := Lib.hid (HB.out.next bA)
            have NB : Hid (Blk9 (wr.alloc (.cells #[.int .i64 c0.B, .int .i64 c0.D, .int .i64 (i : Int), .int .i64 c0.T, .int .i64 c0.K, .int .i64 c0.Y, .int .i64 c0.C, .bool c0.O, .int .i64 c0.V] 85)) wr.heap.size i c0) := Lib.hid ⟨new_block _ _ _⟩
            have NF : Hid (¬ f2 wr.heap.size) := Lib.hid (fun e => by have := HB.out.mean.lt _ e; omega)
            have HFIT := Lib.hid hfit
            have HIN := Lib.hid hin
            have HIM := Lib.hid him
            clear hd hin hfit bA
            cases hmy : mayC s c0
            · have HM2 := Lib.hid hmy
              have HF : Hid (¬ legalI s L o) := Lib.hid (HBAD.out (Bool.eq_false_iff.2 fun h => by
                have h2 := (HFIT.out.1 h).2.1
                rw [hmy] at h2
                exact absurd h2 (by decide)))
              clear hmy
              go_wp2_with (go_at_call 34; go_loud (refine (HMY.out _ s i c0).mono ?_; rintro e w5 ⟨rfl, hb⟩; rw [HM2.out]; have HB5 := Lib.hid (HB1.out.next hb); have K5 := Lib.hid (NB.out.below hb); obtain ⟨q0, q1, q2, q3, q4, q5, q6, q7, q8⟩ := K5.out.cells; have la0 := HB5.out.la.cell 0; have la1 := HB5.out.la.cell 1; simp at la0 la1; clear hb))
              go_returns
              exact ⟨HB5.out.below, Or.inr ⟨HF.out, rfl⟩⟩
            · have HM2 := Lib.hid hmy
              cases hbf : befB c0.D b
              · have HBF := Lib.hid hbf
                have hrb : rightB s c0.K c0.Y = true := by
                  unfold mayC at hmy
                  rw [Bool.and_eq_true] at hmy
                  exact hmy.1
                cases htl : toldC (stateL s (opsI L (o.take k))) c0
                · have HTL : Hid ((rightB s c0.K c0.Y && toldC (stateL s (opsI L (o.take k))) c0) = false) := Lib.hid (by rw [htl, Bool.and_false])
                  have HF : Hid (¬ legalI s L o) := Lib.hid (HBAD.out (Bool.eq_false_iff.2 fun h => by
                    have h2 := (HFIT.out.1 h).2.2.2
                    rw [htl] at h2
                    exact absurd h2 (by decide)))
                  clear hmy hbf htl hrb
                  go_wp2_with (first
                    | (go_at_call 36; have _t := HB6.out; go_loud (refine (HTE.out _ X1 f2 s (stateL s (opsI L (o.take k))) HB6.out.mean HML.out HGD.out i c0).mono ?_; rintro e w7 ⟨f3, rfl, ha⟩; rw [HTL.out]; have HB7 := Lib.hid (HB6.out.asked ha.mean ha.went); clear ha))
                    | (go_at_call 35; have _t := HB5.out; go_loud (refine (before_any _ c0.B c0.D b d).mono ?_; rintro e w6 ⟨rfl, hb⟩; rw [HBF.out]; have HB6 := Lib.hid (HB5.out.next hb); have K6 := Lib.hid (K5.out.below hb); obtain ⟨e0, e1, e2, e3, e4, e5, e6, e7, e8⟩ := K6.out.cells; clear hb))
                    | (go_at_call 34; go_loud (refine (HMY.out _ s i c0).mono ?_; rintro e w5 ⟨rfl, hb⟩; rw [HM2.out]; have HB5 := Lib.hid (HB1.out.next hb); have K5 := Lib.hid (NB.out.below hb); obtain ⟨q0, q1, q2, q3, q4, q5, q6, q7, q8⟩ := K5.out.cells; have la0 := HB5.out.la.cell 0; have la1 := HB5.out.la.cell 1; simp at la0 la1; clear hb)))
                  go_returns
                  exact ⟨HB7.out.below, Or.inr ⟨HF.out, rfl⟩⟩
                · have HTL : Hid ((rightB s c0.K c0.Y && toldC (stateL s (opsI L (o.take k))) c0) = true) := Lib.hid (by rw [htl, hrb]; rfl)
                  have HRB := Lib.hid hrb
                  have HFT : Hid (fitI s L (o.take k) (i : Int) = true) := Lib.hid (HFIT.out.2 ⟨HIN.out, hmy, hbf, htl⟩)
                  have HOK2 : Hid (okI s L (o.take (k + 1))) := Lib.hid (okI_next HKL.out HOK.out (by rw [← HX.out]; exact HFT.out))
                  have HTK : Hid (o.take (k + 1) = o.take k ++ [(i : Int)]) := Lib.hid (by rw [List.take_succ_eq_append_getElem HKL.out, ← HX.out])
                  have HST : Hid (stateL s (opsI L (o.take (k + 1))) = nextL s (stateL s (opsI L (o.take k))) c0.K c0.Y) := Lib.hid (by
                    have hil : ((i : Int)).toNat < L.length := by rw [Int.toNat_natCast, HM.out]; exact HIM.out
                    rw [HTK.out, opsI_snoc hil, spec.stateL_snoc]
                    have he : L[((i : Int)).toNat] = c0 := (List.getElem?_eq_some_iff.1 (by rw [Int.toNat_natCast]; exact HLK.out)).2
                    rw [he])
                  clear hmy hbf htl hrb
                  go_upto_region 16 with (first
                    | (go_at_call 36; have _t := HB6.out; go_loud (refine (HTE.out _ X1 f2 s (stateL s (opsI L (o.take k))) HB6.out.mean HML.out HGD.out i c0).mono ?_; rintro e w7 ⟨f3, rfl, ha⟩; rw [HTL.out]; have hms := ha.mean; rw [HRB.out, if_pos rfl, ← HST.out] at hms; have HB7 := Lib.hid (HB6.out.asked hms ha.went); have K7 : Hid (Blk9 w7 wr.heap.size i c0) := Lib.hid ⟨(ha.went.block _ K6.out.lt NF.out).trans K6.out.box⟩; have cs7 : w7.cell? ⟨Bs, i, none⟩ = some (.bool false) := (by rw [HB7.out.st.cell, sb_get _ HIM.out, decide_eq_false HIN.out]); have fz7 := HB7.out.st.free i; have lt7 := HB7.out.st.lt; clear ha hms))
                    | (go_at_call 35; have _t := HB5.out; go_loud (refine (before_any _ c0.B c0.D b d).mono ?_; rintro e w6 ⟨rfl, hb⟩; rw [HBF.out]; have HB6 := Lib.hid (HB5.out.next hb); have K6 := Lib.hid (K5.out.below hb); obtain ⟨e0, e1, e2, e3, e4, e5, e6, e7, e8⟩ := K6.out.cells; clear hb))
                    | (go_at_call 34; go_loud (refine (HMY.out _ s i c0).mono ?_; rintro e w5 ⟨rfl, hb⟩; rw [HM2.out]; have HB5 := Lib.hid (HB1.out.next hb); have K5 := Lib.hid (NB.out.below hb); obtain ⟨q0, q1, q2, q3, q4, q5, q6, q7, q8⟩ := K5.out.cells; have la0 := HB5.out.la.cell 0; have la1 := HB5.out.la.cell 1; simp at la0 la1; clear hb)))
                  have hb8 := HB7.out.stand HIM.out
                  rw [← HTK.out] at hb8
                  have HB8 := Lib.hid hb8
                  have K8 : Hid (Blk9 (w7.setCell ⟨Bs, i, none⟩ (.bool true)) wr.heap.size i c0) := Lib.hid ⟨(Below.heap_setCell _ _ _ _ (fun e => by
                    have h1 := HB.out.st.lt
                    have e2 : wr.heap.size = Bs := e
                    omega)).trans K7.out.box⟩
                  clear hb8 cs7 fz7 lt7 la0 la1 q0 q1 q2 q3 q4 q5 q6 q7 q8 e0 e1 e2 e3 e4 e5 e6 e7 e8 p0 p1 p2 p3 p4 p5 p6 p7 p8 cst cx
                  generalize w7.setCell ⟨Bs, i, none⟩ (.bool true) = w8 at *
                  obtain ⟨q0, q1, q2, q3, q4, q5, q6, q7, q8⟩ := K8.out.cells
                  have la0 := HB8.out.la.cell 0
                  have la1 := HB8.out.la.cell 1
                  simp at la0 la1
                  have lf := HB8.out.la.free
                  have ll := HB8.out.la.lt
                  by_cases hgt : b < c0.B
                  · have HL2 : Hid (Last L (o.take (k + 1)) c0.B) := Lib.hid (by rw [HTK.out]; exact HLA.out.more HLK.out hgt)
                    have HB9 := Lib.hid (HB8.out.later c0.B c0.D)
                    go_wp2
                    go_roundw
                    case rel => exact ⟨k + 1, f3, c0.B, c0.D, by omega, by go_num, HOK2.out, HL2.out, HB9.out⟩
                    case measure => simp [intOf]; omega
                  · have HL2 : Hid (Last L (o.take (k + 1)) b) := Lib.hid (by rw [HTK.out]; exact HLA.out.same HLK.out hgt)
                    go_wp2
                    go_roundw
                    case rel => exact ⟨k + 1, f3, b, d, by omega, by go_num, HOK2.out, HL2.out, HB8.out⟩
                    case measure => simp [intOf]; omega
              · have HBF := Lib.hid hbf
                have HF : Hid (¬ legalI s L o) := Lib.hid (HBAD.out (Bool.eq_false_iff.2 fun h => by
                  have h2 := (HFIT.out.1 h).2.2.1
                  rw [hbf] at h2
                  exact absurd h2 (by decide)))
                clear hmy hbf
                go_wp2_with (first
                  | (go_at_call 35; have _t := HB5.out; go_loud (refine (before_any _ c0.B c0.D b d).mono ?_; rintro e w6 ⟨rfl, hb⟩; rw [HBF.out]; have HB6 := Lib.hid (HB5.out.next hb); have K6 := Lib.hid (K5.out.below hb); obtain ⟨e0, e1, e2, e3, e4, e5, e6, e7, e8⟩ := K6.out.cells; clear hb))
                  | (go_at_call 34; go_loud (refine (HMY.out _ s i c0).mono ?_; rintro e w5 ⟨rfl, hb⟩; rw [HM2.out]; have HB5 := Lib.hid (HB1.out.next hb); have K5 := Lib.hid (NB.out.below hb); obtain ⟨q0, q1, q2, q3, q4, q5, q6, q7, q8⟩ := K5.out.cells; have la0 := HB5.out.la.cell 0; have la1 := HB5.out.la.cell 1; simp at la0 la1; clear hb)))
                go_returns
                exact ⟨HB6.out.below, Or.inr ⟨HF.out, rfl⟩⟩
    · have hkn : k = n := by omega
      have he : o.take k = o := List.take_of_length_le (by rw [HN.out]; omega)
      have hb := HB.out
      have hok := HOK.out
      rw [he] at hb hok
      have HB1 := Lib.hid hb
      have HOK1 := Lib.hid hok
      have HWI : Hid ((∀ j, j < m → mustAt L j = true → (j : Int) ∈ o) ↔ (sysOf s L).whole (o.map Int.toNat) = true) := Lib.hid (by
        rw [whole_iff]
        have hlt := okI_lt hok
        constructor
        · intro h1 j hj hmu
          have := h1 j (by rw [← HM.out]; exact hj) hmu
          exact List.mem_map.2 ⟨_, this, by simp⟩
        · intro h1 j hj hmu
          have := h1 j (by show j < L.length; rw [HM.out]; exact hj) hmu
          have h2 := (toNat_mem (L := L) hlt (x := (j : Int)) (by omega)).1 (by rw [Int.toNat_natCast]; exact this)
          exact h2)
      have HNG : Hid (¬ k < n) := Lib.hid hlt
      have HLEN : Hid ((stateL s (opsI L o)).length ≤ 999) := Lib.hid (by
        have h1 := spec.state_len s (opsI L o)
        unfold opsI at h1 ⊢
        rw [ops_len, List.length_map, HN.out] at h1
        omega)
      clear hb hok he HB HOK HLA
      go_wp2
      clear hlt hkn
      generalize wr = wz at *
      go_loopw [88] (fun j wr => ∃ q : Nat, q ≤ m ∧ j = .int .i64 (q : Int) ∧ Bh w wr A9 L X1 f2 s (stateL s (opsI L o)) Bs (Bs + 1) m o b d ∧ ∀ j, j < q → mustAt L j = true → (j : Int) ∈ o) (fun j _ => m - (intOf j).toNat)
      case atStart => exact ⟨0, Nat.zero_le _, rfl, HB1.out, fun j hj => absurd hj (by omega)⟩
      case round =>
        obtain ⟨q, hq, rfl, hbh, hmu⟩ := hrel
        have HB := Lib.hid hbh
        have HU := Lib.hid hmu
        clear hbh hmu HB1
        by_cases hlt : q < m
        · have hql : q < L.length := by rw [HM.out]; exact hlt
          have hqi : (q : Int) < (m : Int) := by omega
          have hq0 : (0 : Int) ≤ (q : Int) := by omega
          have cst : wr.cell? ⟨Bs, q, none⟩ = some (.bool (decide ((q : Int) ∈ o))) := by rw [HB.out.st.cell, sb_get _ hlt]
          obtain ⟨a, hA9, p0, p1, p2, p3, p4, p5, p6, p7, p8⟩ := HB.out.calls.ca q hql
          obtain rfl : A9 = some a := hA9
          have HMQ : Hid (mustAt L q = mustC L[q]) := Lib.hid (by unfold mustAt; rw [List.getElem?_eq_getElem hql])
          generalize L[q] = c0 at *
          have bA : Below wr.heap.size wr (wr.alloc (.cells #[.int .i64 c0.B, .int .i64 c0.D, .int .i64 (q : Int), .int .i64 c0.T, .int .i64 c0.K, .int .i64 c0.Y, .int .i64 c0.C, .bool c0.O, .int .i64 c0.V] 85)) := (Below.refl _ _).alloc (Nat.le_refl _) _
          have HB1 := Lib.hid (HB.out.next bA)
          have HLT := Lib.hid hlt
          clear hql bA
          cases hmc : mustC c0
          · have HMC := Lib.hid hmc
            have HU2 : Hid (∀ j, j < q + 1 → mustAt L j = true → (j : Int) ∈ o) := Lib.hid (fun j hj h => by
              by_cases e : j = q
              · subst e; rw [HMQ.out, hmc] at h; exact absurd h (by decide)
              · exact HU.out j (by omega) h)
            clear hmc
            go_wp2_with (go_at_call 37; go_loud (refine (HMU.out _ q c0).mono ?_; rintro e w5 ⟨rfl, hb⟩; rw [HMC.out]; have HB5 := Lib.hid (HB1.out.next hb); clear hb))
            go_roundw
            case rel => exact ⟨q + 1, by omega, by go_num, HB5.out, HU2.out⟩
            case measure => simp [intOf]; omega
          · have HMC := Lib.hid hmc
            by_cases hin : (q : Int) ∈ o
            · have hd : decide ((q : Int) ∈ o) = true := decide_eq_true hin
              rw [hd] at cst
              have HD := Lib.hid hd
              have HU2 : Hid (∀ j, j < q + 1 → mustAt L j = true → (j : Int) ∈ o) := Lib.hid (fun j hj h => by
                by_cases e : j = q
                · subst e; exact hin
                · exact HU.out j (by omega) h)
              clear hmc hd hin
              go_wp2_with (go_at_call 37; go_loud (refine (HMU.out _ q c0).mono ?_; rintro e w5 ⟨rfl, hb⟩; rw [HMC.out]; have HB5 := Lib.hid (HB1.out.next hb); have cs5 : w5.cell? ⟨Bs, q, none⟩ = some (.bool true) := (by have h2 := HB5.out.st.cell q; rw [sb_get _ HLT.out, HD.out] at h2; exact h2); clear hb))
              go_roundw
              case rel => exact ⟨q + 1, by omega, by go_num, HB5.out, HU2.out⟩
              case measure => simp [intOf]; omega
            · have hd : decide ((q : Int) ∈ o) = false := decide_eq_false hin
              rw [hd] at cst
              have HD := Lib.hid hd
              have HF : Hid (¬ legalI s L o) := Lib.hid (fun h => hin (HWI.out.2 h.2.2 q hlt (by rw [HMQ.out, hmc])))
              clear hmc hd hin
              go_wp2_with (go_at_call 37; go_loud (refine (HMU.out _ q c0).mono ?_; rintro e w5 ⟨rfl, hb⟩; rw [HMC.out]; have HB5 := Lib.hid (HB1.out.next hb); have cs5 : w5.cell? ⟨Bs, q, none⟩ = some (.bool false) := (by have h2 := HB5.out.st.cell q; rw [sb_get _ HLT.out, HD.out] at h2; exact h2); clear hb))
              go_returns
              exact ⟨HB5.out.below, Or.inr ⟨HF.out, rfl⟩⟩
        · have hqm : q = m := by omega
          have HF : Hid (legalI s L o) := Lib.hid ⟨HS.out, HOK1.out, HWI.out.1 (fun j hj => HU.out j (by omega))⟩
          go_wp2_with (go_at_call 38; go_loud (refine (items_mean _ X1 f2 s _ HB.out.mean (by have := HLEN.out; omega)).mono ?_; rintro e w6 ⟨A6, c6, G6, rfl, hr6, -, hb6⟩; have R6 := Lib.hid hr6; have B6 := Lib.hid hb6; clear hr6 hb6))
          go_returns
          exact ⟨past HB.out.below B6.out, Or.inl ⟨HF.out, A6, c6, G6, rfl, R6.out⟩⟩
end Go.Proofs.YtmpilokgbblonaaGreat.lin
/- An event's beginning. -/
namespace Go.Proofs.YtmpilokgbblonaaGreat.hist
open Go.RowKit

set_option maxRecDepth 100000 in
set_option maxHeartbeats 20000000 in
theorem begin_any (w : World) (X : Nat) (f : Nat → Prop) (l : List EvV) (h : Hst w X f l) (hl : l.length ≤ 1000) (t k y : Int) (he : errE l ⟨t, false, k, y, 0, false, 0⟩ = 0) :
    Calls Tryz.prog 21 #[.pointer (some ⟨X, 0, none⟩), .int .i64 t, .agg #[.int .i64 k, .int .i64 y]] w fun e w' => ∃ f', e = .returned (.int .i64 0) ∧ Hst w' X f' (l ++ [⟨t, false, k, y, 0, false, 0⟩]) ∧ Went f f' w w' := by
  obtain ⟨v, o, h, hX, hv, hf⟩ := h
  obtain ⟨ht, hp⟩ := err_zero he
  simp only at ht hp
  obtain ⟨n, rfl⟩ : ∃ n : Nat, t = n := ⟨t.toNat, by omega⟩
  have hn7 : (n : Int) ≤ 7 := ht.2
  obtain ⟨A, c, rfl, hc1, hc2, _⟩ := h.row.slice
  have hMl := calls_le h.valid
  have hap := fun g (hg : _) => h.apart (g := g) hg
  have hrow := h.row
  have hHH := h
  generalize hM : (callsE l).length = M at *
  obtain ⟨cur, hbox, hb1, hb2, hb3, hb4⟩ := h.box
  have c1 := h.c1
  have c0 := h.c0
  have co := h.co (t := n) (by omega)
  have fr := h.free
  have HP := Lib.hid hp
  have hXl := h.lt
  have hn0 : (0 : Int) ≤ n := ht.1
  have hn8 : (n : Int) < 8 := by omega
  have d1 : decide ((0 : Int) ≤ n) = true := decide_eq_true hn0
  have d2 : decide ((n : Int) < 8) = true := decide_eq_true hn8
  obtain ⟨i0, hi, hz0, hz1, hz2⟩ := info_parts Tryzinfo_call
  have hw1 : Below w.heap.size w w := Below.refl _ _
  -- the worlds ahead of the append
  obtain ⟨w0, hw0⟩ : ∃ w0, w0 = w.setCell ⟨X, 1, none⟩ (.int .i64 ((l.length : Int) + 1)) := ⟨_, rfl⟩
  have hs0 : w0.heap.size = w.heap.size := by rw [hw0]; simp
  have hx0 : w0.heap[X]? = some (.cells (cur.setIfInBounds 1 (.int .i64 ((l.length : Int) + 1))) 99 (0, 0)) := by rw [hw0]; exact Joins.block_setCell (i := 1) hbox _
  have hg0 : ∀ g, g ≠ X → w0.heap[g]? = w.heap[g]? := fun g hg => by rw [hw0]; exact Below.heap_setCell _ _ _ _ hg
  have hr0 : Own cells9 9 85 w0 (.slice A M c) (callsE l) := hrow.moved fun g hg => hg0 g (hap g hg)
  have hgh0 : w0.os = w.os ∧ w0.tape = w.tape ∧ w0.output = w.output := by rw [hw0]; exact ⟨rfl, rfl, rfl⟩
  obtain ⟨w3, hw3⟩ : ∃ w3, w3 = (w0.alloc (.cells #[.int .i64 k, .int .i64 y] 47)).alloc (.cells #[.int .i64 (l.length : Int), .int .i64 (-1)] 83) := ⟨_, rfl⟩
  have hb03 : Below w0.heap.size w0 w3 := by rw [hw3]; exact ((Below.refl _ _).alloc (Nat.le_refl _) _).alloc (by simp) _
  have hs3 : w3.heap.size = w.heap.size + 2 := by rw [hw3, ← hs0]; simp
  have q3 : w3.cell? ⟨w.heap.size, 0, none⟩ = some (.int .i64 k) := by rw [hw3, ← hs0]; simp
  have q4 : w3.cell? ⟨w.heap.size, 1, none⟩ = some (.int .i64 y) := by rw [hw3, ← hs0]; simp
  have q1 : w3.cell? ⟨w.heap.size + 1, 0, none⟩ = some (.int .i64 (l.length : Int)) := by rw [hw3, ← hs0]; simp
  have q2 : w3.cell? ⟨w.heap.size + 1, 1, none⟩ = some (.int .i64 (-1)) := by rw [hw3, ← hs0]; simp
  have hx3 : w3.heap[X]? = some (.cells (cur.setIfInBounds 1 (.int .i64 ((l.length : Int) + 1))) 99 (0, 0)) := (hb03.block X (by omega)).trans hx0
  have q0 : w3.cell? ⟨X, 0, none⟩ = some (.slice A M c) := by
    rw [Joins.cell_of_block hx3]
    show (cur.setIfInBounds 1 _)[0]? = _
    rw [Array.getElem?_setIfInBounds, if_neg (by omega)]
    exact hb2
  obtain ⟨w4, hw4⟩ : ∃ w4, w4 = w3.drew.alloc (.cells #[.int .i64 (l.length : Int), .int .i64 (-1), .int .i64 (M : Int), .int .i64 (n : Int), .int .i64 k, .int .i64 y, .int .i64 0, .bool false, .int .i64 0] 85) := ⟨_, rfl⟩
  have hb34 : Below w3.heap.size w3 w4 := by rw [hw4]; exact ((Below.refl _ _).drew).alloc (Nat.le_refl _) _
  have hs4 : w4.heap.size = w3.heap.size + 1 := by rw [hw4]; simp
  obtain ⟨v', w5, hrun, hown, hgr, hat, A', c', hv'⟩ := append_row len9 w4 71 71 85 i0 _ 72 Tryz.underlying71 hi hz0 hz1 hz2 rfl (by decide) (.slice A M c) (callsE l) ⟨n, (l.length : Nat), -1, k, y, 0, false, 0⟩ ((hr0.below hb03).below hb34) w3.heap.size (by
      rw [hw4, hM]
      exact new_cells w3.drew [.int .i64 (l.length : Int), .int .i64 (-1), .int .i64 (M : Int), .int .i64 (n : Int), .int .i64 k, .int .i64 y, .int .i64 0, .bool false, .int .i64 0] _) (one9 _ _) (by unfold maxLen; omega) (by omega)
  subst hv'
  rw [hM] at hown hrun hat
  have hgX : ∀ g, (Value.slice A M c).ownBlock = some g → g ≠ X := hap
  have hx5 : w5.heap[X]? = some (.cells (cur.setIfInBounds 1 (.int .i64 ((l.length : Int) + 1))) 99 (0, 0)) := by
    rw [hgr.block X (by omega) (fun e => hgX X e.symm rfl), hb34.block X (by omega)]
    exact hx3
  have k0 : w5.cell? ⟨X, 0, none⟩ = some (.slice A M c) := by
    rw [Joins.cell_of_block hx5]
    show (cur.setIfInBounds 1 _)[0]? = _
    rw [Array.getElem?_setIfInBounds, if_neg (by omega)]
    exact hb2
  have kn : w5.cell? ⟨X, 2 + n, none⟩ = some (.int .i64 (o n : Nat)) := by
    rw [Joins.cell_of_block hx5]
    show (cur.setIfInBounds 1 _)[2 + n]? = _
    rw [Array.getElem?_setIfInBounds, if_neg (by omega)]
    exact hb4 n (by omega)
  have fr5 : ∀ i, w5.frozen? ⟨X, i, none⟩ = false := fun i => Joins.unfrozen_of_block hx5 i
  have HE : Hid (∀ w6 : World, w6.heap.size = w5.heap.size → w6.os = w5.os → w6.tape = w5.tape → w6.output = w5.output → (∀ g, g ≠ X → w6.heap[g]? = w5.heap[g]?) → w6.heap[X]? = some (.cells (((cur.setIfInBounds 1 (.int .i64 ((l.length : Int) + 1))).setIfInBounds 0 (.slice (some A') (M + 1) c')).setIfInBounds (2 + n) (.int .i64 ((M : Int) + 1))) 99 (0, 0)) → ∃ f', Hst w6 X f' (l ++ [⟨n, false, k, y, 0, false, 0⟩]) ∧ Went f f' w w6) := by
    intro w6 e1 e2 e3 e4 e5 e6
    have hsz := hgr.size
    have hcl : ∀ g, (Value.slice (some A') (M + 1) c').ownBlock = some g → (Value.slice A M c).ownBlock = some g ∨ g = w4.heap.size := fun g hg => by
      rcases hat with hat | hat
      · exact Or.inl (hat ▸ hg)
      · rw [hg] at hat
        exact Or.inr (Option.some.inj hat)
    refine ⟨fun b => f b ∨ (w.heap.size ≤ b ∧ b < w6.heap.size), ⟨_, _, hat_begin hHH hM (by omega) he hbox e6 hown (fun g hg => e5 g ?_), Or.inl hX, fun g hg => ?_, fun b hb => ?_⟩, ?_⟩
    · rcases hcl g hg with h | h
      · exact hgX g h
      · omega
    · rcases hcl g hg with h | h
      · exact Or.inl (hv g h)
      · have h2 := hown.lt hg
        exact Or.inr ⟨by omega, by omega⟩
    · rcases hb with hb | hb
      · have := hf b hb
        omega
      · exact hb.2
    · refine ⟨e2.trans (hgr.os.trans (hb34.os.trans (hb03.os.trans hgh0.1))), e3.trans (hgr.tape.trans (hb34.tape.trans (hb03.tape.trans hgh0.2.1))), e4.trans (hgr.output.trans (hb34.output.trans (hb03.output.trans hgh0.2.2))), by omega, fun b hb hfb => ?_, fun b hb => hb.imp id fun h => h.1⟩
      have hbX : b ≠ X := fun e => hfb (e ▸ hX)
      rw [e5 b hbX, hgr.block b (by omega) (fun e => hfb (hv b e.symm)), hb34.block b (by omega), hb03.block b (by omega), hg0 b hbX]
  have HR := Lib.hid hrun
  have HX5 := Lib.hid hx5
  have HH := Lib.hid hHH
  have HW := Lib.hid hw3
  subst hw4
  subst hw0
  have hX3 : X < w3.heap.size := by omega
  have hS3 : w.heap.size < w3.heap.size := by omega
  have hT3 : w.heap.size + 1 < w3.heap.size := by omega
  have hNN : (l.length : Int) < 1001 := by omega
  clear hrun hown hgr hat hx5 hb34 hb03 hr0 hg0 hx0 hs0 hs4 hHH h hrow hbox hb1 hb2 hb3 hb4 hap hgX hv hf hc1 hc2 hp ht he hs3 hx3 hgh0 hw3
  generalize l.length = N at *
  go_enter Tryz.func21, Tryz.ntmps21
  go_upto_region 6 with (first
    | (go_at_call 43; go_loud (refine (pending_any _ X _ o l (HH.out.below ((Below.refl _ _).alloc (Nat.le_refl _) _)) n).mono ?_; rintro e w1 ⟨rfl, hw⟩; subst hw; rw [decide_eq_true ⟨hn0, hn7⟩, HP.out]))
    | (go_at_call 44; go_in)
    | (go_at_call 42; go_in))
  rw [← HW.out]
  clear c0 c1 co fr HW HH HP d1 d2 hn0
  generalize w.heap.size = s at *
  go_cut [] (fun wx => wx = w5.setCell ⟨X, 0, none⟩ (.slice (some A') (M + 1) c'))
  case first =>
    go_region_law (refine quiet.step_known rfl (.tmp 21) (.tmp 31) 71 rfl (.slice A M c) (.slice (some ⟨w3.heap.size, 0, none⟩) 1 1) _ w5 rfl rfl HR.out ?_)
    all_goals
      go_wp2_with fail
      go_meet
      rfl
  case rest =>
    subst hcut
    clear q0 q1 q2 q3 q4 HR
    go_wp2
    go_region
    go_wp2
    go_returns
    obtain ⟨f', h1, h2⟩ := HE.out ((w5.setCell ⟨X, 0, none⟩ (.slice (some A') (M + 1) c')).setCell ⟨X, 2 + n, none⟩ (.int .i64 ((M : Int) + 1))).drew (by simp) rfl rfl rfl (fun g hg => (Below.heap_setCell _ _ _ _ hg).trans (Below.heap_setCell _ _ _ _ hg)) (Joins.block_setCell (i := 2 + n) (Joins.block_setCell (i := 0) HX5.out _) _)
    exact ⟨f', rfl, h1, h2⟩
end Go.Proofs.YtmpilokgbblonaaGreat.hist
