/- The items behind an order are told, if it is legal. -/
import Derived.Test.YtmpilokgbblonaaGreatKa31
namespace Go.Proofs.YtmpilokgbblonaaGreat.lin
open Go.RowKit Go.Maps
open hist (ClV EvV befB past new_block Went At cells9 len9 Blk9 Hst callsE calls_any before_any)
open spec (Rw Row Mean new_right new_wrong items_mean stateL nextL)
open task (rightB)
theorem behind_wrong (w : World) (s : Int) (hs : ¬ (1 ≤ s ∧ s ≤ 4)) (a : Option Addr) (A : Option Addr) (n c : Nat) : Calls Tryz.prog 14 #[.int .i64 s, .pointer a, .slice A n c] w fun e w' => e = .returned (.tuple #[.slice none 0 0, .bool false]) ∧ Below w.heap.size w w' := by
  have HS := Lib.hid hs
  clear hs
  go_enter Tryz.func14, Tryz.ntmps14
  go_wp2_with (go_at_call 26; go_loud (refine (new_wrong _ s HS.out).mono ?_; rintro e w1 ⟨rfl, hw⟩; subst hw))
  go_returns
  exact ⟨rfl, Below.refl _ _⟩
set_option maxRecDepth 100000 in
set_option maxHeartbeats 8000000 in
theorem behind_any (w : World) (X : Nat) (f : Nat → Prop) (l : List EvV) (h : Hst w X f l) (hl : l.length ≤ 100) (s : Int) (hs : 1 ≤ s ∧ s ≤ 4) (c : Nat) (A : Option Addr) (o : List Int) (hr : NumAt w A o) (n : Nat) (hn : o.length = n) (hn2 : n ≤ 100) :
    Calls Tryz.prog 14 #[.int .i64 s, .pointer (some ⟨X, 0, none⟩), .slice A n c] w (BehQ s (callsE l) o w) := by
  have HH := Lib.hid h
  have HL := Lib.hid hl
  have HS := Lib.hid hs
  have HR := Lib.hid hr
  have HN := Lib.hid hn
  have hcl := hist.calls_le h.valid
  generalize hLL : callsE l = L at *
  have HLL := Lib.hid hLL
  generalize hm : L.length = m at *
  have HM := Lib.hid hm
  have hm0 : (m : Int) ≤ 100 := by omega
  have hn0 : (n : Int) ≤ 100 := by omega
  have hmk : ∀ w : World, (Instr.makeSlice 81 (.int .i64 (m : Int)) (.int .i64 (m : Int))).run Tryz.prog w = .ok (.slice (some ⟨w.heap.size, 0, none⟩) m m) (w.alloc (.cells (List.replicate m (.bool false)).toArray 4)) := fun w => make_bools w m (by omega)
  have hTe := tells_any
  have hMay := may_any
  have hMust := must_any
  unfold clA at hTe hMay hMust
  have HTE := Lib.hid hTe
  have HMY := Lib.hid hMay
  have HMU := Lib.hid hMust
  clear h hl hs hr hn hLL hm hcl hTe hMay hMust
  go_enter Tryz.func14, Tryz.ntmps14
  go_wp2_with (first
    | (go_at_call 27; have _t := B1.out; go_loud (refine (calls_any _ X f l (HH.out.below B1.out) (by have := HL.out; omega)).mono ?_; rintro e w2 ⟨v2, rfl, hg⟩; obtain ⟨A9, c9, rfl, -, -, ha⟩ := hg.told len9; have HLT := Lib.hid (own_lt hg.own); rw [HLL.out] at ha; rw [HLL.out, HM.out]; have B2 := Lib.hid (past B1.out hg.below); have R2 := Lib.hid ha; have M2 := Lib.hid (M1.out.below hg.below); have R9new : Hid (∀ b, A9 = some b → w1.heap.size ≤ b.block) := Lib.hid (own_new hg); clear hg ha))
    | (go_at_call 26; go_loud (refine (new_right _ s HS.out).mono ?_; rintro e w1 ⟨X1, f1, rfl, hm, hf1, hb1⟩; have M1 := Lib.hid hm; have B1 := Lib.hid hb1; have F1 := Lib.hid hf1; clear hm hf1 hb1)))
  clear hmk
  have BH0 : Hid (Bh w ((w2.alloc (.cells (Array.replicate m (.bool false)) 4)).alloc (.cells #[.int .i64 0, .int .i64 0] 83)) A9 L X1 f1 s [] w2.heap.size (w2.heap.size + 1) m [] 0 0) := Lib.hid (by
    have b1 : Below w2.heap.size w2 (w2.alloc (.cells (Array.replicate m (.bool false)) 4)) := (Below.refl _ _).alloc (Nat.le_refl _) _
    have s1 : (w2.alloc (.cells (Array.replicate m (.bool false)) 4)).heap.size = w2.heap.size + 1 := by simp
    have k1 := new_block w2 (Array.replicate m (.bool false)) 4
    generalize w2.alloc (.cells (Array.replicate m (.bool false)) 4) = w3 at *
    have b2 : Below w3.heap.size w3 (w3.alloc (.cells #[.int .i64 0, .int .i64 0] 83)) := (Below.refl _ _).alloc (Nat.le_refl _) _
    have k2 := new_block w3 #[.int .i64 0, .int .i64 0] 83
    rw [s1] at k2
    have hsz := B2.out.size
    refine ⟨(R2.out.later b1).later b2, (M2.out.below b1).below b2, ⟨?_⟩, ⟨k2⟩, past (past B2.out b1) b2, F1.out, by omega, ⟨fun e => by have := M2.out.lt _ e; omega, fun e => by have := M2.out.lt _ e; omega⟩, fun a ha => ?_⟩
    · rw [sb_nil, b2.block _ (by omega), k1]
      simp
    · have h1 := HLT.out a ha
      have h2 := R9new.out a ha
      refine ⟨by omega, by omega, fun e => ?_, ?_⟩
      · have := M1.out.lt _ e; omega
      · have := b1.size; have := b2.size; omega)
  generalize ((w2.alloc (.cells (Array.replicate m (.bool false)) 4)).alloc (.cells #[.int .i64 0, .int .i64 0] 83)) = w4 at *
  generalize w2.heap.size = Bs at *
  clear R2 M2 B2 M1 B1 F1 HLT R9new
  go_loopw [36] (fun j wr => ∃ (k : Nat) (f2 : Nat → Prop) (b d : Int), k ≤ n ∧ j = .int .i64 (k : Int) ∧ okI s L (o.take k) ∧ Last L (o.take k) b ∧ Bh w wr A9 L X1 f2 s (stateL s (opsI L (o.take k))) Bs (Bs + 1) m (o.take k) b d) (fun j _ => n - (intOf j).toNat)
  case atStart => exact ⟨0, f1, 0, 0, Nat.zero_le _, rfl, okI_nil, last_nil L, BH0.out⟩
  case round =>
    obtain ⟨k, f2, b, d, hk, rfl, hok, hla, hbh⟩ := hrel
    have HOK := Lib.hid hok
    have HLA := Lib.hid hla
    have HB := Lib.hid hbh
    clear hok hla hbh BH0
    by_cases hlt : k < n
    · have hkl : k < o.length := by rw [HN.out]; exact hlt
      have hki : (k : Int) < (n : Int) := by omega
      obtain ⟨x, hx⟩ : ∃ x, x = o[k] := ⟨_, rfl⟩
      have HX := Lib.hid hx
      have HKL := Lib.hid hkl
      obtain ⟨ao, hA, hrow⟩ := HR.out k hkl
      subst hA
      have cx : wr.cell? (ao.add k) = some (.int .i64 x) := by
        have h2 : w.cell? (ao.add k) = some (.int .i64 x) := by rw [hx]; exact hrow
        exact (HB.out.below.cell (World.block_lt_of_cell? _ _ h2)).trans h2
      clear hx hrow
      by_cases hx0 : x < 0
      · have HF : Hid (¬ legalI s L o) := Lib.hid (okI_bad HKL.out (by rw [← HX.out]; exact not_fit_range (by omega)))
        go_wp2
        go_returns
        exact ⟨HB.out.below, Or.inr ⟨HF.out, rfl⟩⟩
      · by_cases hxm : (m : Int) ≤ x
        · have HF : Hid (¬ legalI s L o) := Lib.hid (okI_bad HKL.out (by rw [← HX.out]; exact not_fit_range (by rw [HM.out]; omega)))
          go_wp2
          go_returns
          exact ⟨HB.out.below, Or.inr ⟨HF.out, rfl⟩⟩
        · obtain ⟨i, rfl⟩ : ∃ i : Nat, x = (i : Int) := ⟨x.toNat, by omega⟩
          have him : i < m := by omega
          have hi0 : (0 : Int) ≤ (i : Int) := by omega
          have hi1 : (i : Int) < (m : Int) := by omega
          have hil : i < L.length := by rw [HM.out]; exact him
          have cst : wr.cell? ⟨Bs, i, none⟩ = some (.bool (decide ((i : Int) ∈ o.take k))) := by rw [HB.out.st.cell, sb_get _ him]
          have hlk : L[i]? = some L[i] := List.getElem?_eq_getElem hil
          have hfit := fitI_iff HOK.out HLA.out hlk
          obtain ⟨a, hA9, p0, p1, p2, p3, p4, p5, p6, p7, p8⟩ := HB.out.calls.ca i hil
          obtain rfl : A9 = some a := hA9
          have HLK := Lib.hid hlk
          have HBAD : Hid (fitI s L (o.take k) (i : Int) = false → ¬ legalI s L o) := Lib.hid (fun h => okI_bad HKL.out (by rw [← HX.out]; exact h))
          generalize L[i] = c0 at *
          clear hlk hil
          by_cases hin : (i : Int) ∈ o.take k
          · have hd : decide ((i : Int) ∈ o.take k) = true := decide_eq_true hin
            rw [hd] at cst
            have HF : Hid (¬ legalI s L o) := Lib.hid (HBAD.out (Bool.eq_false_iff.2 fun h => (hfit.1 h).1 hin))
            clear hd hin hfit
            go_wp2
            go_returns
            exact ⟨HB.out.below, Or.inr ⟨HF.out, rfl⟩⟩
          · have hd : decide ((i : Int) ∈ o.take k) = false := decide_eq_false hin
            rw [hd] at cst
            have HML : Hid ((stateL s (opsI L (o.take k))).length ≤ 999) := Lib.hid (by
              have h1 := spec.state_len s (opsI L (o.take k))
              unfold opsI at h1 ⊢
              rw [ops_len, List.length_map, List.length_take] at h1
              omega)
            have HGD : Hid (spec.Good s (stateL s (opsI L (o.take k)))) := Lib.hid (spec.good_state s _ (ok_right (okI_iff.1 HOK.out).2))
            have bA : Below wr.heap.size wr (wr.alloc (.cells #[.int .i64 c0.B, .int .i64 c0.D, .int .i64 (i : Int), .int .i64 c0.T, .int .i64 c0.K, .int .i64 c0.Y, .int .i64 c0.C, .bool c0.O, .int .i64 c0.V] 85)) := (Below.refl _ _).alloc (Nat.le_refl _) _
            have HB1 := Lib.hid (HB.out.next bA)
            have NB : Hid (Blk9 (wr.alloc (.cells #[.int .i64 c0.B, .int .i64 c0.D, .int .i64 (i : Int), .int .i64 c0.T, .int .i64 c0.K, .int .i64 c0.Y, .int .i64 c0.C, .bool c0.O, .int .i64 c0.V] 85)) wr.heap.size i c0) := Lib.hid ⟨new_block _ _ _⟩
            have NF : Hid (¬ f2 wr.heap.size) := Lib.hid (fun e => by have := HB.out.mean.lt _ e; omega)
            have HFIT := Lib.hid hfit
            have HIN := Lib.hid hin
            have HIM := Lib.hid him
            clear hd hin hfit bA
            cases hmy : mayC s c0
            · have HM2 := Lib.hid hmy
              have HF : Hid (¬ legalI s L o) := Lib.hid (HBAD.out (Bool.eq_false_iff.2 fun h => by
                have h2 := (HFIT.out.1 h).2.1
                rw [hmy] at h2
                exact absurd h2 (by decide)))
              clear hmy
              go_wp2_with (go_at_call 34; go_loud (refine (HMY.out _ s i c0).mono ?_; rintro e w5 ⟨rfl, hb⟩; rw [HM2.out]; have HB5 := Lib.hid (HB1.out.next hb); have K5 := Lib.hid (NB.out.below hb); obtain ⟨q0, q1, q2, q3, q4, q5, q6, q7, q8⟩ := K5.out.cells; have la0 := HB5.out.la.cell 0; have la1 := HB5.out.la.cell 1; simp at la0 la1; clear hb))
              go_returns
              exact ⟨HB5.out.below, Or.inr ⟨HF.out, rfl⟩⟩
            · have HM2 := Lib.hid hmy
              cases hbf : befB c0.D b
              · have HBF := Lib.hid hbf
                have hrb : rightB s c0.K c0.Y = true := by
                  unfold mayC at hmy
                  rw [Bool.and_eq_true] at hmy
                  exact hmy.1
                cases htl : toldC (stateL s (opsI L (o.take k))) c0
                · have HTL : Hid ((rightB s c0.K c0.Y && toldC (stateL s (opsI L (o.take k))) c0) = false) := Lib.hid (by rw [htl, Bool.and_false])
                  have HF : Hid (¬ legalI s L o) := Lib.hid (HBAD.out (Bool.eq_false_iff.2 fun h => by
                    have h2 := (HFIT.out.1 h).2.2.2
                    rw [htl] at h2
                    exact absurd h2 (by decide)))
                  clear hmy hbf htl hrb
                  go_wp2_with (first
                    | (go_at_call 36; have _t := HB6.out; go_loud (refine (HTE.out _ X1 f2 s (stateL s (opsI L (o.take k))) HB6.out.mean HML.out HGD.out i c0).mono ?_; rintro e w7 ⟨f3, rfl, ha⟩; rw [HTL.out]; have HB7 := Lib.hid (HB6.out.asked ha.mean ha.went); clear ha))
                    | (go_at_call 35; have _t := HB5.out; go_loud (refine (before_any _ c0.B c0.D b d).mono ?_; rintro e w6 ⟨rfl, hb⟩; rw [HBF.out]; have HB6 := Lib.hid (HB5.out.next hb); have K6 := Lib.hid (K5.out.below hb); obtain ⟨e0, e1, e2, e3, e4, e5, e6, e7, e8⟩ := K6.out.cells; clear hb))
                    | (go_at_call 34; go_loud (refine (HMY.out _ s i c0).mono ?_; rintro e w5 ⟨rfl, hb⟩; rw [HM2.out]; have HB5 := Lib.hid (HB1.out.next hb); have K5 := Lib.hid (NB.out.below hb); obtain ⟨q0, q1, q2, q3, q4, q5, q6, q7, q8⟩ := K5.out.cells; have la0 := HB5.out.la.cell 0; have la1 := HB5.out.la.cell 1; simp at la0 la1; clear hb)))
                  go_returns
                  exact ⟨HB7.out.below, Or.inr ⟨HF.out, rfl⟩⟩
                · have HTL : Hid ((rightB s c0.K c0.Y && toldC (stateL s (opsI L (o.take k))) c0) = true) := Lib.hid (by rw [htl, hrb]; rfl)
                  have HRB := Lib.hid hrb
                  have HFT : Hid (fitI s L (o.take k) (i : Int) = true) := Lib.hid (HFIT.out.2 ⟨HIN.out, hmy, hbf, htl⟩)
                  have HOK2 : Hid (okI s L (o.take (k + 1))) := Lib.hid (okI_next HKL.out HOK.out (by rw [← HX.out]; exact HFT.out))
                  have HTK : Hid (o.take (k + 1) = o.take k ++ [(i : Int)]) := Lib.hid (by rw [List.take_succ_eq_append_getElem HKL.out, ← HX.out])
                  have HST : Hid (stateL s (opsI L (o.take (k + 1))) = nextL s (stateL s (opsI L (o.take k))) c0.K c0.Y) := Lib.hid (by
                    have hil : ((i : Int)).toNat < L.length := by rw [Int.toNat_natCast, HM.out]; exact HIM.out
                    rw [HTK.out, opsI_snoc hil, spec.stateL_snoc]
                    have he : L[((i : Int)).toNat] = c0 := (List.getElem?_eq_some_iff.1 (by rw [Int.toNat_natCast]; exact HLK.out)).2
                    rw [he])
                  clear hmy hbf htl hrb
                  go_upto_region 16 with (first
                    | (go_at_call 36; have _t := HB6.out; go_loud (refine (HTE.out _ X1 f2 s (stateL s (opsI L (o.take k))) HB6.out.mean HML.out HGD.out i c0).mono ?_; rintro e w7 ⟨f3, rfl, ha⟩; rw [HTL.out]; have hms := ha.mean; rw [HRB.out, if_pos rfl, ← HST.out] at hms; have HB7 := Lib.hid (HB6.out.asked hms ha.went); have K7 : Hid (Blk9 w7 wr.heap.size i c0) := Lib.hid ⟨(ha.went.block _ K6.out.lt NF.out).trans K6.out.box⟩; have cs7 : w7.cell? ⟨Bs, i, none⟩ = some (.bool false) := (by rw [HB7.out.st.cell, sb_get _ HIM.out, decide_eq_false HIN.out]); have fz7 := HB7.out.st.free i; have lt7 := HB7.out.st.lt; clear ha hms))
                    | (go_at_call 35; have _t := HB5.out; go_loud (refine (before_any _ c0.B c0.D b d).mono ?_; rintro e w6 ⟨rfl, hb⟩; rw [HBF.out]; have HB6 := Lib.hid (HB5.out.next hb); have K6 := Lib.hid (K5.out.below hb); obtain ⟨e0, e1, e2, e3, e4, e5, e6, e7, e8⟩ := K6.out.cells; clear hb))
                    | (go_at_call 34; go_loud (refine (HMY.out _ s i c0).mono ?_; rintro e w5 ⟨rfl, hb⟩; rw [HM2.out]; have HB5 := Lib.hid (HB1.out.next hb); have K5 := Lib.hid (NB.out.below hb); obtain ⟨q0, q1, q2, q3, q4, q5, q6, q7, q8⟩ := K5.out.cells; have la0 := HB5.out.la.cell 0; have la1 := HB5.out.la.cell 1; simp at la0 la1; clear hb)))
                  have hb8 := HB7.out.stand HIM.out
                  rw [← HTK.out] at hb8
                  have HB8 := Lib.hid hb8
                  have K8 : Hid (Blk9 (w7.setCell ⟨Bs, i, none⟩ (.bool true)) wr.heap.size i c0) := Lib.hid ⟨(Below.heap_setCell _ _ _ _ (fun e => by
                    have h1 := HB.out.st.lt
                    have e2 : wr.heap.size = Bs := e
                    omega)).trans K7.out.box⟩
                  clear hb8 cs7 fz7 lt7 la0 la1 q0 q1 q2 q3 q4 q5 q6 q7 q8 e0 e1 e2 e3 e4 e5 e6 e7 e8 p0 p1 p2 p3 p4 p5 p6 p7 p8 cst cx
                  generalize w7.setCell ⟨Bs, i, none⟩ (.bool true) = w8 at *
                  obtain ⟨q0, q1, q2, q3, q4, q5, q6, q7, q8⟩ := K8.out.cells
                  have la0 := HB8.out.la.cell 0
                  have la1 := HB8.out.la.cell 1
                  simp at la0 la1
                  have lf := HB8.out.la.free
                  have ll := HB8.out.la.lt
                  by_cases hgt : b < c0.B
                  · have HL2 : Hid (Last L (o.take (k + 1)) c0.B) := Lib.hid (by rw [HTK.out]; exact HLA.out.more HLK.out hgt)
                    have HB9 := Lib.hid (HB8.out.later c0.B c0.D)
                    go_wp2
                    go_roundw
                    case rel => exact ⟨k + 1, f3, c0.B, c0.D, by omega, by go_num, HOK2.out, HL2.out, HB9.out⟩
                    case measure => simp [intOf]; omega
                  · have HL2 : Hid (Last L (o.take (k + 1)) b) := Lib.hid (by rw [HTK.out]; exact HLA.out.same HLK.out hgt)
                    go_wp2
                    go_roundw
                    case rel => exact ⟨k + 1, f3, b, d, by omega, by go_num, HOK2.out, HL2.out, HB8.out⟩
                    case measure => simp [intOf]; omega
              · have HBF := Lib.hid hbf
                have HF : Hid (¬ legalI s L o) := Lib.hid (HBAD.out (Bool.eq_false_iff.2 fun h => by
                  have h2 := (HFIT.out.1 h).2.2.1
                  rw [hbf] at h2
                  exact absurd h2 (by decide)))
                clear hmy hbf
                go_wp2_with (first
                  | (go_at_call 35; have _t := HB5.out; go_loud (refine (before_any _ c0.B c0.D b d).mono ?_; rintro e w6 ⟨rfl, hb⟩; rw [HBF.out]; have HB6 := Lib.hid (HB5.out.next hb); have K6 := Lib.hid (K5.out.below hb); obtain ⟨e0, e1, e2, e3, e4, e5, e6, e7, e8⟩ := K6.out.cells; clear hb))
                  | (go_at_call 34; go_loud (refine (HMY.out _ s i c0).mono ?_; rintro e w5 ⟨rfl, hb⟩; rw [HM2.out]; have HB5 := Lib.hid (HB1.out.next hb); have K5 := Lib.hid (NB.out.below hb); obtain ⟨q0, q1, q2, q3, q4, q5, q6, q7, q8⟩ := K5.out.cells; have la0 := HB5.out.la.cell 0; have la1 := HB5.out.la.cell 1; simp at la0 la1; clear hb)))
                go_returns
                exact ⟨HB6.out.below, Or.inr ⟨HF.out, rfl⟩⟩
    · have hkn : k = n := by omega
      have he : o.take k = o := List.take_of_length_le (by rw [HN.out]; omega)
      have hb := HB.out
      have hok := HOK.out
      rw [he] at hb hok
      have HB1 := Lib.hid hb
      have HOK1 := Lib.hid hok
      have HWI : Hid ((∀ j, j < m → mustAt L j = true → (j : Int) ∈ o) ↔ (sysOf s L).whole (o.map Int.toNat) = true) := Lib.hid (by
        rw [whole_iff]
        have hlt := okI_lt hok
        constructor
        · intro h1 j hj hmu
          have := h1 j (by rw [← HM.out]; exact hj) hmu
          exact List.mem_map.2 ⟨_, this, by simp⟩
        · intro h1 j hj hmu
          have := h1 j (by show j < L.length; rw [HM.out]; exact hj) hmu
          have h2 := (toNat_mem (L := L) hlt (x := (j : Int)) (by omega)).1 (by rw [Int.toNat_natCast]; exact this)
          exact h2)
      have HNG : Hid (¬ k < n) := Lib.hid hlt
      have HLEN : Hid ((stateL s (opsI L o)).length ≤ 999) := Lib.hid (by
        have h1 := spec.state_len s (opsI L o)
        unfold opsI at h1 ⊢
        rw [ops_len, List.length_map, HN.out] at h1
        omega)
      clear hb hok he HB HOK HLA
      go_wp2
      clear hlt hkn
      generalize wr = wz at *
      go_loopw [88] (fun j wr => ∃ q : Nat, q ≤ m ∧ j = .int .i64 (q : Int) ∧ Bh w wr A9 L X1 f2 s (stateL s (opsI L o)) Bs (Bs + 1) m o b d ∧ ∀ j, j < q → mustAt L j = true → (j : Int) ∈ o) (fun j _ => m - (intOf j).toNat)
      case atStart => exact ⟨0, Nat.zero_le _, rfl, HB1.out, fun j hj => absurd hj (by omega)⟩
      case round =>
        obtain ⟨q, hq, rfl, hbh, hmu⟩ := hrel
        have HB := Lib.hid hbh
        have HU := Lib.hid hmu
        clear hbh hmu HB1
        by_cases hlt : q < m
        · have hql : q < L.length := by rw [HM.out]; exact hlt
          have hqi : (q : Int) < (m : Int) := by omega
          have hq0 : (0 : Int) ≤ (q : Int) := by omega
          have cst : wr.cell? ⟨Bs, q, none⟩ = some (.bool (decide ((q : Int) ∈ o))) := by rw [HB.out.st.cell, sb_get _ hlt]
          obtain ⟨a, hA9, p0, p1, p2, p3, p4, p5, p6, p7, p8⟩ := HB.out.calls.ca q hql
          obtain rfl : A9 = some a := hA9
          have HMQ : Hid (mustAt L q = mustC L[q]) := Lib.hid (by unfold mustAt; rw [List.getElem?_eq_getElem hql])
          generalize L[q] = c0 at *
          have bA : Below wr.heap.size wr (wr.alloc (.cells #[.int .i64 c0.B, .int .i64 c0.D, .int .i64 (q : Int), .int .i64 c0.T, .int .i64 c0.K, .int .i64 c0.Y, .int .i64 c0.C, .bool c0.O, .int .i64 c0.V] 85)) := (Below.refl _ _).alloc (Nat.le_refl _) _
          have HB1 := Lib.hid (HB.out.next bA)
          have HLT := Lib.hid hlt
          clear hql bA
          cases hmc : mustC c0
          · have HMC := Lib.hid hmc
            have HU2 : Hid (∀ j, j < q + 1 → mustAt L j = true → (j : Int) ∈ o) := Lib.hid (fun j hj h => by
              by_cases e : j = q
              · subst e; rw [HMQ.out, hmc] at h; exact absurd h (by decide)
              · exact HU.out j (by omega) h)
            clear hmc
            go_wp2_with (go_at_call 37; go_loud (refine (HMU.out _ q c0).mono ?_; rintro e w5 ⟨rfl, hb⟩; rw [HMC.out]; have HB5 := Lib.hid (HB1.out.next hb); clear hb))
            go_roundw
            case rel => exact ⟨q + 1, by omega, by go_num, HB5.out, HU2.out⟩
            case measure => simp [intOf]; omega
          · have HMC := Lib.hid hmc
            by_cases hin : (q : Int) ∈ o
            · have hd : decide ((q : Int) ∈ o) = true := decide_eq_true hin
              rw [hd] at cst
              have HD := Lib.hid hd
              have HU2 : Hid (∀ j, j < q + 1 → mustAt L j = true → (j : Int) ∈ o) := Lib.hid (fun j hj h => by
                by_cases e : j = q
                · subst e; exact hin
                · exact HU.out j (by omega) h)
              clear hmc hd hin
              go_wp2_with (go_at_call 37; go_loud (refine (HMU.out _ q c0).mono ?_; rintro e w5 ⟨rfl, hb⟩; rw [HMC.out]; have HB5 := Lib.hid (HB1.out.next hb); have cs5 : w5.cell? ⟨Bs, q, none⟩ = some (.bool true) := (by have h2 := HB5.out.st.cell q; rw [sb_get _ HLT.out, HD.out] at h2; exact h2); clear hb))
              go_roundw
              case rel => exact ⟨q + 1, by omega, by go_num, HB5.out, HU2.out⟩
              case measure => simp [intOf]; omega
            · have hd : decide ((q : Int) ∈ o) = false := decide_eq_false hin
              rw [hd] at cst
              have HD := Lib.hid hd
              have HF : Hid (¬ legalI s L o) := Lib.hid (fun h => hin (HWI.out.2 h.2.2 q hlt (by rw [HMQ.out, hmc])))
              clear hmc hd hin
              go_wp2_with (go_at_call 37; go_loud (refine (HMU.out _ q c0).mono ?_; rintro e w5 ⟨rfl, hb⟩; rw [HMC.out]; have HB5 := Lib.hid (HB1.out.next hb); have cs5 : w5.cell? ⟨Bs, q, none⟩ = some (.bool false) := (by have h2 := HB5.out.st.cell q; rw [sb_get _ HLT.out, HD.out] at h2; exact h2); clear hb))
              go_returns
              exact ⟨HB5.out.below, Or.inr ⟨HF.out, rfl⟩⟩
        · have hqm : q = m := by omega
          have HF : Hid (legalI s L o) := Lib.hid ⟨HS.out, HOK1.out, HWI.out.1 (fun j hj => HU.out j (by omega))⟩
          go_wp2_with (go_at_call 38; go_loud (refine (items_mean _ X1 f2 s _ HB.out.mean (by have := HLEN.out; omega)).mono ?_; rintro e w6 ⟨A6, c6, G6, rfl, hr6, -, hb6⟩; have R6 := Lib.hid hr6; have B6 := Lib.hid hb6; clear hr6 hb6))
          go_returns
          exact ⟨past HB.out.below B6.out, Or.inl ⟨HF.out, A6, c6, G6, rfl, R6.out⟩⟩
end Go.Proofs.YtmpilokgbblonaaGreat.lin
