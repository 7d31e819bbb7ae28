/- The search for the least legal order, step by step. -/
import Derived.Test.YtmpilokgbblonaaGreatKa27
namespace Go.Proofs.YtmpilokgbblonaaGreat.lin
open Go.RowKit Go.Maps
open hist (ClV befB past new_block Went At cells9 len9 Blk9)
open spec (Rw Row Mean nextL okB valI Told items_mean copy_any)
open task (rightB)
section
variable {Good : Nat → List Int → Prop} {Pr : World → Prop} {t : SP} {L : List ClV} {s : Int} {c0 : Nat} {hb : Nat → Nat}
set_option maxRecDepth 100000 in
set_option maxHeartbeats 8000000 in
theorem goOn_step (hE : EnvG Pr t L c0 s) (hH : Hoped Pr t L s Good hb) (r : Nat) (ih : ∀ r', r' < r → GoOK Good Pr t L s c0 hb r') : GoOK Good Pr t L s c0 hb r := by
  intro w N X2 G c n f A o hS ho hcl hr hN hMe hf hR hG hn
  have hg := mask_small hE ho
  have hcv := covers_must hE ho
  obtain ⟨s0, s1, s2, s3, s4, s5⟩ := hS.srch.cs
  have HE := Lib.hid hE
  have HG2 := Lib.hid hg
  have HMU := Lib.hid hE.masks.small.mu
  cases hcb : coversB (maskL o) t.mu
  · have HCV := Lib.hid hcb
    have HNW : Hid (¬ ∀ i, i < (sysOf s L).n → (sysOf s L).must i = true → (maskL o).testBit i = true) := Lib.hid (fun h => by rw [hcv.2 h] at hcb; exact absurd hcb (by decide))
    have hsnd : Sound (sysOf s L) := sys_sound hE.spans
    have hgood := run_good ho
    have hlen := run_len ho
    have hn24 := hE.masks.small.n24
    have hVF : Vain (sysOf s L) (maskL o) ((sysOf s L).run o) → Found (sysOf s L) o none := vain_found hsnd
    have hFV : Found (sysOf s L) o none → Vain (sysOf s L) (maskL o) ((sysOf s L).run o) := found_vain hsnd ho hcl
    have hol := ok_len ho
    have hol2 : o.length ≤ L.length := hol
    have HOK := Lib.hid (And.intro ho hcl)
    generalize hMr : (sysOf s L).run o = M at *
    generalize hgm : maskL o = g at *
    have HMr := Lib.hid hMr
    have HGM := Lib.hid hgm
    have HDV : Hid (¬ Good g M → Found (sysOf s L) o none) := Lib.hid (fun h => hVF (Classical.byContradiction fun hv => h (hH.toGood g M hcl hgood hv)))
    have HFV : Hid (Found (sysOf s L) o none → ¬ Good g M) := Lib.hid (fun h hg' => hH.ofGood g M hcl hgood hg' (hFV h))
    have HGD := Lib.hid hgood
    have HMK : Hid (∀ x ∈ M, keyR x) := Lib.hid (fun x hx => by have := hgood.keys x hx; unfold keyR; omega)
    have HML : Hid (M.length ≤ 24) := Lib.hid (by omega)
    have HH := Lib.hid hH
    have HS := Lib.hid hS
    have HR := Lib.hid hR
    have HGF := Lib.hid hG
    have HF := Lib.hid hf
    have HM := Lib.hid hMe
    have HN := Lib.hid hN
    have HRR := Lib.hid hr
    have HIH := Lib.hid ih
    have HON := Lib.hid hn
    have HSND := Lib.hid hsnd
    have hkl0 : (keptL t.sh L).length ≤ L.length := kept_len _
    obtain ⟨nL, hnl⟩ : ∃ nL, nL = L.length := ⟨_, rfl⟩
    have HNN := Lib.hid hnl
    obtain ⟨n2, hn2⟩ : ∃ n2, n2 = (keptL t.sh L).length := ⟨_, rfl⟩
    have HKN := Lib.hid hn2
    have HL24 : Hid (L.length ≤ 24) := Lib.hid hn24
    have hl0 : (n2 : Int) ≤ 24 := by omega
    have hno : (n : Int) ≤ 24 := by omega
    have HNM : Hid (∀ j, mayAt t.sh L j = false → Found (sysOf s L) (o ++ [j]) none) := Lib.hid (fun j hj => not_free hsnd (fun h => by
      have h1 : mayAt s L j = true := h.1.may
      rw [← hE.sh, hj] at h1
      exact absurd h1 (by decide)))
    have HMap : Hid (∀ g' : Nat, stA g' M = .agg #[.int .u32 (g' : Int), .string (runesBytes M)]) := Lib.hid (fun _ => rfl)
    generalize hsb : runesBytes M = sb at *
    clear hcb hcv hS ho hcl hr hN hMe hf hR hG hn hg hE ih hH hsnd hgood hlen hn24 hVF hFV hol hol2 hMr hgm hn2 hsb hnl hkl0
    go_enter Tryz.func31, Tryz.ntmps31
    go_upto_region 4 with (first
      | (go_at_call 52; have _t := T2.out; go_loud (refine (stateOf_any _ g G2 c2 A2 M R2.out M.length rfl (by have := HML.out; omega) HMK.out).mono ?_; rintro e w3 ⟨rfl, hb3⟩; rw [HMap.out]; have B3 := Lib.hid (past B2.out hb3); clear hb3))
      | (go_at_call 38; have _t := T1.out; go_loud (refine (items_mean _ X2 f s M HM.out (by have := HML.out; omega)).mono ?_; rintro e w2 ⟨A2, c2, G2, rfl, hr2, -, hb2⟩; have R2 := Lib.hid hr2; have B2 := Lib.hid hb2; have T2 := Lib.hid (Eq.refl 0); clear hr2 hb2))
      | (go_at_call 51; go_loud (refine (covers_any _ g t.mu HG2.out HMU.out).mono ?_; rintro e w1 ⟨rfl, hw⟩; subst hw; rw [HCV.out]; have T1 := Lib.hid (Eq.refl 0))))
    have bA : Below w3.heap.size w3 (w3.alloc (.cells #[.int .u32 (g : Int), .string sb] 116)) := (Below.refl _ _).alloc (Nat.le_refl _) _
    have hB4 : Below w.heap.size w (w3.alloc (.cells #[.int .u32 (g : Int), .string sb] 116)) := past B3.out bA
    have W4 := Lib.hid (Went.ofBelow (f := fS t) hB4)
    have S4 := Lib.hid (HS.out.below HE.out.pr hB4)
    have K4 := Lib.hid (⟨new_block w3 _ _⟩ : Line1 (w3.alloc (.cells #[.int .u32 (g : Int), .string sb] 116)) w3.heap.size 116 [.int .u32 (g : Int), .string sb])
    have HNB : Hid (¬ fS t w3.heap.size) := Lib.hid (fun e => by
      have h1 := HS.out.dlt
      have h2 := HE.out.rlt w HS.out.pr
      have h3 := B3.out.size
      rcases e with e | e <;> omega)
    generalize w3.alloc (.cells #[.int .u32 (g : Int), .string sb] 116) = w4 at *
    generalize w3.heap.size = B at *
    clear bA hB4
    obtain ⟨bl, hlook, hdead⟩ := S4.out.look HG2.out HMK.out (by have := HML.out; omega)
    rw [HMap.out] at hlook
    have HD := Lib.hid hdead
    have lk1 := hlook w4.drew rfl
    have lk2 := hlook (w4.drew.alloc (.cells #[] 118)) (((Below.refl w4.drew.heap.size w4.drew).alloc (Nat.le_refl _) _).block _ S4.out.dlt)
    have x4 : w4.cell? ⟨t.X, 4, none⟩ = some (.map (some t.D)) := S4.out.srch.cs.2.2.2.2.1
    have y0 : w4.cell? ⟨B, 0, none⟩ = some (.int .u32 (g : Int)) := K4.out.cell 0
    have y1 : w4.cell? ⟨B, 1, none⟩ = some (.string sb) := K4.out.cell 1
    clear hlook hdead
    have z4 : (w4.drew.alloc (.cells #[] 118)).cell? ⟨t.X, 4, none⟩ = some (.map (some t.D)) := (((Below.refl w4.drew.heap.size w4.drew).alloc (Nat.le_refl _) _).cell (World.block_lt_of_cell? _ _ x4)).trans x4
    have z0 : (w4.drew.alloc (.cells #[] 118)).cell? ⟨B, 0, none⟩ = some (.int .u32 (g : Int)) := (((Below.refl w4.drew.heap.size w4.drew).alloc (Nat.le_refl _) _).cell (World.block_lt_of_cell? _ _ y0)).trans y0
    have z1 : (w4.drew.alloc (.cells #[] 118)).cell? ⟨B, 1, none⟩ = some (.string sb) := (((Below.refl w4.drew.heap.size w4.drew).alloc (Nat.le_refl _) _).cell (World.block_lt_of_cell? _ _ y1)).trans y1
    go_cut [12] (fun v wx => v = .bool bl ∧ wx = (w4.alloc (.cells #[] 118)).drew)
    case first =>
      go_region_held3 (fun wx => wx.cell? ⟨t.X, 4, none⟩ = some (.map (some t.D)) ∧ wx.cell? ⟨B, 0, none⟩ = some (.int .u32 (g : Int)) ∧ wx.cell? ⟨B, 1, none⟩ = some (.string sb) ∧ (Instr.lookup 109 (.map (some t.D)) (.agg #[.int .u32 (g : Int), .string sb]) true).run Tryz.prog wx = .ok (.tuple #[.agg #[], .bool bl]) wx) (first | exact ⟨x4, y0, y1, lk1⟩ | exact ⟨z4, z0, z1, lk2⟩ | go_keep) (fail)
      all_goals
        go_wp2_with fail
        go_meet
        exact ⟨rfl, rfl⟩
    case rest =>
      obtain ⟨rfl, rfl⟩ := hcut
      clear lk1 lk2 z4 z0 z1 x4 y0 y1
      have b5 : Below w4.heap.size w4 (w4.alloc (.cells #[] 118)).drew := ((Below.refl w4.heap.size w4).alloc (Nat.le_refl _) _).drew
      have W5 := Lib.hid (W4.out.next b5)
      have S5 := Lib.hid (S4.out.below HE.out.pr b5)
      have K5 := Lib.hid (K4.out.below b5)
      have M5 := Lib.hid (mean_went HM.out HF.out W5.out)
      have R5 := Lib.hid (rw_went HR.out HGF.out W5.out)
      generalize (w4.alloc (.cells #[] 118)).drew = w5 at *
      cases bl
      · have HNH : Hid (N + hb (remG L.length g) ≤ 1000000000000) := Lib.hid (by
          have h1 := HN.out
          have h2 := gb_eq c0 hb r
          rw [HRR.out]
          omega)
        have sc := S5.out.srch.cs
        rw [← HKN.out] at sc
        clear b5
        go_wp2_with (go_at_call 53; go_loud (refine (HH.out.hopes _ N g X2 f M S5.out M5.out HG2.out HGD.out HML.out HNH.out).mono ?_; rintro e w6 ⟨b6, rfl, h6, hs6, hw6⟩; rw [HRR.out] at hs6; have T6 := Lib.hid h6; have S6 := Lib.hid hs6; have W6 := Lib.hid (W5.out.trans hw6); have K6 := Lib.hid (line_went K5.out hw6 HNB.out); obtain ⟨x0, -⟩ := hs6.srch.cs; rw [← HKN.out] at x0; clear h6 hs6 hw6))
        · have HFN := Lib.hid (HDV.out (T6.out (by first | rfl | assumption | simp_all)))
          have SF := Lib.hid (S6.out.mono (show N + hb r ≤ N + gbF c0 hb r by have := gb_eq c0 hb r; omega))
          go_returns
          exact ⟨none, rfl, HFN.out, SF.out, W6.out⟩
        · have SF6 := Lib.hid (S6.out.mono (Nat.le_add_right (N + hb r) (cntB (fun p => freeB t L g p) (bd t.sh L 0) * gb1 c0 hb r)))
          clear sc x0
          obtain rfl : b6 = true := by simp_all
          simp only [Bool.not_true]
          go_loopw [54] (fun j wr => ∃ p : Nat, p ≤ n2 ∧ j = .int .i64 (p : Int) ∧ SS Good Pr t L wr (N + hb r + cntB (fun p => freeB t L g p) (bd t.sh L p) * gb1 c0 hb r) ∧ Went (fS t) (fS t) w wr ∧ Line1 wr B 116 [.int .u32 (g : Int), .string sb] ∧ NoneTo (sysOf s L) o (bd t.sh L p)) (fun j _ => n2 - (intOf j).toNat)
          case atStart => exact ⟨0, Nat.zero_le _, rfl, SF6.out, W6.out, K6.out, below_first HNM.out⟩
          case round =>
            obtain ⟨p, hp, rfl, hS, hW, hK, hno⟩ := hrel
            have SR := Lib.hid hS
            have WR := Lib.hid hW
            have KR := Lib.hid hK
            have NO := Lib.hid hno
            have MR := Lib.hid (mean_went HM.out HF.out WR.out)
            have RR := Lib.hid (rw_went HR.out HGF.out WR.out)
            by_cases hlt : p < n2
            · have hpl : p < (keptL t.sh L).length := by rw [← HKN.out]; exact hlt
              have hpi : (p : Int) < (n2 : Int) := by omega
              obtain ⟨k, dk, he, hbd, hkl, hLk, hmay0, hnx⟩ := kept_at hpl
              obtain ⟨b, hb9, p0, p1, p2, p3, p4, p5, p6, p7, p8⟩ := kept_ci hS.srch.calls hpl he
              have HKL := Lib.hid hkl
              have HK32 : Hid (k < 32) := Lib.hid (by have := HL24.out; omega)
              have hLe : L[k] = dk := (List.getElem?_eq_some_iff.1 hLk).2
              have HMY : Hid (mayAt t.sh L k = true) := Lib.hid ((may_at hkl).trans ((congrArg (mayC t.sh) hLe).trans hmay0))
              have HNX := Lib.hid hnx
              have HNXT : Hid (Found (sysOf s L) (o ++ [k]) none → NoneTo (sysOf s L) o (bd t.sh L (p + 1))) := Lib.hid (fun h => below_next HNM.out hpl hno (by rw [hbd]; exact h))
              rw [hbd] at SR NO
              have hmay := sys_may (s := s) hkl
              have htel := sys_tells (s := s) (M := M) hkl
              have hste := sys_step (s := s) (M := M) hkl
              have hfof : freeB t L g k = true → Free (sysOf s L) g k := free_of HE.out.masks HE.out.sh HG2.out
              replace hmay := hmay.trans (congrArg (mayC s) hLe)
              replace htel := htel.trans (congrArg (toldC M) hLe)
              replace hste := hste.trans (congrArg (fun c : ClV => nextL s M c.K c.Y) hLe)
              have HSY := Lib.hid (And.intro hmay (And.intro htel (And.intro hste hfof)))
              have hTe := tells_any
              unfold clA at hTe
              have HTE := Lib.hid hTe
              rw [hb9]
              have KB := Lib.hid (⟨new_block wr _ _⟩ : Blk9 (wr.alloc (.cells #[.int .i64 dk.B, .int .i64 dk.D, .int .i64 (k : Int), .int .i64 dk.T, .int .i64 dk.K, .int .i64 dk.Y, .int .i64 dk.C, .bool dk.O, .int .i64 dk.V] 85)) wr.heap.size k dk)
              have bB : Below wr.heap.size wr (wr.alloc (.cells #[.int .i64 dk.B, .int .i64 dk.D, .int .i64 (k : Int), .int .i64 dk.T, .int .i64 dk.K, .int .i64 dk.Y, .int .i64 dk.C, .bool dk.O, .int .i64 dk.V] 85)) := (Below.refl _ _).alloc (Nat.le_refl _) _
              have BB := Lib.hid bB
              have SB2 := Lib.hid (SR.out.below HE.out.pr bB)
              clear hS hW hK hno bB hLk hkl hmay htel hste hfof hTe hpl he hbd hmay0 hnx hLe
              cases hfr : freeB t L g k
              · have HFR := Lib.hid hfr
                have NG : Hid (Found (sysOf s L) (o ++ [k]) none) := Lib.hid (not_free HSND.out (fun h => by
                  have h1 := h.1
                  rw [HGM.out] at h1
                  have := free_free HE.out.masks HE.out.sh HG2.out h1
                  rw [hfr] at this
                  exact absurd this (by decide)))
                clear hfr
                go_wp2_with (go_at_call 54; go_loud (refine (free_any _ t L SB2.out.srch HE.out.masks.small k g HMY.out HG2.out).mono ?_; rintro e w8 ⟨rfl, hb8⟩; rw [HFR.out]; have B8 := Lib.hid (past BB.out hb8); have K8 := Lib.hid (KB.out.below hb8); clear hb8))
                have S8 := Lib.hid (SR.out.below HE.out.pr B8.out)
                have W8 := Lib.hid (WR.out.next B8.out)
                have KS8 := Lib.hid (KR.out.below B8.out)
                go_roundw
                case rel => exact ⟨p + 1, by omega, by go_num, S8.out.mono (Nat.add_le_add_left (Nat.mul_le_mul_right _ (cnt_le _ (Nat.le_of_succ_le HNX.out))) _), W8.out, KS8.out, HNXT.out NG.out⟩
                case measure => simp [intOf]; omega
              · have HFR := Lib.hid hfr
                cases htb : (rightB s dk.K dk.Y && toldC M dk)
                · have HTB := Lib.hid htb
                  have NG : Hid (Found (sysOf s L) (o ++ [k]) none) := Lib.hid (not_free HSND.out (fun h => by
                    have h1 := h.1.may
                    have h2 := h.2
                    rw [HMr.out, HSY.out.2.1] at h2
                    rw [HSY.out.1] at h1
                    unfold mayC at h1
                    rw [Bool.and_eq_true] at h1
                    rw [h1.1, h2] at htb
                    exact absurd htb (by decide)))
                  clear hfr htb
                  go_wp2_with (first
                    | (go_at_call 36; have _t := M9.out; go_loud (refine (HTE.out _ X3 f3 s M M9.out (by have := HML.out; omega) HGD.out k dk).mono ?_; rintro e w10 ⟨f4, rfl, ha⟩; rw [HTB.out]; obtain ⟨hb10, hn10⟩ := asked_below B9.out N9.out ha; have B10 := Lib.hid hb10; have N10 := Lib.hid hn10; have M10 := Lib.hid ha.mean; have K10 : Hid (Blk9 w10 wr.heap.size k dk) := Lib.hid ⟨(ha.went.block _ K9.out.lt NF9.out).trans K9.out.box⟩; clear ha hb10 hn10))
                    | (go_at_call 55; have _t := B8.out; go_loud (refine (copy_any _ X2 f s M (MR.out.below B8.out) (by have := HML.out; omega)).mono ?_; rintro e w9 ⟨X3, f3, rfl, hm9, hn9, hb9⟩; have M9 := Lib.hid hm9; have N9 : Hid (∀ b, f3 b → wr.heap.size ≤ b) := Lib.hid (fun b hb => Nat.le_trans B8.out.size (hn9 b hb)); have B9 := Lib.hid (past B8.out hb9); have K9 := Lib.hid (K8.out.below hb9); have NF9 : Hid (¬ f3 wr.heap.size) := Lib.hid (fun h => by have h1 := hn9 _ h; have h2 := K8.out.lt; omega); obtain ⟨e0, e1, e2, e3, e4, e5, e6, e7, e8⟩ := K9.out.cells; clear hm9 hn9 hb9))
                    | (go_at_call 54; go_loud (refine (free_any _ t L SB2.out.srch HE.out.masks.small k g HMY.out HG2.out).mono ?_; rintro e w8 ⟨rfl, hb8⟩; rw [HFR.out]; have B8 := Lib.hid (past BB.out hb8); have K8 := Lib.hid (KB.out.below hb8); clear hb8)))
                  have S8 := Lib.hid (SR.out.below HE.out.pr B10.out)
                  have W8 := Lib.hid (WR.out.next B10.out)
                  have KS8 := Lib.hid (KR.out.below B10.out)
                  go_roundw
                  case rel => exact ⟨p + 1, by omega, by go_num, S8.out.mono (Nat.add_le_add_left (Nat.mul_le_mul_right _ (cnt_le _ (Nat.le_of_succ_le HNX.out))) _), W8.out, KS8.out, HNXT.out NG.out⟩
                  case measure => simp [intOf]; omega
                · have HTB := Lib.hid htb
                  have hrb : rightB s dk.K dk.Y = true := by
                    rw [Bool.and_eq_true] at htb
                    exact htb.1
                  have htl : toldC M dk = true := by
                    rw [Bool.and_eq_true] at htb
                    exact htb.2
                  have hfree := HSY.out.2.2.2 hfr
                  have hok2 : (sysOf s L).Ok (o ++ [k]) := ok_snoc.2 ⟨HOK.out.1, free_fit HSND.out (by rw [HGM.out]; exact HOK.out.2) (by rw [HGM.out]; exact hfree) (by rw [HMr.out, HSY.out.2.1]; exact htl)⟩
                  have hmk : maskL (o ++ [k]) = withG g k := by rw [mask_snoc, HGM.out]
                  have hcl2 : Closed (sysOf s L) (maskL (o ++ [k])) := by rw [mask_snoc, HGM.out]; exact HOK.out.2.next hfree
                  have hrun2 : (sysOf s L).run (o ++ [k]) = nextL s M dk.K dk.Y := by rw [run_snoc, HMr.out, HSY.out.2.2.1]
                  obtain ⟨r', hr1, hr2⟩ := rem_succ HKL.out hfree.new HRR.out
                  have hgb : gb1 c0 hb r = gbF c0 hb r' := by unfold gb1; rw [hr1, if_pos (by omega)]; rfl
                  have hcs : cntB (fun p => freeB t L g p) (k + 1) = cntB (fun p => freeB t L g p) k + 1 := by rw [cnt_succ, if_pos hfr]
                  have hcle : cntB (fun p => freeB t L g p) (k + 1) ≤ c0 := Nat.le_trans (cnt_le _ HKL.out) (HE.out.frees g HG2.out)
                  have hml := Nat.mul_le_mul_right (gb1 c0 hb r) hcle
                  have hge := gb_eq c0 hb r
                  have hN1 : N + hb r + cntB (fun p => freeB t L g p) k * gb1 c0 hb r + gbF c0 hb r' = N + hb r + cntB (fun p => freeB t L g p) (k + 1) * gb1 c0 hb r := by rw [hcs, Nat.add_mul, Nat.one_mul, hgb]; omega
                  have HN1 := Lib.hid hN1
                  have HN2 : Hid (N + hb r + cntB (fun p => freeB t L g p) (k + 1) * gb1 c0 hb r ≤ N + gbF c0 hb r) := Lib.hid (by omega)
                  have HN3 : Hid (N + hb r + cntB (fun p => freeB t L g p) k * gb1 c0 hb r + gbF c0 hb r' ≤ 1000000000000) := Lib.hid (by have := HN.out; have := HN2.out; omega)
                  have HI := Lib.hid (HIH.out r' (by omega))
                  have HR2 := Lib.hid (show remG L.length (maskL (o ++ [k])) = r' by rw [hmk]; exact hr2)
                  have HOK2 := Lib.hid hok2
                  have HCL2 := Lib.hid hcl2
                  have HMK2 := Lib.hid hmk
                  have HRU2 := Lib.hid hrun2
                  have HRB := Lib.hid hrb
                  have HLE : Hid ((o ++ [k]).length = n + 1) := Lib.hid (by rw [List.length_append, HON.out]; rfl)
                  clear hfr htb hrb htl hfree hok2 hmk hcl2 hrun2 hr1 hr2 hgb hcs hcle hml hge hN1
                  go_upto_region 14 with (first
                    | (go_at_call 36; have _t := M9.out; go_loud (refine (HTE.out _ X3 f3 s M M9.out (by have := HML.out; omega) HGD.out k dk).mono ?_; rintro e w10 ⟨f4, rfl, ha⟩; rw [HTB.out]; obtain ⟨hb10, hn10⟩ := asked_below B9.out N9.out ha; have B10 := Lib.hid hb10; have N10 := Lib.hid hn10; have M10 := Lib.hid ha.mean; have K10 : Hid (Blk9 w10 wr.heap.size k dk) := Lib.hid ⟨(ha.went.block _ K9.out.lt NF9.out).trans K9.out.box⟩; clear ha hb10 hn10))
                    | (go_at_call 55; have _t := B8.out; go_loud (refine (copy_any _ X2 f s M (MR.out.below B8.out) (by have := HML.out; omega)).mono ?_; rintro e w9 ⟨X3, f3, rfl, hm9, hn9, hb9⟩; have M9 := Lib.hid hm9; have N9 : Hid (∀ b, f3 b → wr.heap.size ≤ b) := Lib.hid (fun b hb => Nat.le_trans B8.out.size (hn9 b hb)); have B9 := Lib.hid (past B8.out hb9); have K9 := Lib.hid (K8.out.below hb9); have NF9 : Hid (¬ f3 wr.heap.size) := Lib.hid (fun h => by have h1 := hn9 _ h; have h2 := K8.out.lt; omega); obtain ⟨e0, e1, e2, e3, e4, e5, e6, e7, e8⟩ := K9.out.cells; clear hm9 hn9 hb9))
                    | (go_at_call 54; go_loud (refine (free_any _ t L SB2.out.srch HE.out.masks.small k g HMY.out HG2.out).mono ?_; rintro e w8 ⟨rfl, hb8⟩; rw [HFR.out]; have B8 := Lib.hid (past BB.out hb8); have K8 := Lib.hid (KB.out.below hb8); clear hb8)))
                  have hnc : n ≤ c := by
                    have hl : (intsL o).length = n := by unfold intsL; rw [List.length_map, HON.out]
                    rcases RR.out with ⟨_, h1, h2⟩ | ⟨_, _, h1⟩
                    · rw [h2] at hl; simp at hl; omega
                    · have := h1.len; omega
                  have hncI : (n : Int) ≤ (c : Int) := by omega
                  have hn0I : (0 : Int) ≤ (n : Int) := by omega
                  have S10 := Lib.hid (SR.out.below HE.out.pr B10.out)
                  have W10 := Lib.hid (WR.out.next B10.out)
                  have KS10 := Lib.hid (KR.out.below B10.out)
                  have R10 := Lib.hid (RR.out.below B10.out)
                  have hm10 := M10.out
                  rw [HRB.out, if_pos rfl, ← HRU2.out] at hm10
                  have MM := Lib.hid hm10
                  have bD : Below w10.heap.size w10 (w10.drew.alloc (.cells #[.int .i64 (k : Int)] 3)) := ((Below.refl w10.heap.size w10).drew).alloc (Nat.le_refl _) _
                  have hp1 : (w10.drew.alloc (.cells #[.int .i64 (k : Int)] 3)).cell? ⟨w10.heap.size, 0, none⟩ = some (.int .i64 (k : Int)) := by
                    have := new_block w10.drew #[.int .i64 (k : Int)] 3
                    exact (Joins.cell_of_block (i := 0) this).trans rfl
                  obtain ⟨c7, w7, hrun, hrw7, hb7⟩ := grow_one (w10.drew.alloc (.cells #[.int .i64 (k : Int)] 3)) 29 (intsL o) (k : Int) G c w10.heap.size A (R10.out.below bD) n (by unfold intsL; rw [List.length_map, HON.out]) (by omega) hp1
                  have BD := Lib.hid (past bD hb7)
                  have hsz7 : (w10.drew.alloc (.cells #[.int .i64 (k : Int)] 3)).heap.size = w10.heap.size + 1 := by simp
                  rw [hsz7] at hrun hrw7
                  have HRUN := Lib.hid hrun
                  have hrun2 : (Builtin.append_ #[29, 29] 29 #[.slice A n n, .slice (some ⟨w10.heap.size, 0, none⟩) 1 1]).run Tryz.prog (w10.alloc (.cells #[.int .i64 (k : Int)] 3)).drew = .ok (.slice (some ⟨w10.heap.size + 1, 0, none⟩) (n + 1) c7) w7 := hrun
                  have HRUN2 := Lib.hid hrun2
                  clear hrun2
                  have S7 := Lib.hid (S10.out.below HE.out.pr BD.out)
                  have W7 := Lib.hid (W10.out.next BD.out)
                  have KS7 := Lib.hid (KS10.out.below BD.out)
                  have M7 := Lib.hid (MM.out.below BD.out)
                  have HRW : Hid (Rw w7 (w10.heap.size + 1) (some ⟨w10.heap.size + 1, 0, none⟩) c7 (intsL (o ++ [k]))) := Lib.hid (by unfold intsL at hrw7 ⊢; rw [List.map_append]; exact hrw7)
                  have HNG : Hid (¬ fS t (w10.heap.size + 1)) := Lib.hid (fun e => by
                    have h1 := SR.out.dlt
                    have h2 := HE.out.rlt wr SR.out.pr
                    have h3 := B10.out.size
                    rcases e with e | e <;> omega)
                  have HF4 : Hid (∀ b, f4 b → ¬ fS t b) := Lib.hid (fun b hb e => by
                    have h0 := N10.out b hb
                    have h1 := SR.out.dlt
                    have h2 := HE.out.rlt wr SR.out.pr
                    rcases e with e | e <;> omega)
                  have NFW : Hid (¬ fS t wr.heap.size) := Lib.hid (fun e => by
                    have h1 := SR.out.dlt
                    have h2 := HE.out.rlt wr SR.out.pr
                    rcases e with e | e <;> omega)
                  have K7 := Lib.hid (K10.out.below BD.out)
                  obtain ⟨RG, hRG⟩ : ∃ RG : Value → World → Prop, RG = (fun ru w' => ∃ u v, ru = Value.tuple #[u, v] ∧ ∃ res, GoTold (.returned (.tuple #[u, v])) w' res ∧ Found (sysOf s L) (o ++ [k]) res ∧ SS Good Pr t L w' (N + hb r + cntB (fun p => freeB t L g p) (k + 1) * gb1 c0 hb r) ∧ Went (fS t) (fS t) w w' ∧ Line1 w' B 116 [.int .u32 (g : Int), .string sb] ∧ w'.cell? ⟨wr.heap.size, 2, none⟩ = some (.int .i64 (k : Int))) := ⟨_, rfl⟩
                  have HGO : Hid (Calls Tryz.prog 31 #[.pointer (some ⟨t.X, 0, none⟩), .pointer (some ⟨X3, 0, none⟩), .int .u32 (withG g k : Nat), .slice (some ⟨w10.heap.size + 1, 0, none⟩) (n + 1) c7] w7 fun e w' => ∃ ru, e = .returned ru ∧ RG ru w') := Lib.hid (by
                    have hc := HI.out w7 _ X3 (w10.heap.size + 1) c7 (n + 1) f4 (some ⟨w10.heap.size + 1, 0, none⟩) (o ++ [k]) S7.out HOK2.out HCL2.out HR2.out HN3.out M7.out HF4.out HRW.out (fun _ => HNG.out) HLE.out
                    rw [HMK2.out] at hc
                    refine hc.mono fun e w' ⟨res, h1, h2, h3, h4⟩ => ?_
                    rw [HN1.out] at h3
                    rw [hRG]
                    have h5 := line_went KS7.out h4 HNB.out
                    have h6 := W7.out.trans h4
                    have h9 : w'.cell? ⟨wr.heap.size, 2, none⟩ = some (.int .i64 (k : Int)) := (World.cell?_of_block (w := w7) (h4.block _ K7.out.lt NFW.out)).trans K7.out.cells.2.2.1
                    cases res with
                    | none => exact ⟨_, h1, _, _, rfl, none, rfl, h2, h3, h6, h5, h9⟩
                    | some rr =>
                      obtain ⟨A', c', G', h7, h8⟩ := h1
                      exact ⟨_, h7, _, _, rfl, some rr, ⟨A', c', G', rfl, h8⟩, h2, h3, h6, h5, h9⟩)
                  have HRG := Lib.hid hRG
                  clear hm10 bD hp1 hrun hrw7 hb7 hsz7 hRG
                  go_cut [17, 18] (fun u v wx => ∃ res, GoTold (.returned (.tuple #[u, v])) wx res ∧ Found (sysOf s L) (o ++ [k]) res ∧ SS Good Pr t L wx (N + hb r + cntB (fun p => freeB t L g p) (k + 1) * gb1 c0 hb r) ∧ Went (fS t) (fS t) w wx ∧ Line1 wx B 116 [.int .u32 (g : Int), .string sb])
                  case first =>
                    have b10 : Below w10.heap.size w10 w10.drew := (Below.refl _ _).drew
                    have c10 : w10.drew.cell? ⟨wr.heap.size, 2, none⟩ = some (.int .i64 (k : Int)) := (K10.out.below b10).cells.2.2.1
                    have c11 : (w10.drew.alloc (.cells #[.int .i64 (k : Int)] 3)).cell? ⟨wr.heap.size, 2, none⟩ = some (.int .i64 (k : Int)) := (K10.out.below ((Below.refl w10.heap.size w10).drew.alloc (Nat.le_refl _) _)).cells.2.2.1
                    have c7' : w7.cell? ⟨wr.heap.size, 2, none⟩ = some (.int .i64 (k : Int)) := (K10.out.below BD.out).cells.2.2.1
                    clear b10 p0 p1 p2 p3 p4 p5 p6 p7 p8 e0 e1 e2 e3 e4 e5 e6 e7 e8
                    go_region_held3 (fun wx => wx.cell? ⟨wr.heap.size, 2, none⟩ = some (.int .i64 (k : Int))) (first | exact c10 | exact c11 | exact c7' | exact c8' | go_keep) (first
                      | (refine quiet.step_known rfl (.tmp 82) (.tmp 85) 29 rfl (.slice A n n) (.slice (some ⟨w10.heap.size, 0, none⟩) 1 1) (.slice (some ⟨w10.heap.size + 1, 0, none⟩) (n + 1) c7) w7 rfl rfl HRUN.out ?_)
                      | (go_at_call 31; go_loud (refine HGO.out.mono ?_; rintro e w8 ⟨ru, rfl, hR0⟩; rw [HRG.out] at hR0; obtain ⟨u, v, rfl, hres⟩ := hR0; obtain ⟨res, r1, r2, r3, r4, r5, c8'⟩ := hres; have HRES := Lib.hid (⟨res, r1, r2, r3, r4, r5⟩ : ∃ res, _ ∧ _ ∧ _ ∧ _ ∧ _); clear r1 r2 r3 r4 r5))
                      | (go_at_call 56; go_loud (refine (with_any _ g k HG2.out HK32.out).mono ?_; rintro e w9' ⟨rfl, hw⟩; subst hw)))
                    all_goals
                      go_wp2_with fail
                      go_meet
                      exact HRES.out
                  case rest =>
                    obtain ⟨res, h1, h2, h3, h4, h5⟩ := hcut
                    have F2 := Lib.hid h2
                    have S3 := Lib.hid h3
                    have W3 := Lib.hid h4
                    have K3 := Lib.hid h5
                    clear h2 h3 h4 h5
                    cases res with
                    | none =>
                      have h6 := Ending.returned.inj h1
                      simp at h6
                      obtain ⟨rfl, rfl⟩ := h6
                      clear h1
                      go_wp2
                      go_roundw
                      case rel => exact ⟨p + 1, by omega, by go_num, S3.out.mono (Nat.add_le_add_left (Nat.mul_le_mul_right _ (cnt_le _ HNX.out)) _), W3.out, K3.out, HNXT.out F2.out⟩
                      case measure => simp [intOf]; omega
                    | some rr =>
                      obtain ⟨A', c', G', h1, h8⟩ := h1
                      have h6 := Ending.returned.inj h1
                      simp at h6
                      obtain ⟨rfl, rfl⟩ := h6
                      have H8 := Lib.hid h8
                      have HB := Lib.hid (best_next NO.out (by rw [HGM.out]; exact HNW.out) F2.out)
                      clear h1 h8
                      go_wp2
                      go_returns
                      exact ⟨some rr, ⟨A', c', G', rfl, H8.out⟩, HB.out, S3.out.mono HN2.out, W3.out⟩
            · have hkn : bd t.sh L p = L.length := by rw [show p = n2 by omega, HKN.out, bd_all]
              have HFN : Hid (Found (sysOf s L) o none) := Lib.hid (none_all (by rw [hkn] at hno; exact hno) (by rw [HGM.out]; exact HNW.out))
              have HBT : Hid (N + hb r + cntB (fun p => freeB t L g p) (bd t.sh L p) * gb1 c0 hb r + 1 ≤ N + gbF c0 hb r) := Lib.hid (by
                have h1 := HE.out.frees g HG2.out
                have h2 := Nat.mul_le_mul_right (gb1 c0 hb r) h1
                have h3 := gb_eq c0 hb r
                rw [hkn]
                omega)
              have SD := SR.out.below HE.out.pr ((Below.refl wr.heap.size wr).drew)
              obtain ⟨w7, hrun, hs7, hw7⟩ := SD.put HE.out.pr HE.out.apart (by have := HBT.out; have := HN.out; unfold maxLen; omega) HG2.out HMK.out (by have := HML.out; omega) (HFV.out HFN.out)
              rw [HMap.out] at hrun
              have S7 := Lib.hid (hs7.mono HBT.out)
              have W7 := Lib.hid (((WR.out.next ((Below.refl wr.heap.size wr).drew))).trans hw7)
              have x4 : wr.cell? ⟨t.X, 4, none⟩ = some (.map (some t.D)) := SR.out.srch.cs.2.2.2.2.1
              have y0 : wr.cell? ⟨B, 0, none⟩ = some (.int .u32 (g : Int)) := KR.out.cell 0
              have y1 : wr.cell? ⟨B, 1, none⟩ = some (.string sb) := KR.out.cell 1
              clear hkn hS hW hK hno SD hs7 hw7
              go_wp2
              go_region_with (fail)
              all_goals
                go_wp2
                go_returns
                exact ⟨none, rfl, HFN.out, S7.out, W7.out⟩
      · have HFN := Lib.hid (HDV.out (HD.out rfl))
        have SF := Lib.hid (S5.out.mono (Nat.le_add_right N (gbF c0 hb r)))
        go_wp2
        go_returns
        exact ⟨none, rfl, HFN.out, SF.out, W5.out⟩
  · have HCV := Lib.hid hcb
    have HW : Hid (Best (sysOf s L) o o) := Lib.hid (found_whole ho (hcv.1 hcb))
    have SF := Lib.hid (hS.mono (Nat.le_add_right N (gbF c0 hb r)))
    have HR := Lib.hid hR
    have HLN := Lib.hid hn
    clear hcb hcv hS ho hcl hr hN hMe hf hR hG hn hg hE ih hH
    go_enter Tryz.func31, Tryz.ntmps31
    go_wp2_with (go_at_call 51; go_loud (refine (covers_any _ (maskL o) t.mu HG2.out HMU.out).mono ?_; rintro e w1 ⟨rfl, hw⟩; subst hw; rw [HCV.out]))
    go_returns
    exact ⟨some o, ⟨A, c, G, by rw [HLN.out]; rfl, HR.out⟩, HW.out, SF.out, Went.refl _ _⟩
end
end Go.Proofs.YtmpilokgbblonaaGreat.lin
