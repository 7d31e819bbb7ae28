/- A queue's search, whole: can all Takes that have to still come to stand? -/
import Derived.Test.YtmpilokgbblonaaGreatKa20
import Derived.Deep.DeepCutAuto
namespace Go.Proofs.YtmpilokgbblonaaGreat.lin
open Go.RowKit Go.Maps
open hist (ClV befB past new_block Went At cells9 len9 Blk9)
open spec (Rw Row)
section
variable {Pr : World → Prop} {t : SP} {L : List ClV} {c0 : Nat}
theorem miss_kind {d : ClV} (h : missB d = true) : d.K = 5 := by
  unfold missB at h
  rw [Bool.and_eq_true, Bool.and_eq_true, decide_eq_true_eq] at h
  exact h.1.1
theorem serves_any (hE : Env Pr t L c0) (r : Nat) (ih : ∀ r', r' < r → ServedOK Pr t L c0 r') (w : World) (N g G c i n : Nat) (A : Option Addr) (M : List Int) (hS : SS (GQ L) Pr t L w N) (hr : remG L.length g = r) (d : ClV) (hN : N + bk1 c0 r d ≤ 1000000000000) (hg : g < 4294967296)
    (hR : Rw w G A c M) (hG : A ≠ none → ¬ fS t G) (hn : M.length = n) (hn1 : n ≤ 1000) (hM : ∀ x ∈ M, keyR x) (hd : L[i]? = some d) (hb : g.testBit i = false) :
    Calls Tryz.prog 77 #[.pointer (some ⟨t.X, 0, none⟩), clA i d, .int .u32 (g : Int), .slice A n c] w (ServeQ Pr t L w (N + bk1 c0 r d) (NQ L g M i)) := by
  have hi : i < L.length := (List.getElem?_eq_some_iff.1 hd).1
  have hdi : L[i] = d := (List.getElem?_eq_some_iff.1 hd).2
  cases M with
  | nil =>
    obtain rfl : n = 0 := hn.symm
    cases hm : missB d
    · exact serves_loop hE r ih w N g c i hS hr d hN hg A hd hb hm
    · have h5 := miss_kind hm
      have e : bk1 c0 r d = sb1 c0 r := if_pos h5
      rw [e] at hN ⊢
      exact serves_miss hE r ih w N g c i hS hr hN hg A d hd hb hm
  | cons m M =>
    obtain ⟨o, rfl, hrow⟩ := hR.row (by simp)
    cases hk : takesB d m
    · refine (serves_other w t g G c o n i m hg (row_head hrow) (by simp at hn; omega) (by have := hE.masks.small.n24; omega) d hk).mono fun e w' ⟨h1, h2⟩ => ⟨false, h1, fun _ h3 => ?_, (hS.below hE.pr h2).mono (Nat.le_add_right _ _), Went.ofBelow h2⟩
      cases h3 with
      | hit _ _ _ h4 _ =>
        rw [suits_at hi, hdi, hk] at h4
        exact absurd h4 (by decide)
    · have h5 := takes_kind hk
      have e : bk1 c0 r d = sb1 c0 r := if_pos h5
      rw [e] at hN ⊢
      exact serves_hit hE r ih w N g G c o n i m M hS hr hN hg hrow (hG (by simp)) (by simpa using hn) hn1 hM d hd hb hk
/-- A Take that can be the next one. -/
def TakeGood (L : List ClV) (g : Nat) (M : List Int) (i : Nat) : Prop := takeAt L i = true ∧ g.testBit i = false ∧ (∀ k, k < L.length → mustAt L k = true → befL L k i = true → takeAt L k = true → g.testBit k = true) ∧ NQ L g M i ∧ mayAt 3 L i = true
theorem not_served (hE : Env Pr t L c0) {g : Nat} (hg : g < 4294967296) (M : List Int) (hc : coversB g t.tk = false) (h : ∀ i, i < L.length → ¬ TakeGood L g M i) : ¬ GQ L g M := fun hq => by
  have hm : ∃ i, i < (sysOf 3 L).n ∧ (sysOf 3 L).must i = true ∧ takeAt L i = true ∧ g.testBit i = false := by
    refine Classical.byContradiction fun hno => ?_
    have : coversB g t.tk = true := (coversB_iff hE.masks.small.tk hg).2 fun i hi => by
      obtain ⟨h1, h2, h3⟩ := (hE.masks.tk i).1 hi
      cases hb : g.testBit i
      · exact absurd ⟨i, h1, h2, by unfold takeAt; rw [h3]; rfl, hb⟩ hno
      · rfl
    rw [hc] at this
    exact absurd this (by decide)
  obtain ⟨i, h1, h2, h3, h4, h5, h6⟩ := goodQ_next (bags (Or.inl rfl)) (fun i M hm ht => step_queue M hm ht) hq hm
  exact h i h1 ⟨h3, h4, h5, h6, h2⟩
theorem take_covers (hE : Env Pr t L c0) {g i : Nat} (hg : g < 4294967296) (hi : mayAt t.sh L i = true) : coversB g (t.am.getD i 0 &&& t.tk) = true ↔ ∀ k, k < L.length → mustAt L k = true → befL L k i = true → takeAt L k = true → g.testBit k = true := by
  rw [coversB_iff (Nat.lt_of_le_of_lt Nat.and_le_left (hE.masks.small.am i)) hg]
  constructor
  · intro h k hk hm hb ht
    refine h k ?_
    rw [Nat.testBit_and, Bool.and_eq_true]
    exact ⟨(hE.masks.am i hi k).2 ⟨hk, hm, hb⟩, (hE.masks.tk k).2 ⟨hk, hm, of_decide_eq_true ht⟩⟩
  · intro h k hk
    rw [Nat.testBit_and, Bool.and_eq_true] at hk
    obtain ⟨h1, h2, h3⟩ := (hE.masks.am i hi k).1 hk.1
    obtain ⟨_, _, h4⟩ := (hE.masks.tk k).1 hk.2
    exact h k h1 h2 h3 (decide_eq_true h4)
theorem suits_take {x : Int} {i : Nat} (h : suitsAt L x i = true) : takeAt L i = true := by
  unfold suitsAt at h
  unfold takeAt kindAt
  cases hi : L[i]? with
  | none => rw [hi] at h; simp at h
  | some c =>
    rw [hi] at h
    exact decide_eq_true (takes_kind h)
theorem miss_take {i : Nat} (h : missAt L i = true) : takeAt L i = true := by
  unfold missAt at h
  unfold takeAt kindAt
  cases hi : L[i]? with
  | none => rw [hi] at h; simp at h
  | some c =>
    rw [hi] at h
    exact decide_eq_true (miss_kind h)
theorem nq_take {g i : Nat} {M : List Int} (h : NQ L g M i) : takeAt L i = true := by
  cases h with
  | hit _ _ _ h4 _ => exact suits_take h4
  | none _ h4 _ _ => exact miss_take h4
  | put _ _ _ _ _ h4 _ => exact suits_take h4
/-- A state's value in a block of its own. -/
abbrev StB (w : World) (B g : Nat) (M : List Int) : Prop := Line1 w B 116 [.int .u32 (g : Int), .string (runesBytes M)]
theorem line_went {f : Nat → Prop} {w w' : World} {B : Nat} {T : TypeId} {vs : List Value} (h : Line1 w B T vs) (hw : Went f f w w') (hB : ¬ f B) : Line1 w' B T vs := h.moved (hw.block B h.lt hB)

set_option maxRecDepth 100000 in
set_option maxHeartbeats 4000000 in
theorem served_step (hE : Env Pr t L c0) (r : Nat) (ih : ∀ r', r' < r → ServedOK Pr t L c0 r') : ServedOK Pr t L c0 r := by
  intro w N g G c A M n hS hr hN hg hR hG hn hn1 hM
  obtain ⟨s0, s1, s2, s3, s4, s5⟩ := hS.srch.cs
  have HE := Lib.hid hE
  have HG2 := Lib.hid hg
  have HTK := Lib.hid hE.masks.small.tk
  cases hcv : coversB g t.tk
  · have HCV := Lib.hid hcv
    have HS := Lib.hid hS
    have HR := Lib.hid hR
    have HGF := Lib.hid hG
    have HML := Lib.hid hn
    have HMK := Lib.hid hM
    have HN := Lib.hid hN
    have HRR := Lib.hid hr
    have HIH := Lib.hid ih
    have HFIN := Lib.hid (not_served hE hg M hcv)
    have HL := Lib.hid hn1
    have hkl0 : (keptL t.sh L).length ≤ L.length := kept_len _
    obtain ⟨nL, hnl⟩ : ∃ nL, nL = L.length := ⟨_, rfl⟩
    have HNN := Lib.hid hnl
    obtain ⟨n2, hn2⟩ : ∃ n2, n2 = (keptL t.sh L).length := ⟨_, rfl⟩
    have HKN := Lib.hid hn2
    have HL24 : Hid (L.length ≤ 24) := Lib.hid hE.masks.small.n24
    have hl0 : (n2 : Int) ≤ 24 := by have := hE.masks.small.n24; omega
    have hl1 : (nL : Int) ≤ 24 := by have := hE.masks.small.n24; omega
    have HNM : Hid (∀ j, mayAt t.sh L j = false → ¬ TakeGood L g M j) := Lib.hid (fun j hj h => by
      have h1 : mayAt 3 L j = true := h.2.2.2.2
      rw [← hE.sh, hj] at h1
      exact absurd h1 (by decide))
    have HMap : Hid (∀ g' : Nat, stA g' M = .agg #[.int .u32 (g' : Int), .string (runesBytes M)]) := Lib.hid (fun _ => rfl)
    generalize hsb : runesBytes M = sb at *
    have HSB := Lib.hid hsb
    clear hcv hS hR hG hn hM hN hr ih hE hn1 hn2 hsb hnl hkl0
    go_enter Tryz.func65, Tryz.ntmps65
    go_upto_region 4 with (first
      | (go_at_call 52; have _t := T1.out; go_loud (refine (stateOf_any _ g G c A M HR.out n HML.out HL.out HMK.out).mono ?_; rintro e w2 ⟨rfl, hb2⟩; rw [HMap.out]; have B2 := Lib.hid hb2; have S2 := Lib.hid (HS.out.below HE.out.pr hb2); clear hb2))
      | (go_at_call 51; go_loud (refine (covers_any _ g t.tk HG2.out HTK.out).mono ?_; rintro e w1 ⟨rfl, hw⟩; subst hw; rw [HCV.out]; have T1 := Lib.hid (Eq.refl 0))))
    have bA : Below w2.heap.size w2 (w2.alloc (.cells #[.int .u32 (g : Int), .string sb] 116)) := (Below.refl _ _).alloc (Nat.le_refl _) _
    have W3 := Lib.hid (Went.ofBelow (f := fS t) (past B2.out bA))
    have S3 := Lib.hid (S2.out.below HE.out.pr bA)
    have K3 := Lib.hid (⟨new_block w2 _ _⟩ : Line1 (w2.alloc (.cells #[.int .u32 (g : Int), .string sb] 116)) w2.heap.size 116 [.int .u32 (g : Int), .string sb])
    have hB3 : Below w.heap.size w (w2.alloc (.cells #[.int .u32 (g : Int), .string sb] 116)) := past B2.out bA
    have R3 := Lib.hid (rw_went HR.out HGF.out W3.out)
    have HNB : Hid (¬ fS t w2.heap.size) := Lib.hid (fun e => by
      have h1 := S2.out.dlt
      have h2 := HE.out.rlt w2 S2.out.pr
      rcases e with e | e <;> omega)
    generalize w2.alloc (.cells #[.int .u32 (g : Int), .string sb] 116) = w3 at *
    generalize w2.heap.size = B at *
    clear bA B2 S2 hB3
    obtain ⟨bl, hlook, hdead⟩ := S3.out.look HG2.out HMK.out (by rw [HML.out]; exact HL.out)
    rw [HMap.out] at hlook
    have HD := Lib.hid hdead
    have lk1 := hlook w3.drew rfl
    have lk2 := hlook (w3.drew.alloc (.cells #[] 118)) (((Below.refl w3.drew.heap.size w3.drew).alloc (Nat.le_refl _) _).block _ S3.out.dlt)
    have x4 : w3.cell? ⟨t.X, 4, none⟩ = some (.map (some t.D)) := S3.out.srch.cs.2.2.2.2.1
    have y0 : w3.cell? ⟨B, 0, none⟩ = some (.int .u32 (g : Int)) := K3.out.cell 0
    have y1 : w3.cell? ⟨B, 1, none⟩ = some (.string sb) := K3.out.cell 1
    clear hlook hdead
    have z4 : (w3.drew.alloc (.cells #[] 118)).cell? ⟨t.X, 4, none⟩ = some (.map (some t.D)) := (((Below.refl w3.drew.heap.size w3.drew).alloc (Nat.le_refl _) _).cell (World.block_lt_of_cell? _ _ x4)).trans x4
    have z0 : (w3.drew.alloc (.cells #[] 118)).cell? ⟨B, 0, none⟩ = some (.int .u32 (g : Int)) := (((Below.refl w3.drew.heap.size w3.drew).alloc (Nat.le_refl _) _).cell (World.block_lt_of_cell? _ _ y0)).trans y0
    have z1 : (w3.drew.alloc (.cells #[] 118)).cell? ⟨B, 1, none⟩ = some (.string sb) := (((Below.refl w3.drew.heap.size w3.drew).alloc (Nat.le_refl _) _).cell (World.block_lt_of_cell? _ _ y1)).trans y1
    go_cut [9] (fun v wx => v = .bool bl ∧ wx = (w3.alloc (.cells #[] 118)).drew)
    case first =>
      go_region_held3 (fun wx => wx.cell? ⟨t.X, 4, none⟩ = some (.map (some t.D)) ∧ wx.cell? ⟨B, 0, none⟩ = some (.int .u32 (g : Int)) ∧ wx.cell? ⟨B, 1, none⟩ = some (.string sb) ∧ (Instr.lookup 109 (.map (some t.D)) (.agg #[.int .u32 (g : Int), .string sb]) true).run Tryz.prog wx = .ok (.tuple #[.agg #[], .bool bl]) wx) (first | exact ⟨x4, y0, y1, lk1⟩ | exact ⟨z4, z0, z1, lk2⟩ | go_keep) (fail)
      all_goals
        go_wp2_with fail
        go_meet
        exact ⟨rfl, rfl⟩
    case rest =>
      obtain ⟨rfl, rfl⟩ := hcut
      clear lk1 lk2 z4 z0 z1 x4 y0 y1
      have b4 : Below w3.heap.size w3 (w3.alloc (.cells #[] 118)).drew := ((Below.refl w3.heap.size w3).alloc (Nat.le_refl _) _).drew
      have W4 := Lib.hid (W3.out.next b4)
      have S4 := Lib.hid (S3.out.below HE.out.pr b4)
      have K4 := Lib.hid (K3.out.below b4)
      have R4 := Lib.hid (R3.out.below b4)
      generalize (w3.alloc (.cells #[] 118)).drew = w4 at *
      cases bl
      · have sc := S4.out.srch.cs
        rw [← HKN.out] at sc
        obtain ⟨x0, -⟩ := sc
        clear b4
        go_wp2
        go_loopw [36] (fun j wr => ∃ p : Nat, p ≤ n2 ∧ j = .int .i64 (p : Int) ∧ SS (GQ L) Pr t L wr (N + cntB (fun p => takeB t L g p) (bd t.sh L p) * sb1 c0 r) ∧ Went (fS t) (fS t) w wr ∧ Line1 wr B 116 [.int .u32 (g : Int), .string sb] ∧ ∀ q, q < bd t.sh L p → ¬ TakeGood L g M q) (fun j _ => n2 - (intOf j).toNat)
        case atStart => exact ⟨0, Nat.zero_le _, rfl, S4.out.mono (Nat.le_add_right _ _), W4.out, K4.out, below_first HNM.out⟩
        case round =>
          obtain ⟨p, hp, rfl, hS, hW, hK, hno⟩ := hrel
          have SR := Lib.hid hS
          have WR := Lib.hid hW
          have KR := Lib.hid hK
          have NO := Lib.hid hno
          by_cases hlt : p < n2
          · have hpl : p < (keptL t.sh L).length := by rw [← HKN.out]; exact hlt
            have hpi : (p : Int) < (n2 : Int) := by omega
            obtain ⟨k, dk, he, hbd, hkl, hLk, hmay, hnx⟩ := kept_at hpl
            have hki : (k : Int) < (nL : Int) := by have := HNN.out; omega
            obtain ⟨b, hb9, p0, p1, p2, p3, p4, p5, p6, p7, p8⟩ := kept_ci hS.srch.calls hpl he
            have HLK := Lib.hid hLk
            have hLe : L[k] = dk := (List.getElem?_eq_some_iff.1 hLk).2
            have HMY : Hid (mayAt t.sh L k = true) := Lib.hid (by rw [may_at hkl, hLe]; exact hmay)
            have HKK := Lib.hid (kind_at hkl)
            rw [hLe] at HKK
            have HKL := Lib.hid hkl
            have HK32 : Hid (k < 32) := Lib.hid (by have := HL24.out; omega)
            have HNX := Lib.hid hnx
            have HNXT : Hid (¬ TakeGood L g M k → ∀ q, q < bd t.sh L (p + 1) → ¬ TakeGood L g M q) := Lib.hid (fun h => below_next HNM.out hpl hno (by rw [hbd]; exact h))
            rw [hbd] at SR
            obtain ⟨a, ha⟩ : ∃ a, t.am.getD k 0 = a := ⟨_, rfl⟩
            have HAA := Lib.hid ha
            clear ha
            rw [hb9]
            have KB := Lib.hid (⟨new_block wr _ _⟩ : Blk9 (wr.alloc (.cells #[.int .i64 dk.B, .int .i64 dk.D, .int .i64 (k : Int), .int .i64 dk.T, .int .i64 dk.K, .int .i64 dk.Y, .int .i64 dk.C, .bool dk.O, .int .i64 dk.V] 85)) wr.heap.size k dk)
            have bB : Below wr.heap.size wr (wr.alloc (.cells #[.int .i64 dk.B, .int .i64 dk.D, .int .i64 (k : Int), .int .i64 dk.T, .int .i64 dk.K, .int .i64 dk.Y, .int .i64 dk.C, .bool dk.O, .int .i64 dk.V] 85)) := (Below.refl _ _).alloc (Nat.le_refl _) _
            have SB2 := Lib.hid (SR.out.below HE.out.pr bB)
            have WB2 := Lib.hid (WR.out.next bB)
            have K2 := Lib.hid (KR.out.below bB)
            have C0 : Sq wr (wr.alloc (.cells #[.int .i64 dk.B, .int .i64 dk.D, .int .i64 (k : Int), .int .i64 dk.T, .int .i64 dk.K, .int .i64 dk.Y, .int .i64 dk.C, .bool dk.O, .int .i64 dk.V] 85)) t L k dk := ⟨bB, KB.out, SB2.out.srch⟩
            clear hS hW hK hno hLk hkl hpl he hbd hmay hnx hLe
            cases hbit : g.testBit k
            · have HBIT := Lib.hid hbit
              have hAM := HE.out.masks.small.am k
              have hTC := take_covers HE.out HG2.out HMY.out
              rw [HAA.out] at hAM hTC
              obtain ⟨m, hm⟩ : ∃ m, m = a &&& t.tk := ⟨_, rfl⟩
              have hAT : bits .and .u32 (a : Int) (t.tk : Int) = (m : Int) := by rw [hm]; exact u32_and_nat _ _ hAM HTK.out
              have HAL : Hid (m < 4294967296) := Lib.hid (by rw [hm]; exact Nat.lt_of_le_of_lt Nat.and_le_left hAM)
              rw [← hm] at hTC
              have HTC := Lib.hid hTC
              have HMM := Lib.hid hm
              clear hTC hAM hm
              cases hcv2 : coversB g m
              · have HCV2 := Lib.hid hcv2
                have NG : Hid (¬ TakeGood L g M k) := Lib.hid (fun h => by
                  have h2 := HTC.out.2 h.2.2.1
                  rw [hcv2] at h2
                  exact absurd h2 (by decide))
                have PH : ∀ wx : World, Calls Tryz.prog 67 #[.int .u32 (g : Int), .int .i64 (k : Int)] wx fun e w' => e = .returned (.bool false) ∧ Below wx.heap.size wx w' := fun wx => has_still wx g k HG2.out HK32.out false HBIT.out
                have PC : ∀ wx : World, Calls Tryz.prog 51 #[.int .u32 (g : Int), .int .u32 (m : Int)] wx fun e w' => e = .returned (.bool false) ∧ Below wx.heap.size wx w' := fun wx => covers_still wx g _ HG2.out HAL.out false HCV2.out
                clear hbit hcv2
                go_wp2
                refine quiet.region (C := fun wx => Sq wr wx t L k dk) (C0.next ((Below.refl _ _).drew)) (by kernel_rfl) (by kernel_rfl) ?_
                repeat (first
                  | go_big_quiet_skip
                  | (go_big_quiet_want; go_big_quiet_op; go_big_quiet_on)
                  | (refine BigFrame.wpQuiet_want (by rfl) (fun K hK => ?_)
                     apply Exists.intro
                     refine ⟨fun wx hwx => ?_, hK _ ?_⟩
                     · have hx := cells12 hwx.blk hwx.srch HKL.out HNN.out HAA.out
                       go_split_ands
                       go_simp
                       first | rfl | (with_reducible refine quiet.call (PH wx) ?_; exact fun _ hb => Sq.next hwx hb) | (with_reducible refine quiet.call (PC wx) ?_; exact fun _ hb => Sq.next hwx hb)
                     clear hK K
                     simp only [Act.put, List.setIfInBounds_toArray, List.set_cons_zero, List.set_cons_succ]))
                refine wpQuiet_nil ?_
                intro w6 hq6
                have S6 := Lib.hid (SR.out.below HE.out.pr hq6.below)
                have W6 := Lib.hid (WR.out.next hq6.below)
                have K6 := Lib.hid (KR.out.below hq6.below)
                clear hq6
                go_wp2
                go_roundw
                case rel => exact ⟨p + 1, by omega, by go_num, S6.out.mono (Nat.add_le_add_left (Nat.mul_le_mul_right _ (cnt_le _ (Nat.le_of_succ_le HNX.out))) _), W6.out, K6.out, HNXT.out NG.out⟩
                case measure => simp [intOf]; omega
              · have HCV2 := Lib.hid hcv2
                have HBN : Hid (N + cntB (fun p => takeB t L g p) k * sb1 c0 r + bk1 c0 r dk ≤ N + cntB (fun p => takeB t L g p) (k + 1) * sb1 c0 r) := Lib.hid (by
                  rw [cnt_succ]
                  unfold bk1
                  split
                  · rename_i h5
                    have htb : takeB t L g k = true := by
                      unfold takeB takeAt
                      rw [HMY.out, hbit, HAA.out, ← HMM.out, hcv2, HKK.out, h5]
                      rfl
                    rw [if_pos htb, Nat.add_mul, Nat.one_mul]
                    omega
                  · have : cntB (fun p => takeB t L g p) k * sb1 c0 r ≤ (cntB (fun p => takeB t L g p) k + if takeB t L g k = true then 1 else 0) * sb1 c0 r := Nat.mul_le_mul_right _ (by omega)
                    omega)
                have HBT : Hid (N + cntB (fun p => takeB t L g p) (k + 1) * sb1 c0 r ≤ N + sbF c0 r) := Lib.hid (by
                  have h1 := Nat.le_trans (cnt_le (fun p => takeB t L g p) (show k + 1 ≤ L.length from HKL.out)) (HE.out.takes g HG2.out)
                  have h2 := Nat.mul_le_mul_right (sb1 c0 r) h1
                  have h3 := sb1_le c0 r
                  omega)
                have HBL : Hid (N + cntB (fun p => takeB t L g p) k * sb1 c0 r + bk1 c0 r dk ≤ 1000000000000) := Lib.hid (by have := HN.out; have := HBN.out; have := HBT.out; omega)
                have HSV := @serves_any Pr t L c0 HE.out r HIH.out
                unfold clA at HSV
                have HSV2 := Lib.hid HSV
                have HTG : Hid (NQ L g M k → TakeGood L g M k) := Lib.hid (fun h => ⟨nq_take h, HBIT.out, HTC.out.1 hcv2, h, by rw [← HE.out.sh]; exact HMY.out⟩)
                clear hbit hcv2 HSV
                go_wp2
                have HNF : Hid (¬ fS t wr.heap.size) := Lib.hid (fun e => by
                  have h1 := SR.out.dlt
                  have h2 := HE.out.rlt wr SR.out.pr
                  rcases e with e | e <;> omega)
                have SD := Lib.hid (SB2.out.below HE.out.pr ((Below.refl (wr.alloc (.cells #[.int .i64 dk.B, .int .i64 dk.D, .int .i64 (k : Int), .int .i64 dk.T, .int .i64 dk.K, .int .i64 dk.Y, .int .i64 dk.C, .bool dk.O, .int .i64 dk.V] 85)).heap.size (wr.alloc (.cells #[.int .i64 dk.B, .int .i64 dk.D, .int .i64 (k : Int), .int .i64 dk.T, .int .i64 dk.K, .int .i64 dk.Y, .int .i64 dk.C, .bool dk.O, .int .i64 dk.V] 85))).drew))
                have WD := Lib.hid (WB2.out.next ((Below.refl (wr.alloc (.cells #[.int .i64 dk.B, .int .i64 dk.D, .int .i64 (k : Int), .int .i64 dk.T, .int .i64 dk.K, .int .i64 dk.Y, .int .i64 dk.C, .bool dk.O, .int .i64 dk.V] 85)).heap.size (wr.alloc (.cells #[.int .i64 dk.B, .int .i64 dk.D, .int .i64 (k : Int), .int .i64 dk.T, .int .i64 dk.K, .int .i64 dk.Y, .int .i64 dk.C, .bool dk.O, .int .i64 dk.V] 85))).drew))
                have KD := Lib.hid (KB.out.below ((Below.refl (wr.alloc (.cells #[.int .i64 dk.B, .int .i64 dk.D, .int .i64 (k : Int), .int .i64 dk.T, .int .i64 dk.K, .int .i64 dk.Y, .int .i64 dk.C, .bool dk.O, .int .i64 dk.V] 85)).heap.size (wr.alloc (.cells #[.int .i64 dk.B, .int .i64 dk.D, .int .i64 (k : Int), .int .i64 dk.T, .int .i64 dk.K, .int .i64 dk.Y, .int .i64 dk.C, .bool dk.O, .int .i64 dk.V] 85))).drew))
                have KS := Lib.hid (K2.out.below ((Below.refl (wr.alloc (.cells #[.int .i64 dk.B, .int .i64 dk.D, .int .i64 (k : Int), .int .i64 dk.T, .int .i64 dk.K, .int .i64 dk.Y, .int .i64 dk.C, .bool dk.O, .int .i64 dk.V] 85)).heap.size (wr.alloc (.cells #[.int .i64 dk.B, .int .i64 dk.D, .int .i64 (k : Int), .int .i64 dk.T, .int .i64 dk.K, .int .i64 dk.Y, .int .i64 dk.C, .bool dk.O, .int .i64 dk.V] 85))).drew))
                go_region_held3 (fun wx => wx.cell? ⟨wr.heap.size, 0, none⟩ = some (.int .i64 dk.B) ∧ wx.cell? ⟨wr.heap.size, 1, none⟩ = some (.int .i64 dk.D) ∧ wx.cell? ⟨wr.heap.size, 2, none⟩ = some (.int .i64 (k : Int)) ∧ wx.cell? ⟨wr.heap.size, 3, none⟩ = some (.int .i64 dk.T) ∧ wx.cell? ⟨wr.heap.size, 4, none⟩ = some (.int .i64 dk.K) ∧ wx.cell? ⟨wr.heap.size, 5, none⟩ = some (.int .i64 dk.Y) ∧ wx.cell? ⟨wr.heap.size, 6, none⟩ = some (.int .i64 dk.C) ∧ wx.cell? ⟨wr.heap.size, 7, none⟩ = some (.bool dk.O) ∧ wx.cell? ⟨wr.heap.size, 8, none⟩ = some (.int .i64 dk.V) ∧ wx.cell? ⟨t.X, 2, none⟩ = some (.int .u32 (t.tk : Int)) ∧ wx.cell? ⟨t.X, 3, none⟩ = some (.slice (some ⟨t.ga, 0, none⟩) nL nL) ∧ wx.cell? ⟨t.ga, k, none⟩ = some (.int .u32 (a : Int))) (first | exact cells12 K6.out S6.out.srch HKL.out HNN.out HAA.out | exact cells12 KD.out SD.out.srch HKL.out HNN.out HAA.out | go_keep) (first
                  | (go_at_call 77; have _t := T2.out; go_loud (refine (HSV2.out _ _ g G c k n A M SD.out HRR.out dk HBL.out HG2.out (rw_went HR.out HGF.out WD.out) HGF.out HML.out HL.out HMK.out HLK.out HBIT.out).mono ?_; rintro e w6 ⟨b6, rfl, hb6, hs6, hw6⟩; have T6 := Lib.hid hb6; have S6 := Lib.hid hs6; have W6 := Lib.hid (WD.out.trans hw6); have K6 : Hid (Blk9 w6 wr.heap.size k dk) := Lib.hid ⟨(hw6.block _ KD.out.lt HNF.out).trans KD.out.box⟩; have KS6 := Lib.hid (line_went KS.out hw6 HNB.out); clear hb6 hs6 hw6))
                  | (go_at_call 51; have _t := T1.out; go_loud (refine (covers_any _ g m HG2.out HAL.out).mono ?_; rintro e w5 ⟨rfl, hw⟩; subst hw; rw [HCV2.out]; have T2 := Lib.hid (Eq.refl 0)))
                  | (go_at_call 67; go_loud (refine (has_any _ g k HG2.out HK32.out).mono ?_; rintro e w5 ⟨rfl, hw⟩; subst hw; rw [HBIT.out]; have T1 := Lib.hid (Eq.refl 0))))
                go_wp2
                · go_returns
                  exact ⟨true, rfl, fun h => absurd h (by decide), S6.out.mono (Nat.le_trans HBN.out HBT.out), W6.out⟩
                case roundEnd =>
                  have NG : Hid (¬ TakeGood L g M k) := Lib.hid (fun h => T6.out (by first | rfl | assumption) h.2.2.2.1)
                  exact ⟨⟨p + 1, by omega, by go_num, S6.out.mono (Nat.le_trans HBN.out (Nat.add_le_add_left (Nat.mul_le_mul_right _ (cnt_le _ HNX.out)) _)), W6.out, KS6.out, HNXT.out NG.out⟩, by simp [intOf]; omega⟩
            · have HBIT := Lib.hid hbit
              have NG : Hid (¬ TakeGood L g M k) := Lib.hid (fun h => by
                have h2 := h.2.1
                rw [hbit] at h2
                exact absurd h2 (by decide))
              have PH : ∀ wx : World, Calls Tryz.prog 67 #[.int .u32 (g : Int), .int .i64 (k : Int)] wx fun e w' => e = .returned (.bool true) ∧ Below wx.heap.size wx w' := fun wx => has_still wx g k HG2.out HK32.out true HBIT.out
              clear hbit
              go_wp2
              refine quiet.region (C := fun wx => Sq wr wx t L k dk) (C0.next ((Below.refl _ _).drew)) (by kernel_rfl) (by kernel_rfl) ?_
              repeat (first
                | go_big_quiet_skip
                | (go_big_quiet_want; go_big_quiet_op; go_big_quiet_on)
                | (refine BigFrame.wpQuiet_want (by rfl) (fun K hK => ?_)
                   apply Exists.intro
                   refine ⟨fun wx hwx => ?_, hK _ ?_⟩
                   · have hx := cells12 hwx.blk hwx.srch HKL.out HNN.out HAA.out
                     go_split_ands
                     go_simp
                     first | rfl | (with_reducible refine quiet.call (PH wx) ?_; exact fun _ hb => Sq.next hwx hb)
                   clear hK K
                   simp only [Act.put, List.setIfInBounds_toArray, List.set_cons_zero, List.set_cons_succ]))
              refine wpQuiet_nil ?_
              intro w6 hq6
              have S6 := Lib.hid (SR.out.below HE.out.pr hq6.below)
              have W6 := Lib.hid (WR.out.next hq6.below)
              have K6 := Lib.hid (KR.out.below hq6.below)
              clear hq6
              go_wp2
              go_roundw
              case rel => exact ⟨p + 1, by omega, by go_num, S6.out.mono (Nat.add_le_add_left (Nat.mul_le_mul_right _ (cnt_le _ (Nat.le_of_succ_le HNX.out))) _), W6.out, K6.out, HNXT.out NG.out⟩
              case measure => simp [intOf]; omega
          · have hkn : bd t.sh L p = L.length := by rw [show p = n2 by omega, HKN.out, bd_all]
            have HF := Lib.hid (HFIN.out (fun q hq => NO.out q (by rw [hkn]; exact hq)))
            have HBT : Hid (N + cntB (fun p => takeB t L g p) (bd t.sh L p) * sb1 c0 r + 1 ≤ N + sbF c0 r) := Lib.hid (by
              have h1 := HE.out.takes g HG2.out
              have h2 := Nat.mul_le_mul_right (sb1 c0 r) h1
              have h3 := sb1_le c0 r
              rw [hkn]
              omega)
            have SD := SR.out.below HE.out.pr ((Below.refl wr.heap.size wr).drew)
            obtain ⟨w7, hrun, hs7, hw7⟩ := SD.put HE.out.pr HE.out.apart (by have := HBT.out; have := HN.out; unfold maxLen; omega) HG2.out HMK.out (by rw [HML.out]; exact HL.out) HF.out
            rw [HMap.out] at hrun
            have S7 := Lib.hid (hs7.mono HBT.out)
            have W7 := Lib.hid (((WR.out.next ((Below.refl wr.heap.size wr).drew))).trans hw7)
            have x4 : wr.cell? ⟨t.X, 4, none⟩ = some (.map (some t.D)) := SR.out.srch.cs.2.2.2.2.1
            have y0 : wr.cell? ⟨B, 0, none⟩ = some (.int .u32 (g : Int)) := KR.out.cell 0
            have y1 : wr.cell? ⟨B, 1, none⟩ = some (.string sb) := KR.out.cell 1
            clear hkn hS hW hK hno SD hs7 hw7
            go_wp2
            go_region_with (fail)
            all_goals
              go_wp2
              go_returns
              exact ⟨false, rfl, fun _ => HF.out, S7.out, W7.out⟩
      · have HF := Lib.hid (HD.out rfl)
        have SF := Lib.hid (S4.out.mono (Nat.le_add_right N (sbF c0 r)))
        go_wp2
        go_returns
        exact ⟨false, rfl, fun _ => HF.out, SF.out, W4.out⟩
  · have HCV := Lib.hid hcv
    have SF := Lib.hid (hS.mono (Nat.le_add_right N (sbF c0 r)))
    clear hcv hS hR hG hn hM hN hr ih hE hn1
    go_enter Tryz.func65, Tryz.ntmps65
    go_wp2_with (go_at_call 51; go_loud (refine (covers_any _ g t.tk HG2.out HTK.out).mono ?_; rintro e w1 ⟨rfl, hw⟩; subst hw; rw [HCV.out]))
    go_returns
    exact ⟨true, rfl, fun h => absurd h (by decide), SF.out, Went.refl _ _⟩
/-- Whatever stands: a queue's search tells false only where nothing goes on. -/
theorem served_any (hE : Env Pr t L c0) : ∀ r, ServedOK Pr t L c0 r := fun r => by
  induction r using Nat.strongRecOn with
  | ind r ih => exact served_step hE r ih
end
end Go.Proofs.YtmpilokgbblonaaGreat.lin
