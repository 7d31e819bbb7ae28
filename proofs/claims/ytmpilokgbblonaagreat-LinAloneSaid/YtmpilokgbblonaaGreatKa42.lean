/- A stack's search, whole: can all Takes that have to still come to stand? -/
import Derived.Test.YtmpilokgbblonaaGreatKa41
import Derived.Deep.DeepCutAuto
namespace Go.Proofs.YtmpilokgbblonaaGreat.lin
open Go.RowKit Go.Maps
open hist (ClV befB past new_block Went At cells9 len9 Blk9)
open spec (Rw Row)
section
variable {t : SP} {L : List ClV} {m c0 : Nat}
theorem pb_mono1 (m c : Nat) : ∀ r, pbF m c r ≤ pbF m c (r + 1)
  | 0 => by show 1 ≤ 1 + c; omega
  | 1 => by
    show 1 + c ≤ 1 + m * 1 + c * (1 + c)
    rw [Nat.mul_add]
    omega
  | r + 2 => by
    show 1 + m * pbF m c r + c * pbF m c (r + 1) ≤ 1 + m * pbF m c (r + 1) + c * pbF m c (r + 2)
    have h1 := Nat.mul_le_mul_left m (pb_mono1 m c r)
    have h2 : c * pbF m c (r + 1) ≤ c * pbF m c (r + 2) := Nat.mul_le_mul_left c (pb_mono1 m c (r + 1))
    omega
theorem pb_mono (m c : Nat) {r r' : Nat} (h : r ≤ r') : pbF m c r ≤ pbF m c r' := by
  induction h with
  | refl => exact Nat.le_refl _
  | step _ ih => exact Nat.le_trans ih (pb_mono1 m c _)
theorem level_any (hE : EnvS t L m c0) : ∀ r, LevelOK t L r ∧ PairsOK t L r := fun r => by
  induction r using Nat.strongRecOn with
  | ind r ih =>
    have hp := pairs_step hE r fun r' h => (ih r' h).1
    exact ⟨level_step hE r fun r' h => (Nat.lt_or_eq_of_le h).elim (fun h => (ih r' h).2) (fun h => h ▸ hp), hp⟩
/-- Pairs were asked for. -/
theorem ss_pairs (ha : Apart t) {w w' : World} {N : Nat} (h : SS (GS L) (PrS t L) t L w N) (hp : PS (fun b => b = t.D) t L w') (hw : Went (fR t) (fR t) w w') : SS (GS L) (PrS t L) t L w' N ∧ Went (fS t) (fS t) w w' := by
  obtain ⟨h1, ⟨n, T, h2, h3⟩, h4⟩ := h
  exact ⟨⟨hp.srch, ⟨n, T, h2, h3.moved (hw.block _ h3.lt (fun e => ha.dr e))⟩, hp.pairs⟩, ⟨hw.os, hw.tape, hw.output, hw.size, fun b hb hf => hw.block b hb (fun e => hf (Or.inr e)), fun _ h => Or.inl h⟩⟩
/-- A row of pairs stays. -/
theorem row_stays {w w' : World} {A : Option Addr} {c : Nat} {l : List Nat} (h : URw w A c l) (hp : PrS t L w) (hn : ∀ a, A = some a → ¬ a.block = t.D) (hw : Went (fS t) (fS t) w w') : URw w' A c l := h.moved fun a ha hl => hw.block _ hl fun e => by
  rcases e with e | e
  · exact hn a ha e
  · obtain ⟨T, Ks, h2⟩ := hp
    obtain ⟨es, k, hb, _⟩ := h2.own
    exact h.not_map ha hb e
/-- A call that can be the next one. -/
def CallGood (L : List ClV) (g : Nat) (M : List Int) (q : Nat) : Prop := Free (sysOf 4 L) g q ∧ PopsP L q (withG g q) M
theorem not_popped (hE : EnvS t L m c0) {g : Nat} (hg : g < 4294967296) (M : List Int) (hc : coversB g t.tk = false) (h1 : ∀ y, PG L g y → ¬ GS L y M) (h2 : ∀ i, i < L.length → ¬ CallGood L g M i) : ¬ GS L g M := fun hq => by
  have hm : ∃ i, i < (sysOf 4 L).n ∧ (sysOf 4 L).must i = true ∧ g.testBit i = false := by
    refine Classical.byContradiction fun hno => ?_
    have : coversB g t.tk = true := (coversB_iff hE.masks.small.tk hg).2 fun i hi => by
      obtain ⟨h1, h2, _⟩ := (hE.masks.tk i).1 hi
      cases hb : g.testBit i
      · exact absurd ⟨i, h1, h2, hb⟩ hno
      · rfl
    rw [hc] at this
    exact absurd this (by decide)
  rcases goodS_next (bags (Or.inr rfl)) (fun i M hm ht => step_stack M hm ht) hq hm with ⟨y, hp, hy⟩ | ⟨p, ht, hf, hy⟩ | ⟨p, ht, hf, rfl, hmi, hy⟩ | ⟨p, x, M', ht, hf, rfl, hx, hs, hy⟩
  · exact h1 y hp hy
  · exact h2 p hf.lt ⟨hf, (popsP_put ht).2 hy⟩
  · exact h2 p hf.lt ⟨hf, (popsP_nil ht).2 ⟨hmi, hy⟩⟩
  · exact h2 p hf.lt ⟨hf, (popsP_hit ht).2 ⟨hx, hs, hy⟩⟩
theorem kind_of {k : Nat} {dk : ClV} (hLk : L[k]? = some dk) (h : mayAt 4 L k = true) : dk.K = 4 ∨ dk.K = 5 := by
  cases ht : takeAt L k
  · obtain ⟨hi, h4, _⟩ := put_at (L := L) (Or.inr rfl) h ht
    rw [(List.getElem?_eq_some_iff.1 hLk).2] at h4
    exact Or.inl h4
  · rw [take_at hLk] at ht
    exact Or.inr (of_decide_eq_true ht)
theorem free_false (w : World) (h : Srch w t L) (hs : Small t L) (i g : Nat) (hi : mayAt t.sh L i = true) (hg : g < 4294967296) (hf : freeB t L g i = false) :
    Calls Tryz.prog 54 #[.pointer (some ⟨t.X, 0, none⟩), .int .i64 (i : Int), .int .u32 (g : Int)] w fun e w' => e = .returned (.bool false) ∧ Below w.heap.size w w' :=
  (free_any w t L h hs i g hi hg).mono fun e w' ⟨h1, h2⟩ => ⟨by rw [h1, hf], h2⟩
theorem sq_cells {W w : World} {k : Nat} {d : ClV} (h : Sq W w t L k d) : w.cell? ⟨W.heap.size, 0, none⟩ = some (.int .i64 d.B) ∧ w.cell? ⟨W.heap.size, 1, none⟩ = some (.int .i64 d.D) ∧ w.cell? ⟨W.heap.size, 2, none⟩ = some (.int .i64 (k : Int)) ∧ w.cell? ⟨W.heap.size, 3, none⟩ = some (.int .i64 d.T) ∧ w.cell? ⟨W.heap.size, 4, none⟩ = some (.int .i64 d.K)
    ∧ w.cell? ⟨W.heap.size, 5, none⟩ = some (.int .i64 d.Y) ∧ w.cell? ⟨W.heap.size, 6, none⟩ = some (.int .i64 d.C) ∧ w.cell? ⟨W.heap.size, 7, none⟩ = some (.bool d.O) ∧ w.cell? ⟨W.heap.size, 8, none⟩ = some (.int .i64 d.V) := h.blk.cells
set_option maxRecDepth 100000 in
set_option maxHeartbeats 4000000 in
theorem popped_step (hE : EnvS t L m c0) (r : Nat) (ih : ∀ r', r' < r → PoppedOK t L m c0 r') : PoppedOK t L m c0 r := by
  intro w N g G c A M n hS hr hN hg hR hG hn hn1 hM
  obtain ⟨s0, s1, s2, s3, s4, s5⟩ := hS.srch.cs
  have HE := Lib.hid hE
  have HG2 := Lib.hid hg
  have HTK := Lib.hid hE.masks.small.tk
  cases hcv : coversB g t.tk
  · have HCV := Lib.hid hcv
    have HS := Lib.hid hS
    have HR := Lib.hid hR
    have HGF := Lib.hid hG
    have HML := Lib.hid hn
    have HMK := Lib.hid hM
    have HN := Lib.hid hN
    have HRR := Lib.hid hr
    have HIH := Lib.hid ih
    have HPA := Lib.hid (level_any hE r).2
    have HOK := Lib.hid (prS_ok (L := L) hE.apart)
    have HFIN := Lib.hid (not_popped hE hg M hcv)
    have HPB := Lib.hid (pb_eq m c0 r)
    have HL := Lib.hid hn1
    have hkl0 : (keptL t.sh L).length ≤ L.length := kept_len _
    obtain ⟨n2, hn2⟩ : ∃ n2, n2 = (keptL t.sh L).length := ⟨_, rfl⟩
    have HKN := Lib.hid hn2
    have HL24 : Hid (L.length ≤ 24) := Lib.hid hE.masks.small.n24
    have hl0 : (n2 : Int) ≤ 24 := by have := hE.masks.small.n24; omega
    have HNM : Hid (∀ j, mayAt t.sh L j = false → ¬ CallGood L g M j) := Lib.hid (fun j hj h => by
      have h1 : mayAt 4 L j = true := h.1.may
      rw [← hE.sh, hj] at h1
      exact absurd h1 (by decide))
    have HMap : Hid (∀ g' : Nat, stA g' M = .agg #[.int .u32 (g' : Int), .string (runesBytes M)]) := Lib.hid (fun _ => rfl)
    generalize hsb : runesBytes M = sb at *
    have HSB := Lib.hid hsb
    clear hcv hS hR hG hn hM hN hr ih hE hn1 hn2 hsb hkl0
    go_enter Tryz.func66, Tryz.ntmps66
    go_upto_region 4 with (first
      | (go_at_call 52; have _t := T1.out; go_loud (refine (stateOf_any _ g G c A M HR.out n HML.out HL.out HMK.out).mono ?_; rintro e w2 ⟨rfl, hb2⟩; rw [HMap.out]; have B2 := Lib.hid hb2; have S2 := Lib.hid (HS.out.below HOK.out hb2); clear hb2))
      | (go_at_call 51; go_loud (refine (covers_any _ g t.tk HG2.out HTK.out).mono ?_; rintro e w1 ⟨rfl, hw⟩; subst hw; rw [HCV.out]; have T1 := Lib.hid (Eq.refl 0))))
    have bA : Below w2.heap.size w2 (w2.alloc (.cells #[.int .u32 (g : Int), .string sb] 116)) := (Below.refl _ _).alloc (Nat.le_refl _) _
    have W3 := Lib.hid (Went.ofBelow (f := fS t) (past B2.out bA))
    have S3 := Lib.hid (S2.out.below HOK.out bA)
    have K3 := Lib.hid (⟨new_block w2 _ _⟩ : Line1 (w2.alloc (.cells #[.int .u32 (g : Int), .string sb] 116)) w2.heap.size 116 [.int .u32 (g : Int), .string sb])
    have hB3 : Below w.heap.size w (w2.alloc (.cells #[.int .u32 (g : Int), .string sb] 116)) := past B2.out bA
    have HNB : Hid (¬ fS t w2.heap.size) := Lib.hid (fun e => by
      have h1 := S2.out.dlt
      have h2 := prS_lt S2.out.pr
      rcases e with e | e <;> omega)
    generalize w2.alloc (.cells #[.int .u32 (g : Int), .string sb] 116) = w3 at *
    generalize w2.heap.size = B at *
    clear bA B2 S2 hB3
    obtain ⟨bl, hlook, hdead⟩ := S3.out.look HG2.out HMK.out (by rw [HML.out]; exact HL.out)
    rw [HMap.out] at hlook
    have HD := Lib.hid hdead
    have lk1 := hlook w3.drew rfl
    have lk2 := hlook (w3.drew.alloc (.cells #[] 118)) (((Below.refl w3.drew.heap.size w3.drew).alloc (Nat.le_refl _) _).block _ S3.out.dlt)
    have x4 : w3.cell? ⟨t.X, 4, none⟩ = some (.map (some t.D)) := S3.out.srch.cs.2.2.2.2.1
    have y0 : w3.cell? ⟨B, 0, none⟩ = some (.int .u32 (g : Int)) := K3.out.cell 0
    have y1 : w3.cell? ⟨B, 1, none⟩ = some (.string sb) := K3.out.cell 1
    clear hlook hdead
    have z4 : (w3.drew.alloc (.cells #[] 118)).cell? ⟨t.X, 4, none⟩ = some (.map (some t.D)) := (((Below.refl w3.drew.heap.size w3.drew).alloc (Nat.le_refl _) _).cell (World.block_lt_of_cell? _ _ x4)).trans x4
    have z0 : (w3.drew.alloc (.cells #[] 118)).cell? ⟨B, 0, none⟩ = some (.int .u32 (g : Int)) := (((Below.refl w3.drew.heap.size w3.drew).alloc (Nat.le_refl _) _).cell (World.block_lt_of_cell? _ _ y0)).trans y0
    have z1 : (w3.drew.alloc (.cells #[] 118)).cell? ⟨B, 1, none⟩ = some (.string sb) := (((Below.refl w3.drew.heap.size w3.drew).alloc (Nat.le_refl _) _).cell (World.block_lt_of_cell? _ _ y1)).trans y1
    go_cut [9] (fun v wx => v = .bool bl ∧ wx = (w3.alloc (.cells #[] 118)).drew)
    case first =>
      go_region_held3 (fun wx => wx.cell? ⟨t.X, 4, none⟩ = some (.map (some t.D)) ∧ wx.cell? ⟨B, 0, none⟩ = some (.int .u32 (g : Int)) ∧ wx.cell? ⟨B, 1, none⟩ = some (.string sb) ∧ (Instr.lookup 109 (.map (some t.D)) (.agg #[.int .u32 (g : Int), .string sb]) true).run Tryz.prog wx = .ok (.tuple #[.agg #[], .bool bl]) wx) (first | exact ⟨x4, y0, y1, lk1⟩ | exact ⟨z4, z0, z1, lk2⟩ | go_keep) (fail)
      all_goals
        go_wp2_with fail
        go_meet
        exact ⟨rfl, rfl⟩
    case rest =>
      obtain ⟨rfl, rfl⟩ := hcut
      clear lk1 lk2 z4 z0 z1 x4 y0 y1
      have b4 : Below w3.heap.size w3 (w3.alloc (.cells #[] 118)).drew := ((Below.refl w3.heap.size w3).alloc (Nat.le_refl _) _).drew
      have W4 := Lib.hid (W3.out.next b4)
      have S4 := Lib.hid (S3.out.below HOK.out b4)
      have K4 := Lib.hid (K3.out.below b4)
      generalize (w3.alloc (.cells #[] 118)).drew = w4 at *
      cases bl
      · clear b4
        go_upto_region 8 with (go_at_call 78; go_loud (refine (HPA.out _ w4 g ⟨S4.out.srch, S4.out.pr⟩ (fun b hb => by rw [hb]; exact S4.out.dlt) HRR.out HG2.out).mono ?_; rintro e w5 ⟨A5, l, c5, rfl, hrow, hno, hok, hps, hw⟩; have SW := Lib.hid (ss_pairs HE.out.apart S4.out hps hw); have R5 := Lib.hid hrow; have N5 := Lib.hid hno; have O5 := Lib.hid hok; clear hrow hno hok hps hw))
        obtain ⟨nl, hnl⟩ : ∃ nl, nl = l.length := ⟨_, rfl⟩
        have HNL := Lib.hid hnl
        have HLM : Hid (nl ≤ m) := Lib.hid (by rw [hnl]; exact HE.out.rows g l O5.out)
        have hnl1 : (nl : Int) ≤ 16777216 := by
          have h1 := O5.out.le
          have h2 : 2 ^ L.length ≤ 2 ^ 24 := Nat.pow_le_pow_right (by decide) HL24.out
          have h3 : (2 : Nat) ^ 24 = 16777216 := by decide
          omega
        have K5 := Lib.hid (line_went K4.out SW.out.2 HNB.out)
        have W5 := Lib.hid (W4.out.trans SW.out.2)
        rw [← hnl]
        clear hnl
        go_loopw [37] (fun j wr => ∃ p : Nat, p ≤ nl ∧ j = .int .i64 (p : Int) ∧ SS (GS L) (PrS t L) t L wr (N + p * pb2 m c0 r) ∧ Went (fS t) (fS t) w wr ∧ Line1 wr B 116 [.int .u32 (g : Int), .string sb] ∧ URw wr A5 c5 l ∧ ∀ i, i < p → ¬ GS L (l.getD i 0) M) (fun j _ => nl - (intOf j).toNat)
        case atStart => exact ⟨0, Nat.zero_le _, rfl, SW.out.1.mono (Nat.le_add_right _ _), W5.out, K5.out, R5.out, fun i hi => absurd hi (by omega)⟩
        case round =>
          obtain ⟨p, hp, rfl, hS, hW, hK, hU, hno⟩ := hrel
          have SR := Lib.hid hS
          have WR := Lib.hid hW
          have KR := Lib.hid hK
          have UR := Lib.hid hU
          have NO := Lib.hid hno
          by_cases hlt : p < nl
          · have hpi : (p : Int) < (nl : Int) := by omega
            have hpl : p < l.length := by rw [← HNL.out]; exact hlt
            obtain ⟨y, hy⟩ : ∃ y, y = l.getD p 0 := ⟨_, rfl⟩
            have HYD := Lib.hid hy
            have hyl : y ∈ l := by rw [hy, List.getD_eq_getElem?_getD, List.getElem?_eq_getElem hpl]; exact List.getElem_mem _
            have hpr := pair_rem ((O5.out.2 y).1 hyl)
            have HY32 : Hid (y < 4294967296) := Lib.hid (hpr.2.2 HL24.out HG2.out)
            obtain ⟨gA, oA, rfl, hur⟩ : ∃ gA oA, A5 = some ⟨gA, oA, none⟩ ∧ URow wr gA oA l.length l := by
              rcases hU with ⟨_, _, e⟩ | h
              · rw [e] at hpl; simp at hpl
              · exact h
            have ck := hur.cell hpl
            rw [← hy] at ck
            have hb2 : pbF m c0 (remG L.length y) ≤ pb2 m c0 r := by
              have h1 := HRR.out
              have h2 := hpr.2.1
              unfold pb2
              rw [if_pos (by omega)]
              exact pb_mono m c0 (by omega)
            have hml : (p + 1) * pb2 m c0 r ≤ m * pb2 m c0 r := Nat.mul_le_mul_right _ (by have := HLM.out; omega)
            rw [Nat.add_mul, Nat.one_mul] at hml
            have HRY : Hid (remG L.length y < r) := Lib.hid (by have h1 := HRR.out; have h2 := hpr.2.1; omega)
            have HNY : Hid (N + p * pb2 m c0 r + pbF m c0 (remG L.length y) ≤ 1000000000000) := Lib.hid (by have h1 := HN.out; have h2 := HPB.out; omega)
            have HN1 : Hid (N + p * pb2 m c0 r + pbF m c0 (remG L.length y) ≤ N + pbF m c0 r) := Lib.hid (by have h2 := HPB.out; omega)
            have HN2 : Hid (N + p * pb2 m c0 r + pbF m c0 (remG L.length y) ≤ N + (p + 1) * pb2 m c0 r) := Lib.hid (by rw [Nat.add_mul, Nat.one_mul]; omega)
            have HRW := Lib.hid (rw_went HR.out HGF.out WR.out)
            clear hS hW hK hU hno hy hyl hpr hur hpl hb2 hml
            go_wp2_with (go_at_call 66; go_loud (refine (HIH.out _ HRY.out wr _ y G c A M n SR.out rfl HNY.out HY32.out HRW.out HGF.out HML.out HL.out HMK.out).mono ?_; rintro e w6 ⟨b6, rfl, hb6, hs6, hw6⟩; have T6 := Lib.hid hb6; have S6 := Lib.hid hs6; have W6 := Lib.hid (WR.out.trans hw6); have K6 := Lib.hid (line_went KR.out hw6 HNB.out); have U6 := Lib.hid (row_stays UR.out SR.out.pr N5.out hw6); clear hb6 hs6 hw6))
            · go_returns
              exact ⟨true, rfl, fun h => absurd h (by decide), S6.out.mono HN1.out, W6.out⟩
            case roundEnd =>
              have NG : Hid (¬ GS L y M) := Lib.hid (T6.out (by first | rfl | assumption))
              exact ⟨⟨p + 1, by omega, by go_num, S6.out.mono HN2.out, W6.out, K6.out, U6.out, fun i hi => by
                by_cases e : i = p
                · subst e; rw [← HYD.out]; exact NG.out
                · exact NO.out i (by omega)⟩, by simp [intOf]; omega⟩
          · have HPG : Hid (∀ y, PG L g y → ¬ GS L y M) := Lib.hid (fun y hy => by
              obtain ⟨i, hi, hyi⟩ := List.getElem_of_mem ((O5.out.2 y).2 hy)
              have h1 := hno i (by have := HNL.out; omega)
              rwa [List.getD_eq_getElem?_getD, List.getElem?_eq_getElem hi, hyi] at h1)
            have S7 : Hid (SS (GS L) (PrS t L) t L wr (N + m * pb2 m c0 r)) := Lib.hid (SR.out.mono (Nat.add_le_add_left (Nat.mul_le_mul_right _ (Nat.le_trans hp HLM.out)) _))
            have sc := S7.out.srch.cs
            rw [← HKN.out] at sc
            obtain ⟨x0, -⟩ := sc
            clear hS hW hK hU hno
            go_wp2
            clear x0
            go_loopw [51] (fun j wr => ∃ p : Nat, p ≤ n2 ∧ j = .int .i64 (p : Int) ∧ SS (GS L) (PrS t L) t L wr (N + m * pb2 m c0 r + cntB (fun p => freeB t L g p) (bd t.sh L p) * pb1 m c0 r) ∧ Went (fS t) (fS t) w wr ∧ Line1 wr B 116 [.int .u32 (g : Int), .string sb] ∧ ∀ q, q < bd t.sh L p → ¬ CallGood L g M q) (fun j _ => n2 - (intOf j).toNat)
            case atStart => exact ⟨0, Nat.zero_le _, rfl, S7.out.mono (Nat.le_add_right _ _), WR.out, KR.out, below_first HNM.out⟩
            case round =>
              obtain ⟨p, hp, rfl, hS, hW, hK, hno⟩ := hrel
              have SR := Lib.hid hS
              have WR := Lib.hid hW
              have KR := Lib.hid hK
              have NO := Lib.hid hno
              by_cases hlt : p < n2
              · have hpl : p < (keptL t.sh L).length := by rw [← HKN.out]; exact hlt
                have hpi : (p : Int) < (n2 : Int) := by omega
                obtain ⟨k, dk, he, hbd, hkl, hLk, hmay, hnx⟩ := kept_at hpl
                obtain ⟨b, hb9, p0, p1, p2, p3, p4, p5, p6, p7, p8⟩ := kept_ci hS.srch.calls hpl he
                have HLK := Lib.hid hLk
                have hLe : L[k] = dk := (List.getElem?_eq_some_iff.1 hLk).2
                have HMY : Hid (mayAt t.sh L k = true) := Lib.hid (by rw [may_at hkl, hLe]; exact hmay)
                have HKK : Hid (dk.K = 4 ∨ dk.K = 5) := Lib.hid (kind_of hLk (by rw [← HE.out.sh]; exact HMY.out))
                have HKL := Lib.hid hkl
                have HK32 : Hid (k < 32) := Lib.hid (by have := HL24.out; omega)
                have HNX := Lib.hid hnx
                have HNXT : Hid (¬ CallGood L g M k → ∀ q, q < bd t.sh L (p + 1) → ¬ CallGood L g M q) := Lib.hid (fun h => below_next HNM.out hpl hno (by rw [hbd]; exact h))
                rw [hbd] at SR
                rw [hb9]
                have KB := Lib.hid (⟨new_block wr _ _⟩ : Blk9 (wr.alloc (.cells #[.int .i64 dk.B, .int .i64 dk.D, .int .i64 (k : Int), .int .i64 dk.T, .int .i64 dk.K, .int .i64 dk.Y, .int .i64 dk.C, .bool dk.O, .int .i64 dk.V] 85)) wr.heap.size k dk)
                have bB : Below wr.heap.size wr (wr.alloc (.cells #[.int .i64 dk.B, .int .i64 dk.D, .int .i64 (k : Int), .int .i64 dk.T, .int .i64 dk.K, .int .i64 dk.Y, .int .i64 dk.C, .bool dk.O, .int .i64 dk.V] 85)) := (Below.refl _ _).alloc (Nat.le_refl _) _
                have SB2 := Lib.hid (SR.out.below HOK.out bB)
                have WB2 := Lib.hid (WR.out.next bB)
                have K2 := Lib.hid (KR.out.below bB)
                have C0 : Sq wr (wr.alloc (.cells #[.int .i64 dk.B, .int .i64 dk.D, .int .i64 (k : Int), .int .i64 dk.T, .int .i64 dk.K, .int .i64 dk.Y, .int .i64 dk.C, .bool dk.O, .int .i64 dk.V] 85)) t L k dk := ⟨bB, KB.out, SB2.out.srch⟩
                clear hS hW hK hno hLk hkl hpl he hbd hmay hnx hLe
                cases hfr : freeB t L g k
                · have HFR := Lib.hid hfr
                  have NG : Hid (¬ CallGood L g M k) := Lib.hid (fun h => by
                    have := free_free HE.out.masks HE.out.sh HG2.out h.1
                    rw [hfr] at this
                    exact absurd this (by decide))
                  have PF : ∀ wx : World, Srch wx t L → Calls Tryz.prog 54 #[.pointer (some ⟨t.X, 0, none⟩), .int .i64 (k : Int), .int .u32 (g : Int)] wx fun e w' => e = .returned (.bool false) ∧ Below wx.heap.size wx w' := fun wx h => free_false wx h HE.out.masks.small k g HMY.out HG2.out HFR.out
                  clear hfr
                  go_wp2
                  refine quiet.region (C := fun wx => Sq wr wx t L k dk) (C0.next ((Below.refl _ _).drew)) (by kernel_rfl) (by kernel_rfl) ?_
                  repeat (first
                    | go_big_quiet_skip
                    | (go_big_quiet_want; go_big_quiet_op; go_big_quiet_on)
                    | (refine BigFrame.wpQuiet_want (by rfl) (fun K hK => ?_)
                       apply Exists.intro
                       refine ⟨fun wx hwx => ?_, hK _ ?_⟩
                       · have hx := sq_cells hwx
                         go_split_ands
                         go_simp
                         first | rfl | (with_reducible refine quiet.call (PF wx hwx.srch) ?_; exact fun _ hb => Sq.next hwx hb)
                       clear hK K
                       simp only [Act.put, List.setIfInBounds_toArray, List.set_cons_zero, List.set_cons_succ]))
                  refine wpQuiet_nil ?_
                  intro w6 hq6
                  have S6 := Lib.hid (SR.out.below HOK.out hq6.below)
                  have W6 := Lib.hid (WR.out.next hq6.below)
                  have K6 := Lib.hid (KR.out.below hq6.below)
                  clear hq6
                  go_wp2
                  go_roundw
                  case rel => exact ⟨p + 1, by omega, by go_num, S6.out.mono (Nat.add_le_add_left (Nat.mul_le_mul_right _ (cnt_le _ (Nat.le_of_succ_le HNX.out))) _), W6.out, K6.out, HNXT.out NG.out⟩
                  case measure => simp [intOf]; omega
                · have HFR := Lib.hid hfr
                  have HFREE : Hid (Free (sysOf 4 L) g k) := Lib.hid (free_of HE.out.masks HE.out.sh HG2.out hfr)
                  have hrem := free_rem HFREE.out
                  have hb1 : pb1 m c0 r = pbF m c0 (r - 1) := by unfold pb1; rw [if_pos (by have := HRR.out; omega)]
                  have HR1 : Hid (remG L.length (withG g k) = r - 1 ∧ r - 1 < r) := Lib.hid (by have := HRR.out; omega)
                  have hcs : cntB (fun p => freeB t L g p) (k + 1) = cntB (fun p => freeB t L g p) k + 1 := by rw [cnt_succ, if_pos hfr]
                  have hcle : cntB (fun p => freeB t L g p) k + 1 ≤ c0 := by
                    rw [← hcs]
                    exact Nat.le_trans (cnt_le _ HKL.out) (HE.out.frees g HG2.out)
                  have hml := Nat.mul_le_mul_right (pb1 m c0 r) hcle
                  rw [Nat.add_mul, Nat.one_mul] at hml
                  have HNK : Hid (N + m * pb2 m c0 r + cntB (fun p => freeB t L g p) k * pb1 m c0 r + pbF m c0 (r - 1) ≤ 1000000000000) := Lib.hid (by have h1 := HN.out; have h2 := HPB.out; omega)
                  have HN1 : Hid (N + m * pb2 m c0 r + cntB (fun p => freeB t L g p) k * pb1 m c0 r + pbF m c0 (r - 1) ≤ N + pbF m c0 r) := Lib.hid (by have h2 := HPB.out; omega)
                  have HN2 : Hid (N + m * pb2 m c0 r + cntB (fun p => freeB t L g p) k * pb1 m c0 r + pbF m c0 (r - 1) ≤ N + m * pb2 m c0 r + cntB (fun p => freeB t L g p) (bd t.sh L (p + 1)) * pb1 m c0 r) := Lib.hid (Nat.le_trans (show _ ≤ N + m * pb2 m c0 r + cntB (fun p => freeB t L g p) (k + 1) * pb1 m c0 r by rw [hcs, Nat.add_mul, Nat.one_mul]; omega) (Nat.add_le_add_left (Nat.mul_le_mul_right _ (cnt_le _ HNX.out)) _))
                  have HGK := Lib.hid (with_lt HG2.out HK32.out)
                  have NGF : Hid (¬ PopsP L k (withG g k) M → ¬ CallGood L g M k) := Lib.hid (fun h1 h2 => h1 h2.2)
                  have HSV := @pops_any t L m c0 HE.out (r - 1) (HIH.out _ HR1.out.2)
                  unfold clA at HSV
                  have HSV2 := Lib.hid HSV
                  have HNF : Hid (¬ fS t wr.heap.size) := Lib.hid (fun e => by
                    have h1 := SR.out.dlt
                    have h2 := prS_lt SR.out.pr
                    rcases e with e | e <;> omega)
                  have bD : Below wr.heap.size wr ((wr.alloc (.cells #[.int .i64 dk.B, .int .i64 dk.D, .int .i64 (k : Int), .int .i64 dk.T, .int .i64 dk.K, .int .i64 dk.Y, .int .i64 dk.C, .bool dk.O, .int .i64 dk.V] 85)).drew) := bB.drew
                  have SD := Lib.hid (SR.out.below HOK.out bD)
                  have WD := Lib.hid (WR.out.next bD)
                  have KD : Hid (Blk9 ((wr.alloc (.cells #[.int .i64 dk.B, .int .i64 dk.D, .int .i64 (k : Int), .int .i64 dk.T, .int .i64 dk.K, .int .i64 dk.Y, .int .i64 dk.C, .bool dk.O, .int .i64 dk.V] 85)).drew) wr.heap.size k dk) := Lib.hid ⟨KB.out.box⟩
                  have KS := Lib.hid (KR.out.below bD)
                  clear hfr hrem hb1 hcs hcle hml HSV bB bD
                  go_wp2
                  go_region_held3 (fun wx => wx.cell? ⟨wr.heap.size, 0, none⟩ = some (.int .i64 dk.B) ∧ wx.cell? ⟨wr.heap.size, 1, none⟩ = some (.int .i64 dk.D) ∧ wx.cell? ⟨wr.heap.size, 2, none⟩ = some (.int .i64 (k : Int)) ∧ wx.cell? ⟨wr.heap.size, 3, none⟩ = some (.int .i64 dk.T) ∧ wx.cell? ⟨wr.heap.size, 4, none⟩ = some (.int .i64 dk.K) ∧ wx.cell? ⟨wr.heap.size, 5, none⟩ = some (.int .i64 dk.Y) ∧ wx.cell? ⟨wr.heap.size, 6, none⟩ = some (.int .i64 dk.C) ∧ wx.cell? ⟨wr.heap.size, 7, none⟩ = some (.bool dk.O) ∧ wx.cell? ⟨wr.heap.size, 8, none⟩ = some (.int .i64 dk.V)) (first | exact B7.out.cells | exact B5.out.cells | exact KD.out.cells | go_keep) (first
                    | (go_at_call 79; have _t := T6.out; go_loud (refine (HSV2.out _ _ (withG g k) G c k n A M S5.out HR1.out.1 HNK.out HGK.out (rw_went HR.out HGF.out W5b.out) HGF.out HML.out HL.out HMK.out dk HLK.out HKK.out).mono ?_; rintro e w7 ⟨b7, rfl, hb7, hs7, hw7⟩; have T7 := Lib.hid hb7; have S8 := Lib.hid hs7; have W7 := Lib.hid (W5b.out.trans hw7); have B7 : Hid (Blk9 w7 wr.heap.size k dk) := Lib.hid ⟨(hw7.block _ B5.out.lt HNF.out).trans B5.out.box⟩; have K7 := Lib.hid (line_went K5b.out hw7 HNB.out); clear hb7 hs7 hw7))
                    | (go_at_call 56; have _t := S5.out; go_loud (refine (with_any _ g k HG2.out HK32.out).mono ?_; rintro e w6 ⟨rfl, hw⟩; subst hw; have T6 := Lib.hid (Eq.refl 0)))
                    | (go_at_call 54; go_loud (refine (free_any _ t L SD.out.srch HE.out.masks.small k g HMY.out HG2.out).mono ?_; rintro e w5' ⟨rfl, hb5⟩; rw [HFR.out]; have S5 := Lib.hid (SD.out.below HOK.out hb5); have W5b := Lib.hid (WD.out.next hb5); have B5 := Lib.hid (KD.out.below hb5); have K5b := Lib.hid (KS.out.below hb5); clear hb5)))
                  go_wp2
                  · go_returns
                    exact ⟨true, rfl, fun h => absurd h (by decide), S8.out.mono HN1.out, W7.out⟩
                  case roundEnd =>
                    have NG : Hid (¬ CallGood L g M k) := Lib.hid (NGF.out (T7.out (by first | rfl | assumption)))
                    exact ⟨⟨p + 1, by omega, by go_num, S8.out.mono HN2.out, W7.out, K7.out, HNXT.out NG.out⟩, by simp [intOf]; omega⟩
              · have hkn : bd t.sh L p = L.length := by rw [show p = n2 by omega, HKN.out, bd_all]
                have HF := Lib.hid (HFIN.out HPG.out (fun q hq => NO.out q (by rw [hkn]; exact hq)))
                have HBT : Hid (N + m * pb2 m c0 r + cntB (fun p => freeB t L g p) (bd t.sh L p) * pb1 m c0 r + 1 ≤ N + pbF m c0 r) := Lib.hid (by
                  have h1 := HE.out.frees g HG2.out
                  have h2 := Nat.mul_le_mul_right (pb1 m c0 r) h1
                  have h3 := HPB.out
                  rw [hkn]
                  omega)
                have SD := SR.out.below HOK.out ((Below.refl wr.heap.size wr).drew)
                obtain ⟨w7, hrun, hs7, hw7⟩ := SD.put HOK.out HE.out.apart (by have := HBT.out; have := HN.out; unfold maxLen; omega) HG2.out HMK.out (by rw [HML.out]; exact HL.out) HF.out
                rw [HMap.out] at hrun
                have S7 := Lib.hid (hs7.mono HBT.out)
                have W7 := Lib.hid (((WR.out.next ((Below.refl wr.heap.size wr).drew))).trans hw7)
                have x4 : wr.cell? ⟨t.X, 4, none⟩ = some (.map (some t.D)) := SR.out.srch.cs.2.2.2.2.1
                have y0 : wr.cell? ⟨B, 0, none⟩ = some (.int .u32 (g : Int)) := KR.out.cell 0
                have y1 : wr.cell? ⟨B, 1, none⟩ = some (.string sb) := KR.out.cell 1
                clear hkn hS hW hK hno SD hs7 hw7
                go_wp2
                go_region_with (fail)
                all_goals
                  go_wp2
                  go_returns
                  exact ⟨false, rfl, fun _ => HF.out, S7.out, W7.out⟩
      · have HF := Lib.hid (HD.out rfl)
        have SF := Lib.hid (S4.out.mono (Nat.le_add_right N (pbF m c0 r)))
        go_wp2
        go_returns
        exact ⟨false, rfl, fun _ => HF.out, SF.out, W4.out⟩
  · have HCV := Lib.hid hcv
    have SF := Lib.hid (hS.mono (Nat.le_add_right N (pbF m c0 r)))
    clear hcv hS hR hG hn hM hN hr ih hE hn1
    go_enter Tryz.func66, Tryz.ntmps66
    go_wp2_with (go_at_call 51; go_loud (refine (covers_any _ g t.tk HG2.out HTK.out).mono ?_; rintro e w1 ⟨rfl, hw⟩; subst hw; rw [HCV.out]))
    go_returns
    exact ⟨true, rfl, fun h => absurd h (by decide), SF.out, Went.refl _ _⟩
theorem popped_any (hE : EnvS t L m c0) : ∀ r, PoppedOK t L m c0 r := fun r => by
  induction r using Nat.strongRecOn with
  | ind r ih => exact popped_step hE r ih
end
end Go.Proofs.YtmpilokgbblonaaGreat.lin
