/- A stack's search: which calls can stand behind these and one pair more. -/
import Derived.Test.YtmpilokgbblonaaGreatKa37
import Derived.Test.YtmpilokgbblonaaGreatKa39
import Derived.Maps.RangeWalk
namespace Go.Proofs.YtmpilokgbblonaaGreat.lin
open Go.RowKit Go.Maps
open hist (ClV befB past new_block Went At cells9 len9 Blk9)

/-- Behind which call it is a pair. -/
def PGb (L : List ClV) (p b x : Nat) : Prop := ∃ t', Free (sysOf 4 L) b t' ∧ takeAt L t' = true ∧ suitsAt L (keyAt L p) t' = true ∧ x = withG b t'
def PGp (L : List ClV) (g p x : Nat) : Prop := takeAt L p = false ∧ Free (sysOf 4 L) g p ∧ ∃ b, LG L (withG g p) b ∧ PGb L p b x
theorem pg_iff {L : List ClV} {g x : Nat} : PG L g x ↔ ∃ p, PGp L g p x := by
  constructor
  · rintro ⟨p, b, t, h1, h2, h3, h4, h5, h6, e⟩
    exact ⟨p, h1, h2, b, h3, t, h4, h5, h6, e⟩
  · rintro ⟨p, h1, h2, b, h3, t, h4, h5, h6, e⟩
    exact ⟨p, b, t, h1, h2, h3, h4, h5, h6, e⟩
def PGt (L : List ClV) (p b q x : Nat) : Prop := Free (sysOf 4 L) b q ∧ takeAt L q = true ∧ suitsAt L (keyAt L p) q = true ∧ x = withG b q
/-- What was found on the way. -/
structure Inp (No : Nat → Prop) (t : SP) (L : List ClV) (g : Nat) (W w : World) (B : Nat) (T : DataW Unit) (F : List Nat) : Prop where
  set : SetM w B T F
  ps : PS No t L w
  went : Went (fR t) (fR t) W w
  loB : W.heap.size ≤ B
  good : ∀ x ∈ F, PG L g x
section
variable {No : Nat → Prop} {t : SP} {L : List ClV} {g : Nat} {W w w' : World} {B : Nat} {T : DataW Unit} {F : List Nat}
theorem Inp.below (h : Inp No t L g W w B T F) (hb : Below w.heap.size w w') : Inp No t L g W w' B T F := ⟨h.set.below hb, h.ps.below hb, h.went.next hb, h.loB, h.good⟩
theorem Inp.asked (h : Inp No t L g W w B T F) (hR : t.R < W.heap.size) (hp : PS No t L w') (hw : Went (fR t) (fR t) w w') : Inp No t L g W w' B T F :=
  ⟨h.set.moved (hw.block _ h.set.lt (fun e => by have := h.loB; have e : B = t.R := e; omega)), hp, h.went.trans hw, h.loB, h.good⟩
theorem Inp.found (h : Inp No t L g W w B T F) (hS : t.X < W.heap.size ∧ t.ga < W.heap.size ∧ t.R < W.heap.size ∧ ∀ b, t.A9 = some b → keptL t.sh L ≠ [] → b.block < W.heap.size) {y : Nat} (hy : y < 4294967296) (hg : PG L g y) :
    ∃ w2 T2, (Instr.mapUpdate 150 (.map (some B)) (gv y) (.agg #[])).run Tryz.prog w = .ok () w2 ∧ Inp No t L g W w2 B T2 (more F y) ∧ w.grownBy w2 (some B) := by
  obtain ⟨w2, T2, hrun, hs2, hg2⟩ := h.set.put hy
  have hWs := h.went.size
  have hb2 : Below W.heap.size w w2 := (Below.refl _ _).grown hg2 hWs (fun j e => by rw [← Option.some.inj e]; exact h.loB)
  have hm : ∃ es k, w.heap[B]? = some (.map es k) := by
    obtain ⟨es, k, h1, _⟩ := h.set.own
    exact ⟨es, k, h1⟩
  refine ⟨w2, T2, hrun, ⟨hs2, h.ps.other (fun b hb hne => hg2.block b hb (fun e => hne (Option.some.inj e))) (by
    have := h.loB
    exact ⟨by omega, by omega, by omega, fun b hb hk => by have := hS.2.2.2 b hb hk; omega⟩) (Or.inr (not_cells hm)), went_low h.went hb2, h.loB, fun x hx => ?_⟩, hg2⟩
  rcases mem_more.1 hx with hx | rfl
  · exact h.good x hx
  · exact hg
/-- A walk over a map goes on. -/
theorem Inp.iter (h : Inp No t L g W w B T F) {RB : Nat} (hR : W.heap.size ≤ RB) (ho : ∃ a b c d, w.heap[RB]? = some (.mapIter a b c d)) (hg : w.grownBy w' (some RB)) : Inp No t L g W w' B T F := by
  obtain ⟨ma, mb, mc, md, ho⟩ := ho
  have hnc : ∀ cur T, w.heap[RB]? ≠ some (.cells cur T (0, 0)) := fun cur T e => by
    rw [ho] at e
    cases e
  have hnm : ∀ es k, w.heap[RB]? ≠ some (.map es k) := fun es k e => by
    rw [ho] at e
    cases e
  have hsame : ∀ b, b < w.heap.size → b ≠ RB → w'.heap[b]? = w.heap[b]? := fun b hb hne => hg.block b hb (fun e => hne (Option.some.inj e))
  have hB : B ≠ RB := fun e => by
    obtain ⟨es, k, h1, _⟩ := h.set.own
    exact hnm es k (e ▸ h1)
  have hP : t.R ≠ RB := fun e => by
    obtain ⟨es, k, h1⟩ := h.ps.rmap
    exact hnm es k (e ▸ h1)
  have hX : t.X ≠ RB := fun e => hnc _ _ (e ▸ h.ps.srch.box.box)
  have hG : t.ga ≠ RB := fun e => hnc _ _ (e ▸ h.ps.srch.row.box)
  refine ⟨h.set.moved (hsame _ h.set.lt hB), ?_, went_low h.went ((Below.refl _ _).grown hg h.went.size (fun j e => by rw [← Option.some.inj e]; exact hR)), h.loB, h.good⟩
  by_cases hK : keptL t.sh L = []
  · exact h.ps.other hsame ⟨Ne.symm hX, Ne.symm hG, Ne.symm hP, fun b _ hk => absurd hK hk⟩ (Or.inr hnc)
  · refine h.ps.other hsame ⟨Ne.symm hX, Ne.symm hG, Ne.symm hP, fun b hb hk e => ?_⟩ (Or.inr hnc)
    have hl : 0 < (keptL t.sh L).length := List.length_pos_iff.2 hk
    obtain ⟨b', e2, hc⟩ := h.ps.srch.calls 0 hl
    rw [hb] at e2
    obtain rfl := Option.some.inj e2
    have h1 := hc 0 _ rfl
    have h2 : (hist.spell b (0 * 9) 0).block = RB := by rw [hist.spell_block]; exact e.symm
    unfold World.cell? at h1
    rw [h2, ho] at h1
    simp at h1
theorem Inp.len_le (h : Inp No t L g W w B T F) (h24 : L.length ≤ 24) : F.length ≤ 16777216 := by
  have h1 := block_le h.set.nodup fun y hy => (pair_rem (h.good y hy)).1
  exact Nat.le_trans h1 (Nat.pow_le_pow_right (by decide) h24 : 2 ^ L.length ≤ 2 ^ 24)
end
theorem ranges_below {w w' : World} {b r n cnt : Nat} {D : DataW Unit} {left : Lit → Bool} (h : w.ranges Tryz.prog 79 unitElem b r n D left cnt) (hb : Below w.heap.size w w') : w'.ranges Tryz.prog 79 unitElem b r n D left cnt :=
  h.kept (row := none) ⟨hb.os, hb.tape, hb.output, hb.size, fun i hi _ => hb.block i hi⟩ (by simp) (by simp)
theorem ranges_iter {w : World} {b r n cnt : Nat} {D : DataW Unit} {left : Lit → Bool} (h : w.ranges Tryz.prog 79 unitElem b r n D left cnt) : ∃ a b c d, w.heap[r]? = some (.mapIter a b c d) := by
  obtain ⟨es, clock, since, seen, c0, _, _, _, _, hr, _⟩ := h
  exact ⟨_, _, _, _, hr⟩
/-- Ahead of the last look: what is read. -/
theorem pairs_cell {w : World} {t : SP} {L : List ClV} (h : Srch w t L) : w.cell? ⟨t.X, 5, none⟩ = some (.map (some t.R)) := h.cs.2.2.2.2.2
section
variable {t : SP} {L : List ClV} {m c0 : Nat}
set_option maxRecDepth 100000 in
set_option maxHeartbeats 4000000 in
theorem pairs_step (hE : EnvS t L m c0) (r : Nat) (ih : ∀ r', r' < r → LevelOK t L r') : PairsOK t L r := by
  intro No w g hS hNo hr hg
  obtain ⟨hsr, T0, Ks, hP⟩ := hS
  have hR := hP.lt
  have hS : PS No t L w := ⟨hsr, T0, Ks, hP⟩
  have HS := Lib.hid hS
  have HP := Lib.hid hP
  have HRL := Lib.hid hR
  have HSZ : Hid (t.X < w.heap.size ∧ t.ga < w.heap.size ∧ t.R < w.heap.size ∧ ∀ b, t.A9 = some b → keptL t.sh L ≠ [] → b.block < w.heap.size) := Lib.hid ⟨hsr.box.lt, hsr.row.lt, hR, fun b hb hk => calls_lt hsr.calls hk hb⟩
  have HNO := Lib.hid hNo
  have HE := Lib.hid hE
  have HG := Lib.hid hg
  have HRR := Lib.hid hr
  have HIH := Lib.hid ih
  have s5 := pairs_cell hsr
  rcases hP.look hg w rfl with ⟨hk, hlk⟩ | ⟨A, l, c, hk, hA, hAn, hok, hlk⟩
  · have HK := Lib.hid hk
    have hmm := @run_makeMap Tryz.prog
    have I1 : Hid (Inp No t L g w (w.alloc (.map #[] 0)) w.heap.size (.map []) []) := Lib.hid ⟨set_made w, hS.below ((Below.refl _ _).alloc (Nat.le_refl _) _), Went.ofBelow ((Below.refl _ _).alloc (Nat.le_refl _) _), Nat.le_refl _, fun x hx => by simp at hx⟩
    obtain ⟨n, hn⟩ : ∃ n, n = (keptL t.sh L).length := ⟨_, rfl⟩
    have HNN := Lib.hid hn
    have hkl0 : (keptL t.sh L).length ≤ L.length := kept_len _
    have HL24 : Hid (L.length ≤ 24) := Lib.hid hE.masks.small.n24
    have hl0 : (n : Int) ≤ 24 := by have := hE.masks.small.n24; omega
    have x0 := I1.out.ps.srch.cs.1
    rw [← hn] at x0
    have HNM : Hid (∀ j, mayAt t.sh L j = false → ¬ ∃ x, PGp L g j x) := Lib.hid (fun j hj h => by
      obtain ⟨x, _, h2, _⟩ := h
      have h1 : mayAt 4 L j = true := h2.may
      rw [← hE.sh, hj] at h1
      exact absurd h1 (by decide))
    clear hS hP hNo hE hg hr ih hsr hk hn hkl0
    go_enter Tryz.func78, Tryz.ntmps78
    go_wp2
    clear x0
    go_loopw [30] (fun j wr => ∃ (p : Nat) (T : DataW Unit) (F : List Nat), p ≤ n ∧ j = .int .i64 (p : Int) ∧ Inp No t L g w wr w.heap.size T F ∧ ∀ q, q < bd t.sh L p → ∀ x, PGp L g q x → x ∈ F) (fun j _ => n - (intOf j).toNat)
    case atStart => exact ⟨0, _, [], Nat.zero_le _, rfl, I1.out, below_first (s := t.sh) fun j hj x hx => absurd ⟨x, hx⟩ (HNM.out j hj)⟩
    case round =>
      obtain ⟨p, T, F, hp, rfl, hI, hD⟩ := hrel
      have HI := Lib.hid hI
      have HD := Lib.hid hD
      by_cases hlt : p < n
      · have hpl : p < (keptL t.sh L).length := by rw [← HNN.out]; exact hlt
        have hpi : (p : Int) < (n : Int) := by omega
        obtain ⟨k, dk, he, hbd, hkl, hLk, hmay, hnx⟩ := kept_at hpl
        obtain ⟨bA, hb9, p0, p1, p2, p3, p4, p5, p6, p7, p8⟩ := kept_ci hI.ps.srch.calls hpl he
        have HA9 := Lib.hid hb9
        have hLe : L[k] = dk := (List.getElem?_eq_some_iff.1 hLk).2
        have HMK : Hid (mayAt t.sh L k = true) := Lib.hid (by rw [may_at hkl, hLe]; exact hmay)
        have HKK := Lib.hid (kind_at hkl)
        have HKY := Lib.hid (key_at hkl)
        rw [hLe] at HKK HKY
        have HNXT : Hid (∀ F' : List Nat, (∀ x ∈ F, x ∈ F') → (∀ x, PGp L g k x → x ∈ F') → ∀ q, q < bd t.sh L (p + 1) → ∀ x, PGp L g q x → x ∈ F') := Lib.hid (fun F' h1 h2 => below_next (P := fun q => ∀ x, PGp L g q x → x ∈ F') (fun j hj x hx => absurd ⟨x, hx⟩ (HNM.out j hj)) hpl (fun q hq x hx => h1 x (hD q hq x hx)) (by rw [hbd]; exact h2))
        rw [hb9]
        have KB := Lib.hid (⟨new_block wr _ _⟩ : Blk9 (wr.alloc (.cells #[.int .i64 dk.B, .int .i64 dk.D, .int .i64 (k : Int), .int .i64 dk.T, .int .i64 dk.K, .int .i64 dk.Y, .int .i64 dk.C, .bool dk.O, .int .i64 dk.V] 85)) wr.heap.size k dk)
        have bB : Below wr.heap.size wr (wr.alloc (.cells #[.int .i64 dk.B, .int .i64 dk.D, .int .i64 (k : Int), .int .i64 dk.T, .int .i64 dk.K, .int .i64 dk.Y, .int .i64 dk.C, .bool dk.O, .int .i64 dk.V] 85)) := (Below.refl _ _).alloc (Nat.le_refl _) _
        have IB := Lib.hid (HI.out.below bB)
        have HKL := Lib.hid hkl
        have HK32 : Hid (k < 32) := Lib.hid (by have := HL24.out; omega)
        have hMs := puts_any
        unfold clA at hMs
        have HPS := Lib.hid hMs
        have HLO : Hid (w.heap.size ≤ wr.heap.size) := Lib.hid hI.went.size
        clear hI hD bB hLk hkl hpl he hbd hmay hnx hLe hMs
        by_cases h4 : dk.K = 4
        · have H4 : Hid (decide (dk.K = 4) = true) := Lib.hid (decide_eq_true h4)
          cases hfr : freeB t L g k
          · have HFR := Lib.hid hfr
            have NG : Hid (∀ x, PGp L g k x → x ∈ F) := Lib.hid (fun x h => by
              have := free_free HE.out.masks HE.out.sh HG.out h.2.1
              rw [hfr] at this
              exact absurd this (by decide))
            clear h4 hfr
            go_wp2_with (first
              | (go_at_call 54; have _t := I3.out; go_loud (refine (free_any _ t L I3.out.ps.srch HE.out.masks.small k g HMK.out HG.out).mono ?_; rintro e w4 ⟨rfl, hb4⟩; rw [HFR.out]; have I4 := Lib.hid (I3.out.below hb4); have K4 := Lib.hid (K3.out.below hb4); obtain ⟨e0, e1, e2, e3, e4, e5, e6, e7, e8⟩ := K4.out.cells; clear hb4))
              | (go_at_call 48; go_loud (refine (HPS.out _ k dk).mono ?_; rintro e w3 ⟨rfl, hb3⟩; rw [H4.out]; have I3 := Lib.hid (IB.out.below hb3); have K3 := Lib.hid (KB.out.below hb3); obtain ⟨e0, e1, e2, e3, e4, e5, e6, e7, e8⟩ := K3.out.cells; clear hb3)))
            go_roundw
            case rel => exact ⟨p + 1, T, F, by omega, by go_num, I4.out, HNXT.out F (fun x h => h) NG.out⟩
            case measure => simp [intOf]; omega
          · have HFR := Lib.hid hfr
            have HFREE : Hid (Free (sysOf 4 L) g k) := Lib.hid (free_of HE.out.masks HE.out.sh HG.out hfr)
            have HTN : Hid (takeAt L k = false) := Lib.hid (by unfold takeAt; rw [HKK.out, h4]; rfl)
            have HRK : Hid (remG L.length (withG g k) < r) := Lib.hid (by have h1 := free_rem HFREE.out; have h2 := HRR.out; omega)
            have HGK := Lib.hid (with_lt HG.out HK32.out)
            have HNB : Hid (∀ b, No b → b < w.heap.size) := HNO
            clear h4 hfr
            go_wp2_with (first
              | (at_range; have _t := I5.out; refine wpList_range_own _ rfl _ 150 rfl 79 118 group_keyed Tryz.underlying150 _ Bl Fl.length Tl rfl SL.out.own ?_; intro w6 hrg6 hg6 hs6)
              | (go_at_call 91; have _t := I4.out; go_loud (refine (HIH.out _ HRK.out No _ (withG g k) I4.out.ps (fun b hb => Nat.lt_of_lt_of_le (HNB.out b hb) I4.out.went.size) rfl HGK.out).mono ?_; rintro e w5 ⟨Bl, Tl, Fl, rfl, hsl, hfl, hbl, hps5, hw5⟩; have SL := Lib.hid hsl; have FL := Lib.hid hfl; have BL := Lib.hid hbl; have I5 := Lib.hid (I4.out.asked HRL.out hps5 hw5); have K5 : Hid (Blk9 w5 wr.heap.size k dk) := Lib.hid ⟨(hw5.block _ K4.out.lt (fun e => by have h1 := HLO.out; have h2 := HRL.out; have e : wr.heap.size = t.R := e; omega)).trans K4.out.box⟩; clear hsl hfl hbl hps5 hw5))
              | (go_at_call 56; have _t := I4.out; go_loud (refine (with_any _ g k HG.out HK32.out).mono ?_; rintro e w5 ⟨rfl, hw⟩; subst hw))
              | (go_at_call 54; have _t := I3.out; go_loud (refine (free_any _ t L I3.out.ps.srch HE.out.masks.small k g HMK.out HG.out).mono ?_; rintro e w4 ⟨rfl, hb4⟩; rw [HFR.out]; have I4 := Lib.hid (I3.out.below hb4); have K4 := Lib.hid (K3.out.below hb4); obtain ⟨e0, e1, e2, e3, e4, e5, e6, e7, e8⟩ := K4.out.cells; clear hb4))
              | (go_at_call 48; go_loud (refine (HPS.out _ k dk).mono ?_; rintro e w3 ⟨rfl, hb3⟩; rw [H4.out]; have I3 := Lib.hid (IB.out.below hb3); have K3 := Lib.hid (KB.out.below hb3); obtain ⟨e0, e1, e2, e3, e4, e5, e6, e7, e8⟩ := K3.out.cells; clear hb3)))
            go_frame
            have hb6 : Below w5.heap.size w5 w6 := (Below.refl _ _).grown hg6 (Nat.le_refl _) (fun j e => by cases e)
            have I6 := Lib.hid (I5.out.below hb6)
            have K6 := Lib.hid (K5.out.below hb6)
            have R6 := Lib.hid hrg6
            have HPD : Hid (∀ b x, b ∈ Fl → PGb L k b x → PG L g x) := Lib.hid (fun b x hb hx => pg_iff.2 ⟨k, HTN.out, HFREE.out, b, (FL.out b).1 hb, hx⟩)
            have HDN : Hid (∀ F' : List Nat, (∀ b ∈ Fl, ∀ x, PGb L k b x → x ∈ F') → ∀ x, PGp L g k x → x ∈ F') := Lib.hid (fun F' h x hx => by
              obtain ⟨_, _, b, hb, hx⟩ := hx
              exact h b ((FL.out b).2 hb) x hx)
            have HFL32 : Hid (∀ b ∈ Fl, b < 4294967296) := Lib.hid SL.out.small
            have HAS : Hid (∀ x : Nat, x < 4294967296 → (Maps.has Tl (.int .u32 (x : Int)) = true ↔ x ∈ Fl)) := Lib.hid SL.out.has
            have HRB : Hid (w.heap.size ≤ w5.heap.size) := Lib.hid I5.out.went.size
            have HNT : Hid (∀ j, mayAt t.sh L j = false → ∀ b x, ¬ PGt L k b j x) := Lib.hid (fun j hj b x h => by
              have h1 : mayAt 4 L j = true := h.1.may
              rw [← HE.out.sh, hj] at h1
              exact absurd h1 (by decide))
            have HBLN : Hid (Bl ≠ w.heap.size) := Lib.hid (fun e => by have h1 := BL.out; have h2 := I4.out.set.lt; omega)
            clear hb6 hrg6 hg6 hs6
            generalize wr.heap.size = KBk at *
            generalize w5.heap.size = RB at *
            go_loopw [10] (fun _ wr => ∃ (left : Lit → Bool) (cnt : Nat) (T2 : DataW Unit) (F2 : List Nat), wr.ranges Tryz.prog 79 unitElem Bl RB Fl.length Tl left cnt ∧ Inp No t L g w wr w.heap.size T2 F2 ∧ Blk9 wr KBk k dk ∧ (∀ x ∈ F, x ∈ F2) ∧ ∀ b ∈ Fl, left (.int .u32 (b : Int)) = false → ∀ x, PGb L k b x → x ∈ F2) (fun _ wr => wr.rangeLeft Bl RB)
            case atStart => exact ⟨_, _, T, F, R6.out, I6.out, K6.out, fun x hx => hx, fun b hb hl => by
              rw [(HAS.out b (HFL32.out b hb)).2 hb] at hl
              exact absurd hl (by decide)⟩
            case round =>
              obtain ⟨left, cnt, T2, F2, hrg, hI2, hK2, hsub, hdone⟩ := hrel
              have R2 := Lib.hid hrg
              have I2 := Lib.hid hI2
              have K2 := Lib.hid hK2
              have HSUB := Lib.hid hsub
              have HDONE := Lib.hid hdone
              clear hI2 hK2 hsub hdone
              go_wp2_with (at_next; refine wpList_next_ranges _ rfl _ rfl 79 group_keyed unitElem gv id (fun key kl hk => by obtain ⟨x, _, hx, _⟩ := group_inv hk; exact ⟨x, hx⟩) (fun v _ _ => ⟨v, rfl⟩) Bl RB Fl.length _ _ _ rfl hrg ?_ ?_)
              · intro hc0 hl0
                have HL0 := Lib.hid hl0
                clear hl0 hrg
                go_wp2
                go_roundw
                case rel => exact ⟨p + 1, T2, F2, by omega, by go_num, I2.out, HNXT.out F2 HSUB.out (HDN.out F2 fun b hb x hx => HDONE.out b hb (HL0.out _) x hx)⟩
                case measure => simp [intOf]; omega
              · intro b c kl yd yp w7 cnt2 hkey hlk2 hv hat hrg7 hlt7 hg7 hs7 hen
                obtain ⟨b', hb', ex, rfl⟩ := group_inv hkey
                obtain rfl : b = b' := by
                  have := (Value.int.inj ex).2
                  omega
                have HBF : Hid (b ∈ Fl) := Lib.hid ((HAS.out b hb').1 (has_true_of_atKey hat))
                have HB32 := Lib.hid hb'
                have R7a := Lib.hid hrg7
                have HLEFT : Hid (wr.rangeLeft Bl RB = cnt ∧ cnt2 < cnt) := Lib.hid ⟨hrg.left_eq, hlt7⟩
                have hit := ranges_iter hrg
                have I7 := Lib.hid (I2.out.iter HRB.out hit hg7)
                have K7 : Hid (Blk9 w7 KBk k dk) := Lib.hid ⟨(hg7.block _ K2.out.lt (fun e => by
                  obtain ⟨_, _, _, _, h1⟩ := hit
                  rw [← Option.some.inj e, K2.out.box] at h1
                  cases h1)).trans K2.out.box⟩
                have s0 := I7.out.ps.srch.cs.1
                rw [← HNN.out] at s0
                have hMt := takes_any
                unfold clA at hMt
                have HTS := Lib.hid hMt
                clear hit hrg hkey hlk2 hv hat hrg7 hlt7 hg7 hs7 hb' hMt
                go_wp2
                clear s0 hen
                go_loopw [61] (fun j wr => ∃ (p3 : Nat) (T3 : DataW Unit) (F3 : List Nat), p3 ≤ n ∧ j = .int .i64 (p3 : Int) ∧ wr.ranges Tryz.prog 79 unitElem Bl RB Fl.length Tl (fun z => left z && !z.sameKey (.int .u32 (b : Int))) cnt2 ∧ Inp No t L g w wr w.heap.size T3 F3 ∧ Blk9 wr KBk k dk ∧ (∀ x ∈ F2, x ∈ F3) ∧ ∀ q, q < bd t.sh L p3 → ∀ x, PGt L k b q x → x ∈ F3) (fun j _ => n - (intOf j).toNat)
                case atStart => exact ⟨0, T2, F2, Nat.zero_le _, rfl, R7a.out, I7.out, K7.out, fun x hx => hx, below_first (s := t.sh) fun j hj x hx => absurd hx (HNT.out j hj b x)⟩
                case round =>
                  obtain ⟨p3, T3, F3, hp3, rfl, hrg, hI3, hK3, hsub3, hdone3⟩ := hrel
                  have RJ0 := Lib.hid hrg
                  have J0 := Lib.hid hI3
                  have KJ0 := Lib.hid hK3
                  have SJ := Lib.hid hsub3
                  have DJ0 := Lib.hid hdone3
                  by_cases hlt3 : p3 < n
                  · have hpl : p3 < (keptL t.sh L).length := by rw [← HNN.out]; exact hlt3
                    have hpi3 : (p3 : Int) < (n : Int) := by omega
                    obtain ⟨k3, d3, he, hbd, hkl, hLk, hmay, hnx⟩ := kept_at hpl
                    obtain ⟨b3, hb9, p0, p1, p2, p3', p4, p5, p6, p7, p8⟩ := kept_ci hI3.ps.srch.calls hpl he
                    have hLe : L[k3] = d3 := (List.getElem?_eq_some_iff.1 hLk).2
                    have HMK3 : Hid (mayAt t.sh L k3 = true) := Lib.hid (by rw [may_at hkl, hLe]; exact hmay)
                    have HSU3 : Hid (∀ x, suitsAt L x k3 = takesB d3 x) := Lib.hid (fun x => by rw [suits_at hkl, hLe])
                    have HNXT3 : Hid (∀ F' : List Nat, (∀ x ∈ F3, x ∈ F') → (∀ x, PGt L k b k3 x → x ∈ F') → ∀ q, q < bd t.sh L (p3 + 1) → ∀ x, PGt L k b q x → x ∈ F') := Lib.hid (fun F' h1 h2 => below_next (P := fun q => ∀ x, PGt L k b q x → x ∈ F') (fun j hj x hx => absurd hx (HNT.out j hj b x)) hpl (fun q hq x hx => h1 x (hdone3 q hq x hx)) (by rw [hbd]; exact h2))
                    obtain rfl : bA = b3 := by
                      rw [HA9.out] at hb9
                      exact Option.some.inj hb9
                    have bB : Below wr.heap.size wr (wr.alloc (.cells #[.int .i64 d3.B, .int .i64 d3.D, .int .i64 (k3 : Int), .int .i64 d3.T, .int .i64 d3.K, .int .i64 d3.Y, .int .i64 d3.C, .bool d3.O, .int .i64 d3.V] 85)) := (Below.refl _ _).alloc (Nat.le_refl _) _
                    have DJ := Lib.hid (⟨new_block wr _ _⟩ : Blk9 (wr.alloc (.cells #[.int .i64 d3.B, .int .i64 d3.D, .int .i64 (k3 : Int), .int .i64 d3.T, .int .i64 d3.K, .int .i64 d3.Y, .int .i64 d3.C, .bool d3.O, .int .i64 d3.V] 85)) wr.heap.size k3 d3)
                    have J2 := Lib.hid (J0.out.below bB)
                    have RJ := Lib.hid (ranges_below RJ0.out bB)
                    have KJ := Lib.hid (KJ0.out.below bB)
                    have HK332 : Hid (k3 < 32) := Lib.hid (by have := HL24.out; omega)
                    clear hrg hI3 hK3 hsub3 hdone3 hpl he hbd hkl hLk hmay hnx hLe bB
                    cases hfr : freeB t L b k3
                    · have HFR3 := Lib.hid hfr
                      have NG : Hid (∀ x, PGt L k b k3 x → x ∈ F3) := Lib.hid (fun x h => by
                        have := free_free HE.out.masks HE.out.sh HB32.out h.1
                        rw [hfr] at this
                        exact absurd this (by decide))
                      clear hfr
                      go_wp2_with (go_at_call 54; have _t := J2.out; go_loud (refine (free_any _ t L J2.out.ps.srch HE.out.masks.small k3 b HMK3.out HB32.out).mono ?_; rintro e w8 ⟨rfl, hb8⟩; rw [HFR3.out]; have R8 := Lib.hid (ranges_below RJ.out hb8); have I8 := Lib.hid (J2.out.below hb8); have K8 := Lib.hid (KJ.out.below hb8); have D8 := Lib.hid (DJ.out.below hb8); obtain ⟨e0, e1, e2, e3, e4, e5, e6, e7, e8⟩ := D8.out.cells; obtain ⟨q0, q1, q2, q3, q4, q5, q6, q7, q8⟩ := K8.out.cells; clear hb8))
                      go_roundw
                      case rel => exact ⟨p3 + 1, T3, F3, by omega, by go_num, R8.out, I8.out, K8.out, SJ.out, HNXT3.out F3 (fun x h => h) NG.out⟩
                      case measure => simp [intOf]; omega
                    · have HFR3 := Lib.hid hfr
                      cases htk : takesB d3 dk.Y
                      · have HTK3 := Lib.hid htk
                        have NG : Hid (∀ x, PGt L k b k3 x → x ∈ F3) := Lib.hid (fun x h => by
                          have h3 := h.2.2.1
                          rw [HSU3.out, HKY.out, htk] at h3
                          exact absurd h3 (by decide))
                        clear hfr htk
                        go_wp2_with (first
                          | (go_at_call 88; have _t := I8.out; go_loud (refine (HTS.out _ k3 d3 dk.Y).mono ?_; rintro e w9 ⟨rfl, hb9⟩; rw [HTK3.out]; have R9 := Lib.hid (ranges_below R8.out hb9); have I9 := Lib.hid (I8.out.below hb9); have K9 := Lib.hid (K8.out.below hb9); have D9 := Lib.hid (D8.out.below hb9); obtain ⟨f0, f1, f2, f3, f4, f5, f6, f7, f8⟩ := D9.out.cells; clear hb9))
                          | (go_at_call 54; have _t := J2.out; go_loud (refine (free_any _ t L J2.out.ps.srch HE.out.masks.small k3 b HMK3.out HB32.out).mono ?_; rintro e w8 ⟨rfl, hb8⟩; rw [HFR3.out]; have R8 := Lib.hid (ranges_below RJ.out hb8); have I8 := Lib.hid (J2.out.below hb8); have K8 := Lib.hid (KJ.out.below hb8); have D8 := Lib.hid (DJ.out.below hb8); obtain ⟨e0, e1, e2, e3, e4, e5, e6, e7, e8⟩ := D8.out.cells; obtain ⟨q0, q1, q2, q3, q4, q5, q6, q7, q8⟩ := K8.out.cells; clear hb8)))
                        go_roundw
                        case rel => exact ⟨p3 + 1, T3, F3, by omega, by go_num, R9.out, I9.out, K9.out, SJ.out, HNXT3.out F3 (fun x h => h) NG.out⟩
                        case measure => simp [intOf]; omega
                      · have HTK3 := Lib.hid htk
                        have HFREE3 : Hid (Free (sysOf 4 L) b k3) := Lib.hid (free_of HE.out.masks HE.out.sh HB32.out hfr)
                        have HPT : Hid (PGb L k b (withG b k3)) := Lib.hid ⟨k3, HFREE3.out, suits_take (by rw [HSU3.out, HKY.out]; exact htk : suitsAt L (keyAt L k) k3 = true), by rw [HSU3.out, HKY.out]; exact htk, rfl⟩
                        have HGY := Lib.hid (with_lt HB32.out HK332.out)
                        clear hfr htk
                        go_wp2_with (first
                          | (go_at_call 56; have _t := I9.out; go_loud (refine (with_any _ b k3 HB32.out HK332.out).mono ?_; rintro e w10 ⟨rfl, hw⟩; subst hw))
                          | (go_at_call 88; have _t := I8.out; go_loud (refine (HTS.out _ k3 d3 dk.Y).mono ?_; rintro e w9 ⟨rfl, hb9⟩; rw [HTK3.out]; have R9 := Lib.hid (ranges_below R8.out hb9); have I9 := Lib.hid (I8.out.below hb9); have K9 := Lib.hid (K8.out.below hb9); have D9 := Lib.hid (D8.out.below hb9); obtain ⟨f0, f1, f2, f3, f4, f5, f6, f7, f8⟩ := D9.out.cells; clear hb9; obtain ⟨w10, T10, hrun10, hI10, hg10⟩ := I9.out.found HSZ.out HGY.out (HPD.out b _ HBF.out HPT.out); have I10 := Lib.hid hI10; have G10 := Lib.hid hg10; clear hI10 hg10))
                          | (go_at_call 54; have _t := J2.out; go_loud (refine (free_any _ t L J2.out.ps.srch HE.out.masks.small k3 b HMK3.out HB32.out).mono ?_; rintro e w8 ⟨rfl, hb8⟩; rw [HFR3.out]; have R8 := Lib.hid (ranges_below RJ.out hb8); have I8 := Lib.hid (J2.out.below hb8); have K8 := Lib.hid (KJ.out.below hb8); have D8 := Lib.hid (DJ.out.below hb8); obtain ⟨e0, e1, e2, e3, e4, e5, e6, e7, e8⟩ := D8.out.cells; obtain ⟨q0, q1, q2, q3, q4, q5, q6, q7, q8⟩ := K8.out.cells; clear hb8)))
                        go_roundw
                        case rel =>
                          have hne1 : RB ≠ w.heap.size := fun e => by
                            obtain ⟨_, _, _, _, h1⟩ := ranges_iter R9.out
                            obtain ⟨es, kk, h2, _⟩ := I9.out.set.own
                            rw [e, h2] at h1
                            cases h1
                          have hne2 : Bl ≠ w.heap.size := HBLN.out
                          exact ⟨p3 + 1, T10, more F3 (withG b k3), by omega, by go_num, R9.out.kept G10.out (fun e => hne2 (Option.some.inj e)) (fun e => hne1 (Option.some.inj e)), I10.out, ⟨(G10.out.block _ K9.out.lt (fun e => by
                            obtain ⟨es, kk, h2, _⟩ := I9.out.set.own
                            have h3 := K9.out.box
                            rw [Option.some.inj e, h2] at h3
                            cases h3)).trans K9.out.box⟩, fun x hx => mem_more.2 (Or.inl (SJ.out x hx)), HNXT3.out _ (fun x hx => mem_more.2 (Or.inl hx)) (fun x hx => mem_more.2 (Or.inr hx.2.2.2))⟩
                        case measure => simp [intOf]; omega
                  · have hkn : bd t.sh L p3 = L.length := by rw [show p3 = n by omega, HNN.out, bd_all]
                    have HDD : Hid (∀ x, PGb L k b x → x ∈ F3) := Lib.hid (fun x hx => by
                      obtain ⟨t', h1, h2, h3, h4⟩ := hx
                      exact DJ0.out t' (by rw [hkn]; exact h1.lt) x ⟨h1, h2, h3, h4⟩)
                    clear hrg hI3 hK3 hsub3 hdone3 hkn
                    go_wp2
                    go_roundw
                    case rel => exact ⟨_, cnt2, T3, F3, RJ0.out, J0.out, KJ0.out, fun x hx => SJ.out x (HSUB.out x hx), fun b2 hb2 hl x hx => by
                      by_cases e : b2 = b
                      · subst e; exact HDD.out x hx
                      · refine SJ.out x (HDONE.out b2 hb2 ?_ x hx)
                        have e2 : ¬ (b2 : Int) = (b : Int) := by omega
                        simpa [Lit.sameKey, e2] using hl⟩
                    case measure => rw [RJ0.out.left_eq, HLEFT.out.1]; exact HLEFT.out.2
        · have H4 : Hid (decide (dk.K = 4) = false) := Lib.hid (decide_eq_false h4)
          have NG : Hid (∀ x, PGp L g k x → x ∈ F) := Lib.hid (fun x h => by
            obtain ⟨_, h2, _⟩ := put_at (L := L) (Or.inr rfl) h.2.1.may h.1
            have h3 := HKK.out
            rw [kind_at HKL.out] at h3
            omega)
          clear h4
          go_wp2_with (go_at_call 48; go_loud (refine (HPS.out _ k dk).mono ?_; rintro e w3 ⟨rfl, hb3⟩; rw [H4.out]; have I3 := Lib.hid (IB.out.below hb3); have K3 := Lib.hid (KB.out.below hb3); obtain ⟨e0, e1, e2, e3, e4, e5, e6, e7, e8⟩ := K3.out.cells; clear hb3))
          go_roundw
          case rel => exact ⟨p + 1, T, F, by omega, by go_num, I3.out, HNXT.out F (fun x h => h) NG.out⟩
          case measure => simp [intOf]; omega
      · have hkn : bd t.sh L p = L.length := by rw [show p = n by omega, HNN.out, bd_all]
        have HFF : Hid (∀ x, x ∈ F ↔ PG L g x) := Lib.hid (fun x => ⟨HI.out.good x, fun h => by
          obtain ⟨q, hq⟩ := pg_iff.1 h
          exact HD.out q (by rw [hkn]; exact hq.2.1.lt) x hq⟩)
        have HFL : Hid (F.length ≤ 100000000) := Lib.hid (by have := HI.out.len_le HL24.out; omega)
        have HFM : Hid (F.length ≤ m) := Lib.hid (HE.out.rows g F ⟨HI.out.set.nodup, HFF.out⟩)
        have HBL : Hid (∀ b, No b → b < wr.heap.size) := Lib.hid (fun b hb => Nat.lt_of_lt_of_le (HNO.out b hb) HI.out.went.size)
        have x5 := pairs_cell HI.out.ps.srch
        have HIW := Lib.hid (HI.out.below ((Below.refl wr.heap.size wr).drew))
        clear hI hD hkn
        go_wp2
        go_region_held3 (fun wx => wx.cell? ⟨t.X, 5, none⟩ = some (.map (some t.R))) (first | exact pairs_cell P6.out.srch | exact pairs_cell P5.out.srch | exact pairs_cell I4.out.ps.srch | exact pairs_cell HIW.out.ps.srch | go_keep) (first
          | (go_at_call 92; have _t := I4.out; go_loud (refine (sorted_any HE.out.sorts w4 Bm w.heap.size T F M4.out.1 M4.out.2 I4.out.set HFL.out HFM.out).mono ?_; rintro e w5 ⟨A5, l5, c5, rfl, hp5, hrow5, hnew5, hb5⟩; have P5 := Lib.hid (I4.out.ps.below hb5); have I5 := Lib.hid (I4.out.below hb5); obtain ⟨w6, hrun6, hps6, hg6, A6, l6, c6, hA6, hN6, hok6, hget6⟩ := P5.out.put HE.out.apart HG.out hrow5 (fun a ha hno => by have h1 := hnew5 a ha; have h2 := HBL.out _ hno; have h3 := W4.out.size; omega) ⟨(hp5.nodup_iff).2 HI.out.set.nodup, fun y => (hp5.mem_iff).trans (HFF.out y)⟩; have P6 := Lib.hid hps6; have W5 := Lib.hid (W4.out.trans (hb5.mono W4.out.size)); have W6 : Hid (Went (fR t) (fR t) w w6) := Lib.hid ((HI.out.went.next W5.out).trans ⟨hg6.os, hg6.tape, hg6.output, hg6.size, fun b hb hf => hg6.block b hb (fun e => hf (Option.some.inj e)), fun _ h => Or.inl h⟩); have A6H := Lib.hid hA6; have N6H := Lib.hid hN6; have O6H := Lib.hid hok6; clear hp5 hrow5 hnew5 hb5 hps6 hg6 hA6 hN6 hok6))
          | (go_at_call 93; go_loud (refine (keys_ptr _ w.heap.size).mono ?_; rintro e w4 ⟨Bm, rfl, hm1, hm2, hb4⟩; have M4 := Lib.hid (And.intro hm1 hm2); have I4 := Lib.hid (HIW.out.below hb4); have W4 := Lib.hid (((Below.refl wr.heap.size wr).drew).trans hb4); clear hm1 hm2 hb4)))
        all_goals
          have x6 := pairs_cell P6.out.srch
          go_wp2
          go_returns
          exact ⟨A6, l6, c6, rfl, A6H.out, N6H.out, O6H.out, P6.out, W6.out⟩
  · have HA := Lib.hid hA
    have HAN := Lib.hid hAn
    have HOK := Lib.hid hok
    clear hS hP hNo hE hg hr ih hsr hk hA hAn hok
    go_enter Tryz.func78, Tryz.ntmps78
    go_wp2
    go_returns
    exact ⟨A, l, c, rfl, HA.out, HAN.out, HOK.out, HS.out, Went.refl _ _⟩
end
end Go.Proofs.YtmpilokgbblonaaGreat.lin
