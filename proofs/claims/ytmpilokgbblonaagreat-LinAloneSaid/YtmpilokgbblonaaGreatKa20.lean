/- A queue's search: there are no items: the next Take misses, or takes what a Put brings. -/
import Derived.Test.YtmpilokgbblonaaGreatKa19
import Derived.Test.YtmpilokgbblonaaGreatKa17
namespace Go.Proofs.YtmpilokgbblonaaGreat.lin
open Go.RowKit Go.Maps
open hist (ClV befB past new_block Went At cells9 len9 Blk9)
open spec (Rw Row)
section
variable {Pr : World → Prop} {t : SP} {L : List ClV} {c0 : Nat}
abbrev NQ (L : List ClV) : Nat → List Int → Nat → Prop := NextQ (sysOf 3 L) (takeAt L) (keyAt L) (suitsAt L) (missAt L)
theorem miss_not {d : ClV} (h : missB d = true) (x : Int) : takesB d x = false := by
  unfold missB at h
  unfold takesB
  simp only [Bool.and_eq_true, decide_eq_true_eq] at h
  obtain ⟨⟨h1, h2⟩, h3⟩ := h
  have hd := (must_iff.1 h2).1
  unfold suitsB at h3 ⊢
  rw [decide_eq_false (show ¬ d.D < 0 by omega), Bool.false_or] at h3 ⊢
  rw [Bool.and_eq_true, Bool.and_eq_true, beq_iff_eq, beq_iff_eq] at h3
  rw [h3.2.1]
  simp
set_option maxHeartbeats 2000000 in
/-- It misses. -/
theorem serves_miss (hE : Env Pr t L c0) (r : Nat) (ih : ∀ r', r' < r → ServedOK Pr t L c0 r') (w : World) (N g c i : Nat) (hS : SS (GQ L) Pr t L w N) (hr : remG L.length g = r) (hN : N + sb1 c0 r ≤ 1000000000000) (hg : g < 4294967296)
    (A : Option Addr) (d : ClV) (hd : L[i]? = some d) (hb : g.testBit i = false) (hk : missB d = true) :
    Calls Tryz.prog 77 #[.pointer (some ⟨t.X, 0, none⟩), clA i d, .int .u32 (g : Int), .slice A 0 c] w (ServeQ Pr t L w (N + sb1 c0 r) (NQ L g [] i)) := by
  have hMs := misses_any
  unfold clA at hMs ⊢
  have hi : i < L.length := (List.getElem?_eq_some_iff.1 hd).1
  have hi24 := hE.masks.small.n24
  obtain ⟨r', hr1, hr2⟩ := rem_succ hi hb hr
  subst hr1
  have HMS := Lib.hid hMs
  have HK := Lib.hid hk
  have HE := Lib.hid hE
  have h32 : Hid (i < 32) := Lib.hid (by omega)
  have HG2 := Lib.hid hg
  have HGI := Lib.hid (with_lt hg (show i < 32 by omega))
  have HI := Lib.hid (ih r' (by omega))
  have HN := Lib.hid (show N + sbF c0 r' ≤ 1000000000000 from hN)
  have HR2 := Lib.hid hr2
  have hdi : L[i] = d := (List.getElem?_eq_some_iff.1 hd).2
  have HP : Hid (∀ p, suitsAt L p i = false) := Lib.hid (fun p => by rw [suits_at hi, hdi]; exact miss_not hk p)
  have hB : Below w.heap.size w (w.alloc (.cells #[.int .i64 d.B, .int .i64 d.D, .int .i64 (i : Int), .int .i64 d.T, .int .i64 d.K, .int .i64 d.Y, .int .i64 d.C, .bool d.O, .int .i64 d.V] 85)) := (Below.refl _ _).alloc (Nat.le_refl _) _
  have HB := Lib.hid hB
  have SB := Lib.hid (hS.below hE.pr hB)
  have hCl : Closed (sysOf 3 L) (withG g i) → closedTo t L (withG g i) L.length = true := fun h => closed_of hE.masks HGI.out h
  cases hcl : closedTo t L (withG g i) L.length
  · have HCV := Lib.hid hcl
    have FIN : ¬ NQ L g [] i := fun h3 => by
      cases h3 with
      | none _ _ h4 _ => have h9 := hCl h4; rw [hcl] at h9; exact absurd h9 (by decide)
      | put _ p _ _ _ h5 _ => rw [HP.out] at h5; exact absurd h5 (by decide)
    have HF := Lib.hid FIN
    clear hMs hk hE ih hN hr2 hS hB hd hr hCl hcl FIN hdi
    go_enter Tryz.func77, Tryz.ntmps77
    go_wp2_with (first
      | (go_at_call 90; have _t := S2.out; go_loud (refine (closed_any _ t L S2.out.srch HE.out.masks.small (withG g i) HGI.out).mono ?_; rintro e w3 ⟨rfl, hb3⟩; rw [HCV.out]; have S3 := Lib.hid (S2.out.below HE.out.pr hb3); have W3 := Lib.hid (W2.out.next hb3); clear hb3))
      | (go_at_call 89; go_loud (refine (HMS.out _ i d).mono ?_; rintro e w2 ⟨rfl, hb2⟩; rw [HK.out]; have S2 := Lib.hid (SB.out.below HE.out.pr hb2); have W2 := Lib.hid (Went.ofBelow (f := fS t) (past HB.out hb2)); clear hb2))
      | (go_at_call 56; go_loud (refine (with_any _ g i HG2.out h32.out).mono ?_; rintro e w1 ⟨rfl, hw⟩; subst hw)))
    go_returns
    exact ⟨false, rfl, fun _ => HF.out, S3.out.mono (Nat.le_add_right _ _), W3.out⟩
  · have HCV := Lib.hid hcl
    have FIN : ∀ b : Bool, (b = false → ¬ GQ L (withG g i) []) → b = false → ¬ NQ L g [] i := fun b h1 h2 h3 => by
      cases h3 with
      | none _ _ _ h4 => exact h1 h2 h4
      | put _ p _ _ _ h5 _ => rw [HP.out] at h5; exact absurd h5 (by decide)
    clear hMs hk hE ih hN hr2 hS hB hd hr hCl hcl hdi
    go_enter Tryz.func77, Tryz.ntmps77
    go_wp2_with (first
      | (go_at_call 65; have _t := S3.out; go_loud (refine (HI.out _ N (withG g i) 0 0 none [] 0 S3.out HR2.out HN.out HGI.out (Or.inl ⟨rfl, rfl, rfl⟩) (fun h => absurd rfl h) rfl (by omega) (fun x hx => by simp at hx)).mono ?_; rintro e w4 ⟨b4, rfl, hb4, hs4, hw4⟩; have T4 := Lib.hid hb4; have S4 := Lib.hid hs4; have W4 := Lib.hid (W3.out.trans hw4); clear hb4 hs4 hw4))
      | (go_at_call 90; have _t := S2.out; go_loud (refine (closed_any _ t L S2.out.srch HE.out.masks.small (withG g i) HGI.out).mono ?_; rintro e w3 ⟨rfl, hb3⟩; rw [HCV.out]; have S3 := Lib.hid (S2.out.below HE.out.pr hb3); have W3 := Lib.hid (W2.out.next hb3); clear hb3))
      | (go_at_call 89; go_loud (refine (HMS.out _ i d).mono ?_; rintro e w2 ⟨rfl, hb2⟩; rw [HK.out]; have S2 := Lib.hid (SB.out.below HE.out.pr hb2); have W2 := Lib.hid (Went.ofBelow (f := fS t) (past HB.out hb2)); clear hb2))
      | (go_at_call 56; go_loud (refine (with_any _ g i HG2.out h32.out).mono ?_; rintro e w1 ⟨rfl, hw⟩; subst hw)))
    go_returns
    exact ⟨b4, rfl, FIN _ T4.out, S4.out, W4.out⟩
end
end Go.Proofs.YtmpilokgbblonaaGreat.lin
/- A queue's search: there are no items: the next Take takes what a Put brings. -/
namespace Go.Proofs.YtmpilokgbblonaaGreat.lin
open Go.RowKit Go.Maps
open hist (ClV befB past new_block Went At cells9 len9 Blk9)
open spec (Rw Row)
section
variable {Pr : World → Prop} {t : SP} {L : List ClV} {c0 : Nat}
/-- A Put whose item the Take takes at once. -/
def PutGood (L : List ClV) (g i p : Nat) : Prop := takeAt L p = false ∧ Free (sysOf 3 L) g p ∧ suitsAt L (keyAt L p) i = true ∧ GQ L (withG (withG g i) p) []
def bk1 (c0 r : Nat) (d : ClV) : Nat := if d.K = 5 then sb1 c0 r else 0
def bk2 (c0 r : Nat) (d : ClV) : Nat := if d.K = 5 then sb2 c0 r else 0
theorem bk_le (c0 r : Nat) (d : ClV) : c0 * bk2 c0 r d ≤ bk1 c0 r d := by
  unfold bk1 bk2
  split
  · exact sb2_le c0 r
  · simp
theorem takes_kind {d : ClV} {x : Int} (h : takesB d x = true) : d.K = 5 := by
  unfold takesB at h
  rw [Bool.and_eq_true, decide_eq_true_eq] at h
  exact h.1
set_option maxHeartbeats 4000000 in
/-- It takes what a Put brings. -/
theorem serves_loop (hE : Env Pr t L c0) (r : Nat) (ih : ∀ r', r' < r → ServedOK Pr t L c0 r') (w : World) (N g c i : Nat) (hS : SS (GQ L) Pr t L w N) (hr : remG L.length g = r) (d : ClV) (hN : N + bk1 c0 r d ≤ 1000000000000) (hg : g < 4294967296)
    (A : Option Addr) (hd : L[i]? = some d) (hb : g.testBit i = false) (hk : missB d = false) :
    Calls Tryz.prog 77 #[.pointer (some ⟨t.X, 0, none⟩), clA i d, .int .u32 (g : Int), .slice A 0 c] w (ServeQ Pr t L w (N + bk1 c0 r d) (NQ L g [] i)) := by
  have hMs := misses_any
  have hPs := puts_any
  have hTs := takes_any
  unfold clA at hMs hPs hTs ⊢
  have hi : i < L.length := (List.getElem?_eq_some_iff.1 hd).1
  have hdi : L[i] = d := (List.getElem?_eq_some_iff.1 hd).2
  have hi24 := hE.masks.small.n24
  have HMS := Lib.hid hMs
  have HPS := Lib.hid hPs
  have HTS := Lib.hid hTs
  have HK := Lib.hid hk
  have HE := Lib.hid hE
  have h32 : Hid (i < 32) := Lib.hid (by omega)
  have HG2 := Lib.hid hg
  have HGI := Lib.hid (with_lt hg (show i < 32 by omega))
  have HI := Lib.hid ih
  have HN := Lib.hid hN
  have HR2 := Lib.hid hr
  have HII : Hid (i < L.length ∧ L[i]? = some d ∧ g.testBit i = false) := Lib.hid ⟨hi, hd, hb⟩
  have HSU : Hid (∀ x, suitsAt L x i = takesB d x) := Lib.hid (fun x => by rw [suits_at hi, hdi])
  have HFIN : Hid ((∀ p, p < L.length → ¬ PutGood L g i p) → ¬ NQ L g [] i) := Lib.hid (fun h1 h3 => by
    cases h3 with
    | none _ h4 _ _ => rw [miss_at hi, hdi, hk] at h4; exact absurd h4 (by decide)
    | put _ p h4 h5 h6 h7 h8 => exact h1 p h5.lt ⟨h4, h5, h7, h8⟩)
  have HNM : Hid (∀ j, mayAt t.sh L j = false → ¬ PutGood L g i j) := Lib.hid (fun j hj h => by
    have h1 : mayAt 3 L j = true := h.2.1.may
    rw [← hE.sh, hj] at h1
    exact absurd h1 (by decide))
  have hB : Below w.heap.size w (w.alloc (.cells #[.int .i64 d.B, .int .i64 d.D, .int .i64 (i : Int), .int .i64 d.T, .int .i64 d.K, .int .i64 d.Y, .int .i64 d.C, .bool d.O, .int .i64 d.V] 85)) := (Below.refl _ _).alloc (Nat.le_refl _) _
  have HB := Lib.hid hB
  have SB := Lib.hid (hS.below hE.pr hB)
  have NB := Lib.hid (⟨new_block w _ _⟩ : Blk9 (w.alloc (.cells #[.int .i64 d.B, .int .i64 d.D, .int .i64 (i : Int), .int .i64 d.T, .int .i64 d.K, .int .i64 d.Y, .int .i64 d.C, .bool d.O, .int .i64 d.V] 85)) w.heap.size i d)
  have HNF : Hid (¬ fS t w.heap.size) := Lib.hid (fun e => by
    have h1 := hS.dlt
    have h2 := hE.rlt w hS.pr
    rcases e with e | e <;> omega)
  have hkl0 : (keptL t.sh L).length ≤ L.length := kept_len _
  obtain ⟨n, hn⟩ : ∃ n, n = (keptL t.sh L).length := ⟨_, rfl⟩
  have HNN := Lib.hid hn
  have hl0 : (n : Int) ≤ 24 := by omega
  have HL24 := Lib.hid hi24
  clear hMs hPs hTs hk hE ih hN hr hS hB hd hdi hb hi hn hi24 hkl0
  go_enter Tryz.func77, Tryz.ntmps77
  go_wp2_with (first
    | (go_at_call 89; go_loud (refine (HMS.out _ i d).mono ?_; rintro e w2 ⟨rfl, hb2⟩; rw [HK.out]; have S2 := Lib.hid (SB.out.below HE.out.pr hb2); have W2 := Lib.hid (Went.ofBelow (f := fS t) (past HB.out hb2)); have D2 := Lib.hid (NB.out.below hb2); obtain ⟨s0, s1, s2, s3, s4, s5⟩ := S2.out.srch.cs; rw [← HNN.out] at s0; clear hb2))
    | (go_at_call 56; go_loud (refine (with_any _ g i HG2.out h32.out).mono ?_; rintro e w1 ⟨rfl, hw⟩; subst hw)))
  clear s0 s1 s2 s3 s4 s5
  go_loopw [46] (fun j wr => ∃ p : Nat, p ≤ n ∧ j = .int .i64 (p : Int) ∧ SS (GQ L) Pr t L wr (N + cntB (fun p => freeB t L g p) (bd t.sh L p) * bk2 c0 r d) ∧ Went (fS t) (fS t) w wr ∧ Blk9 wr w.heap.size i d ∧ ∀ q, q < bd t.sh L p → ¬ PutGood L g i q) (fun j _ => n - (intOf j).toNat)
  case atStart => exact ⟨0, Nat.zero_le _, rfl, S2.out.mono (Nat.le_add_right _ _), W2.out, D2.out, below_first HNM.out⟩
  case round =>
    obtain ⟨p, hp, rfl, hS, hW, hD, hno⟩ := hrel
    have SR := Lib.hid hS
    have WR := Lib.hid hW
    have DR := Lib.hid hD
    have NO := Lib.hid hno
    by_cases hlt : p < n
    · have hpl : p < (keptL t.sh L).length := by rw [← HNN.out]; exact hlt
      have hpi : (p : Int) < (n : Int) := by omega
      obtain ⟨k, dk, he, hbd, hkl, hLk, hmay, hnx⟩ := kept_at hpl
      obtain ⟨b, hb9, p0, p1, p2, p3, p4, p5, p6, p7, p8⟩ := kept_ci hS.srch.calls hpl he
      have HLK := Lib.hid hLk
      have hLe : L[k] = dk := (List.getElem?_eq_some_iff.1 hLk).2
      have HMK : Hid (mayAt t.sh L k = true) := Lib.hid (by rw [may_at hkl, hLe]; exact hmay)
      have HKK := Lib.hid (kind_at hkl)
      have HKY := Lib.hid (key_at hkl)
      rw [hLe] at HKK HKY
      have HNX := Lib.hid hnx
      have HNXT : Hid (¬ PutGood L g i k → ∀ q, q < bd t.sh L (p + 1) → ¬ PutGood L g i q) := Lib.hid (fun h => below_next HNM.out hpl hno (by rw [hbd]; exact h))
      rw [hbd] at SR
      rw [hb9]
      have KB := Lib.hid (⟨new_block wr _ _⟩ : Blk9 (wr.alloc (.cells #[.int .i64 dk.B, .int .i64 dk.D, .int .i64 (k : Int), .int .i64 dk.T, .int .i64 dk.K, .int .i64 dk.Y, .int .i64 dk.C, .bool dk.O, .int .i64 dk.V] 85)) wr.heap.size k dk)
      have bB : Below wr.heap.size wr (wr.alloc (.cells #[.int .i64 dk.B, .int .i64 dk.D, .int .i64 (k : Int), .int .i64 dk.T, .int .i64 dk.K, .int .i64 dk.Y, .int .i64 dk.C, .bool dk.O, .int .i64 dk.V] 85)) := (Below.refl _ _).alloc (Nat.le_refl _) _
      have SB2 := Lib.hid (SR.out.below HE.out.pr bB)
      have WB2 := Lib.hid (WR.out.next bB)
      have DB2 := Lib.hid (DR.out.below bB)
      have HKL := Lib.hid hkl
      have HK32 : Hid (k < 32) := Lib.hid (by have := HL24.out; omega)
      clear hS hW hD hno bB hLk hkl hpl he hbd hmay hnx hLe
      by_cases h4 : dk.K = 4
      · have H4 : Hid (decide (dk.K = 4) = true) := Lib.hid (decide_eq_true h4)
        cases hfr : freeB t L g k
        · have HFR := Lib.hid hfr
          have NG : Hid (¬ PutGood L g i k) := Lib.hid (fun h => by
            have := free_free HE.out.masks HE.out.sh HG2.out h.2.1
            rw [hfr] at this
            exact absurd this (by decide))
          clear h4 hfr
          go_wp2_with (first
            | (go_at_call 54; have _t := S3.out; go_loud (refine (free_any _ t L S3.out.srch HE.out.masks.small k g HMK.out HG2.out).mono ?_; rintro e w4 ⟨rfl, hb4⟩; rw [HFR.out]; have S4 := Lib.hid (S3.out.below HE.out.pr hb4); have W4 := Lib.hid (W3.out.next hb4); have D4 := Lib.hid (D3.out.below hb4); have K4 := Lib.hid (K3.out.below hb4); obtain ⟨q0, q1, q2, q3, q4, q5, q6, q7, q8⟩ := D4.out.cells; obtain ⟨e0, e1, e2, e3, e4, e5, e6, e7, e8⟩ := K4.out.cells; clear hb4))
            | (go_at_call 48; go_loud (refine (HPS.out _ k dk).mono ?_; rintro e w3 ⟨rfl, hb3⟩; rw [H4.out]; have S3 := Lib.hid (SB2.out.below HE.out.pr hb3); have W3 := Lib.hid (WB2.out.next hb3); have D3 := Lib.hid (DB2.out.below hb3); have K3 := Lib.hid (KB.out.below hb3); obtain ⟨q0, q1, q2, q3, q4, q5, q6, q7, q8⟩ := D3.out.cells; obtain ⟨e0, e1, e2, e3, e4, e5, e6, e7, e8⟩ := K3.out.cells; clear hb3)))
          go_roundw
          case rel => exact ⟨p + 1, by omega, by go_num, S4.out.mono (Nat.add_le_add_left (Nat.mul_le_mul_right _ (cnt_le _ (Nat.le_of_succ_le HNX.out))) _), W4.out, D4.out, HNXT.out NG.out⟩
          case measure => simp [intOf]; omega
        · have HFR := Lib.hid hfr
          cases htk : takesB d dk.Y
          · have HTK := Lib.hid htk
            have NG : Hid (¬ PutGood L g i k) := Lib.hid (fun h => by
              have h3 := h.2.2.1
              rw [HSU.out, HKY.out, htk] at h3
              exact absurd h3 (by decide))
            clear h4 hfr htk
            go_wp2_with (first
              | (go_at_call 88; have _t := S4.out; go_loud (refine (HTS.out _ i d dk.Y).mono ?_; rintro e w5 ⟨rfl, hb5⟩; rw [HTK.out]; have S5 := Lib.hid (S4.out.below HE.out.pr hb5); have W5 := Lib.hid (W4.out.next hb5); have D5 := Lib.hid (D4.out.below hb5); have K5 := Lib.hid (K4.out.below hb5); obtain ⟨g0, g1, g2, g3, g4, g5, g6, g7, g8⟩ := K5.out.cells; clear hb5))
              | (go_at_call 54; have _t := S3.out; go_loud (refine (free_any _ t L S3.out.srch HE.out.masks.small k g HMK.out HG2.out).mono ?_; rintro e w4 ⟨rfl, hb4⟩; rw [HFR.out]; have S4 := Lib.hid (S3.out.below HE.out.pr hb4); have W4 := Lib.hid (W3.out.next hb4); have D4 := Lib.hid (D3.out.below hb4); have K4 := Lib.hid (K3.out.below hb4); obtain ⟨q0, q1, q2, q3, q4, q5, q6, q7, q8⟩ := D4.out.cells; obtain ⟨e0, e1, e2, e3, e4, e5, e6, e7, e8⟩ := K4.out.cells; clear hb4))
              | (go_at_call 48; go_loud (refine (HPS.out _ k dk).mono ?_; rintro e w3 ⟨rfl, hb3⟩; rw [H4.out]; have S3 := Lib.hid (SB2.out.below HE.out.pr hb3); have W3 := Lib.hid (WB2.out.next hb3); have D3 := Lib.hid (DB2.out.below hb3); have K3 := Lib.hid (KB.out.below hb3); obtain ⟨q0, q1, q2, q3, q4, q5, q6, q7, q8⟩ := D3.out.cells; obtain ⟨e0, e1, e2, e3, e4, e5, e6, e7, e8⟩ := K3.out.cells; clear hb3)))
            go_roundw
            case rel => exact ⟨p + 1, by omega, by go_num, S5.out.mono (Nat.add_le_add_left (Nat.mul_le_mul_right _ (cnt_le _ (Nat.le_of_succ_le HNX.out))) _), W5.out, D5.out, HNXT.out NG.out⟩
            case measure => simp [intOf]; omega
          · have HTK := Lib.hid htk
            have h5 := takes_kind htk
            have hgk : g.testBit k = false := by
              unfold freeB at hfr
              simp only [Bool.and_eq_true, Bool.not_eq_true'] at hfr
              exact hfr.2.1
            have hik : i ≠ k := fun e => by
              have h1 := HII.out.2.1
              rw [e, HLK.out] at h1
              rw [← Option.some.inj h1] at h5
              omega
            obtain ⟨r1, hr1, hr2⟩ := rem_succ HII.out.1 HII.out.2.2 HR2.out
            obtain ⟨r2, hr3, hr4⟩ := rem_succ HKL.out (show (withG g i).testBit k = false by rw [bit_other hik]; exact hgk) hr2
            have hrr : r = r2 + 2 := by omega
            have hb2 : bk2 c0 r d = sbF c0 r2 := by unfold bk2 sb2; rw [if_pos h5, hrr, if_pos (by omega)]; rfl
            have hcs : cntB (fun p => freeB t L g p) (k + 1) = cntB (fun p => freeB t L g p) k + 1 := by rw [cnt_succ, if_pos hfr]
            have hcle : cntB (fun p => freeB t L g p) k + 1 ≤ c0 := by
              rw [← hcs]
              exact Nat.le_trans (cnt_le _ HKL.out) (HE.out.frees g HG2.out)
            have hbl := bk_le c0 r d
            have hml := Nat.mul_le_mul_right (bk2 c0 r d) hcle
            rw [Nat.add_mul, Nat.one_mul] at hml
            have HIH := Lib.hid (HI.out r2 (by omega))
            have HRK := Lib.hid hr4
            have HNK : Hid (N + cntB (fun p => freeB t L g p) k * bk2 c0 r d + sbF c0 r2 ≤ 1000000000000) := Lib.hid (by have := HN.out; omega)
            have HN1 : Hid (N + cntB (fun p => freeB t L g p) k * bk2 c0 r d + sbF c0 r2 ≤ N + bk1 c0 r d) := Lib.hid (by omega)
            have HN2 : Hid (N + cntB (fun p => freeB t L g p) k * bk2 c0 r d + sbF c0 r2 ≤ N + cntB (fun p => freeB t L g p) (bd t.sh L (p + 1)) * bk2 c0 r d) := Lib.hid (Nat.le_trans (show _ ≤ N + cntB (fun p => freeB t L g p) (k + 1) * bk2 c0 r d by rw [hcs, Nat.add_mul, Nat.one_mul]; omega) (Nat.add_le_add_left (Nat.mul_le_mul_right _ (cnt_le _ HNX.out)) _))
            have HGK := Lib.hid (with_lt HGI.out HK32.out)
            have NGF : Hid (¬ GQ L (withG (withG g i) k) [] → ¬ PutGood L g i k) := Lib.hid (fun h1 h2 => h1 h2.2.2.2)
            clear h4 hfr htk h5 hgk hik hr1 hr2 hr3 hr4 hrr hb2 hcs hcle hbl hml r1
            go_wp2_with (first
              | (go_at_call 65; have _t := T6.out; go_loud (refine (HIH.out _ _ (withG (withG g i) k) 0 0 none [] 0 S5.out HRK.out HNK.out HGK.out (Or.inl ⟨rfl, rfl, rfl⟩) (fun h => absurd rfl h) rfl (by omega) (fun x hx => by simp at hx)).mono ?_; rintro e w7 ⟨b7, rfl, hb7, hs7, hw7⟩; have T7 := Lib.hid hb7; have S7 := Lib.hid hs7; have W7 := Lib.hid (W5.out.trans hw7); have D7 : Hid (Blk9 w7 w.heap.size i d) := Lib.hid ⟨(hw7.block _ D5.out.lt HNF.out).trans D5.out.box⟩; clear hb7 hs7 hw7))
              | (go_at_call 56; have _t := S5.out; go_loud (refine (with_any _ (withG g i) k HGI.out HK32.out).mono ?_; rintro e w6 ⟨rfl, hw⟩; subst hw; have T6 := Lib.hid (Eq.refl 0)))
              | (go_at_call 88; have _t := S4.out; go_loud (refine (HTS.out _ i d dk.Y).mono ?_; rintro e w5 ⟨rfl, hb5⟩; rw [HTK.out]; have S5 := Lib.hid (S4.out.below HE.out.pr hb5); have W5 := Lib.hid (W4.out.next hb5); have D5 := Lib.hid (D4.out.below hb5); have K5 := Lib.hid (K4.out.below hb5); obtain ⟨g0, g1, g2, g3, g4, g5, g6, g7, g8⟩ := K5.out.cells; clear hb5))
              | (go_at_call 54; have _t := S3.out; go_loud (refine (free_any _ t L S3.out.srch HE.out.masks.small k g HMK.out HG2.out).mono ?_; rintro e w4 ⟨rfl, hb4⟩; rw [HFR.out]; have S4 := Lib.hid (S3.out.below HE.out.pr hb4); have W4 := Lib.hid (W3.out.next hb4); have D4 := Lib.hid (D3.out.below hb4); have K4 := Lib.hid (K3.out.below hb4); obtain ⟨q0, q1, q2, q3, q4, q5, q6, q7, q8⟩ := D4.out.cells; obtain ⟨e0, e1, e2, e3, e4, e5, e6, e7, e8⟩ := K4.out.cells; clear hb4))
              | (go_at_call 48; go_loud (refine (HPS.out _ k dk).mono ?_; rintro e w3 ⟨rfl, hb3⟩; rw [H4.out]; have S3 := Lib.hid (SB2.out.below HE.out.pr hb3); have W3 := Lib.hid (WB2.out.next hb3); have D3 := Lib.hid (DB2.out.below hb3); have K3 := Lib.hid (KB.out.below hb3); obtain ⟨q0, q1, q2, q3, q4, q5, q6, q7, q8⟩ := D3.out.cells; obtain ⟨e0, e1, e2, e3, e4, e5, e6, e7, e8⟩ := K3.out.cells; clear hb3)))
            · go_returns
              exact ⟨true, rfl, fun h => absurd h (by decide), S7.out.mono HN1.out, W7.out⟩
            case roundEnd =>
              have NG := Lib.hid (NGF.out (T7.out (by first | rfl | assumption)))
              exact ⟨⟨p + 1, by omega, by go_num, S7.out.mono HN2.out, W7.out, D7.out, HNXT.out NG.out⟩, by simp [intOf]; omega⟩
      · have H4 : Hid (decide (dk.K = 4) = false) := Lib.hid (decide_eq_false h4)
        have NG : Hid (¬ PutGood L g i k) := Lib.hid (fun h => by
          obtain ⟨_, h2, _⟩ := put_at (L := L) (Or.inl rfl) h.2.1.may h.1
          have h3 := HKK.out
          rw [kind_at HKL.out] at h3
          omega)
        clear h4
        go_wp2_with (go_at_call 48; go_loud (refine (HPS.out _ k dk).mono ?_; rintro e w3 ⟨rfl, hb3⟩; rw [H4.out]; have S3 := Lib.hid (SB2.out.below HE.out.pr hb3); have W3 := Lib.hid (WB2.out.next hb3); have D3 := Lib.hid (DB2.out.below hb3); have K3 := Lib.hid (KB.out.below hb3); obtain ⟨q0, q1, q2, q3, q4, q5, q6, q7, q8⟩ := D3.out.cells; obtain ⟨e0, e1, e2, e3, e4, e5, e6, e7, e8⟩ := K3.out.cells; clear hb3))
        go_roundw
        case rel => exact ⟨p + 1, by omega, by go_num, S3.out.mono (Nat.add_le_add_left (Nat.mul_le_mul_right _ (cnt_le _ (Nat.le_of_succ_le HNX.out))) _), W3.out, D3.out, HNXT.out NG.out⟩
        case measure => simp [intOf]; omega
    · have hkn : bd t.sh L p = L.length := by rw [show p = n by omega, HNN.out, bd_all]
      have HF := Lib.hid (HFIN.out (fun q hq => NO.out q (by rw [hkn]; exact hq)))
      have SF := Lib.hid (SR.out.mono (show N + cntB (fun p => freeB t L g p) (bd t.sh L p) * bk2 c0 r d ≤ N + bk1 c0 r d by
        have h1 := HE.out.frees g HG2.out
        have h2 := bk_le c0 r d
        have h3 := Nat.mul_le_mul_right (bk2 c0 r d) h1
        rw [hkn]
        omega))
      clear hkn hS hW hD hno
      go_wp2
      go_returns
      exact ⟨false, rfl, fun _ => HF.out, SF.out, WR.out⟩
end
end Go.Proofs.YtmpilokgbblonaaGreat.lin
