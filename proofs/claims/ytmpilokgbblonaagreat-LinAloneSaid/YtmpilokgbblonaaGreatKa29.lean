/- What is hoped: of a set all; of a queue what its own search tells. -/
import Derived.Test.YtmpilokgbblonaaGreatKa27
import Derived.Test.YtmpilokgbblonaaGreatKa28
import Derived.Test.YtmpilokgbblonaaGreatKa08
namespace Go.Proofs.YtmpilokgbblonaaGreat.lin
open Go.RowKit Go.Maps
open hist (ClV befB past new_block Went At cells9 len9 Blk9)
open spec (Rw Row Mean Told items_mean)
section
variable {Pr : World → Prop} {t : SP} {L : List ClV} {c0 : Nat}
theorem hopes_set {s : Int} (hs : s = 1 ∨ s = 2) (w : World) (t : SP) (g X : Nat) (f : Nat → Prop) (M : List Int) (h : Mean w X f s M) :
    Calls Tryz.prog 53 #[.pointer (some ⟨t.X, 0, none⟩), .pointer (some ⟨X, 0, none⟩), .int .u32 (g : Int)] w fun e w' => e = .returned (.bool true) ∧ w = w' := by
  have c2 := h.cell2
  have h3 : (s == 3) = false := beq_eq_false_iff_ne.2 (by omega)
  have h4 : (s == 4) = false := beq_eq_false_iff_ne.2 (by omega)
  clear h hs
  go_enter Tryz.func53, Tryz.ntmps53
  go_wp2
  go_returns
  first | exact ⟨rfl, rfl⟩ | rfl
theorem hoped_set {s : Int} (hs : s = 1 ∨ s = 2) : Hoped Pr t L s (fun g M => ¬ Vain (sysOf s L) g M) (fun _ => 0) where
  toGood _ _ _ _ h := h
  ofGood _ _ _ _ h := h
  hopes w N g X f M hS hM _ _ _ _ := (hopes_set hs w t g X f M hM).mono fun e w' ⟨h1, h2⟩ => ⟨true, h1, fun h => absurd h (by decide), by rw [← h2]; exact hS, by rw [← h2]; exact Went.refl _ _⟩
theorem hopes_queue (hE : Env Pr t L c0) (w : World) (N g X : Nat) (f : Nat → Prop) (M : List Int) (hS : SS (GQ L) Pr t L w N) (h : Mean w X f 3 M) (hg : g < 4294967296) (hM : spec.Good 3 M) (hl : M.length ≤ 24) (hN : N + sbF c0 (remG L.length g) ≤ 1000000000000) :
    Calls Tryz.prog 53 #[.pointer (some ⟨t.X, 0, none⟩), .pointer (some ⟨X, 0, none⟩), .int .u32 (g : Int)] w (ServeQ Pr t L w (N + sbF c0 (remG L.length g)) (GQ L g M)) := by
  have c2 := h.cell2
  have HS := Lib.hid hS
  have HH := Lib.hid h
  have HE := Lib.hid hE
  have HG := Lib.hid hg
  have HN := Lib.hid hN
  have HML := Lib.hid hl
  have HMK : Hid (∀ x ∈ M, keyR x) := Lib.hid (fun x hx => by have := hM.keys x hx; unfold keyR; omega)
  clear hS h hE hg hM hl hN
  go_enter Tryz.func53, Tryz.ntmps53
  go_wp2_with (first
    | (go_at_call 65; have _t := T1.out; go_loud (refine (served_any HE.out _ _ N g G2 c2' A2 M M.length S2.out rfl HN.out HG.out R2.out HGF.out rfl (by have := HML.out; omega) HMK.out).mono ?_; rintro e w3 ⟨b3, rfl, h1, h2, h3⟩; have R3 := Lib.hid (And.intro h1 (And.intro h2 h3)); clear h1 h2 h3))
    | (go_at_call 38; go_loud (refine (items_mean _ X f 3 M HH.out (by have := HML.out; omega)).mono ?_; rintro e w2 ⟨A2, c2', G2, rfl, hr2, hg2, hb2⟩; have R2 := Lib.hid hr2; have B2 := Lib.hid hb2; have S2 := Lib.hid (HS.out.below HE.out.pr hb2); have HGF : Hid (A2 ≠ none → ¬ fS t G2) := Lib.hid (fun hA e => by
        have h0 := hg2 hA
        have h1 := HS.out.dlt
        have h2 := HE.out.rlt w HS.out.pr
        rcases e with e | e <;> omega); have T1 := Lib.hid (Eq.refl 0); clear hr2 hg2 hb2)))
  go_returns
  exact ⟨b3, rfl, R3.out.1, R3.out.2.1, (Went.ofBelow B2.out).trans R3.out.2.2⟩
theorem hoped_queue (hE : Env Pr t L c0) : Hoped Pr t L 3 (GQ L) (sbF c0) where
  toGood _ _ hc _ h := goes_goodQ hc h
  ofGood _ _ _ _ h := goodQ_goes h
  hopes w N g X f M hS hM hg hgd hl hN := hopes_queue hE w N g X f M hS hM hg hgd hl hN
theorem envG_of (hE : Env Pr t L c0) : EnvG Pr t L c0 3 := ⟨hE.pr, hE.rlt, hE.apart, hE.masks, hE.spans, hE.sh, hE.frees⟩
end
end Go.Proofs.YtmpilokgbblonaaGreat.lin
/- The least legal order of a history's calls, where it is known what may be hoped. -/
namespace Go.Proofs.YtmpilokgbblonaaGreat.lin
open Go.RowKit Go.Maps
open hist (ClV EvV befB past new_block Went At cells9 len9 Blk9 Hst callsE calls_any)
open spec (Rw Row Mean new_right new_wrong)
open task (rightB)
theorem goOn_any {Good : Nat → List Int → Prop} {Pr : World → Prop} {t : SP} {L : List ClV} {s : Int} {c0 : Nat} {hb : Nat → Nat} (hE : EnvG Pr t L c0 s) (hH : Hoped Pr t L s Good hb) : ∀ r, GoOK Good Pr t L s c0 hb r := fun r => by
  induction r using Nat.strongRecOn with
  | ind r ih => exact goOn_step hE hH r ih
theorem dead_empty (Good : Nat → List Int → Prop) {w : World} {D : Nat} (hD : w.heap[D]? = some (.map #[] 0)) : DeadM Good w D 0 (.map []) := by
  obtain ⟨⟨es, clock, h1, h2⟩, h3, h4⟩ := dead_made Good w
  rw [heap_alloc_new w _] at h1
  obtain ⟨rfl, rfl⟩ : es = #[] ∧ clock = 0 := by
    have := Option.some.inj h1
    injection this with a b
    exact ⟨a.symm, b.symm⟩
  exact ⟨⟨_, _, hD, h2⟩, h3, h4⟩
theorem rem_all (n : Nat) : remG n 0 = n := cnt_all n fun i _ => by simp

/-- Who must stand may, of the first k. -/
def AllTo (s : Int) (L : List ClV) (k : Nat) : Prop := ∀ i, i < k → mustAt L i = true → mayAt s L i = true
theorem allTo_all {s : Int} {L : List ClV} : AllTo s L L.length ↔ AllR s L :=
  ⟨fun h i hm => h i (must_lt hm) hm, fun h i _ hm => h i hm⟩
set_option maxHeartbeats 1000000 in
theorem right_any (w : World) (s : Int) (A : Option Addr) (n c : Nat) (L : List ClV) (h : At cells9 9 w A L) (hn : L.length = n) (hl : n ≤ 1000) :
    Calls Tryz.prog 28 #[.int .i64 s, .slice A n c] w fun e w' => ∃ b, e = .returned (.bool b) ∧ (b = true ↔ AllR s L) ∧ Below w.heap.size w w' := by
  have H := Lib.hid h
  have HN := Lib.hid hn
  have hl0 : (n : Int) ≤ 1000 := by omega
  have hMay := may_any
  have hMust := must_any
  unfold clA at hMay hMust
  have HMY := Lib.hid hMay
  have HM := Lib.hid hMust
  clear h hn hMay hMust
  go_enter Tryz.func28, Tryz.ntmps28
  go_wp2
  go_loopw [9] (fun j wr => ∃ k : Nat, k ≤ n ∧ j = .int .i64 (k : Int) ∧ Below w.heap.size w wr ∧ AllTo s L k) (fun j _ => n - (intOf j).toNat)
  case atStart => exact ⟨0, Nat.zero_le _, rfl, Below.refl _ _, fun i hi => absurd hi (by omega)⟩
  case round =>
    obtain ⟨k, hk, rfl, hb, ha⟩ := hrel
    have HB := Lib.hid hb
    have HA := Lib.hid ha
    by_cases hlt : k < n
    · have hkl : k < L.length := by rw [HN.out]; exact hlt
      have hki : (k : Int) < (n : Int) := by omega
      obtain ⟨b, hb9, p0, p1, p2, p3, p4, p5, p6, p7, p8⟩ := (H.out.later hb).ca k hkl
      obtain rfl : A = some b := hb9
      have HMA : Hid (mustAt L k = mustC L[k]) := Lib.hid (by unfold mustAt; rw [List.getElem?_eq_getElem hkl])
      have HYA : Hid (mayAt s L k = mayC s L[k]) := Lib.hid (may_at hkl)
      have HKL := Lib.hid hkl
      generalize L[k] = d at *
      have NB : Hid (Blk9 (wr.alloc (.cells #[.int .i64 d.B, .int .i64 d.D, .int .i64 (k : Int), .int .i64 d.T, .int .i64 d.K, .int .i64 d.Y, .int .i64 d.C, .bool d.O, .int .i64 d.V] 85)) wr.heap.size k d) := Lib.hid ⟨new_block _ _ _⟩
      have bB : Below wr.heap.size wr (wr.alloc (.cells #[.int .i64 d.B, .int .i64 d.D, .int .i64 (k : Int), .int .i64 d.T, .int .i64 d.K, .int .i64 d.Y, .int .i64 d.C, .bool d.O, .int .i64 d.V] 85)) := (Below.refl _ _).alloc (Nat.le_refl _) _
      have B2 := Lib.hid (past HB.out bB)
      clear hb ha hkl bB
      cases hm : mustC d
      · have HM2 := Lib.hid hm
        have HNX : Hid (AllTo s L (k + 1)) := Lib.hid (fun i hi h => by
          by_cases e : i = k
          · subst e; rw [HMA.out, hm] at h; exact absurd h (by decide)
          · exact HA.out i (by omega) h)
        clear hm
        go_wp2_with (go_at_call 37; go_loud (refine (HM.out _ k d).mono ?_; rintro e w2 ⟨rfl, hb2⟩; rw [HM2.out]; have B3 := Lib.hid (past B2.out hb2); clear hb2))
        go_roundw
        case rel => exact ⟨k + 1, by omega, by go_num, B3.out, HNX.out⟩
        case measure => simp [intOf]; omega
      · have HM2 := Lib.hid hm
        cases hy : mayC s d
        · have HY2 := Lib.hid hy
          have HNO : Hid (¬ AllR s L) := Lib.hid (fun h => by
            have := h k (by rw [HMA.out, hm])
            rw [HYA.out, hy] at this
            exact absurd this (by decide))
          clear hm hy
          go_wp2_with (first
            | (go_at_call 34; have _t := B3.out; go_loud (refine (HMY.out _ s k d).mono ?_; rintro e w3 ⟨rfl, hb3⟩; rw [HY2.out]; have B4 := Lib.hid (past B3.out hb3); clear hb3))
            | (go_at_call 37; go_loud (refine (HM.out _ k d).mono ?_; rintro e w2 ⟨rfl, hb2⟩; rw [HM2.out]; have B3 := Lib.hid (past B2.out hb2); have K3 := Lib.hid (NB.out.below hb2); obtain ⟨q0, q1, q2, q3, q4, q5, q6, q7, q8⟩ := K3.out.cells; clear hb2)))
          go_returns
          exact ⟨false, rfl, ⟨fun h => absurd h (by decide), fun h => absurd h HNO.out⟩, B4.out⟩
        · have HY2 := Lib.hid hy
          have HNX : Hid (AllTo s L (k + 1)) := Lib.hid (fun i hi h => by
            by_cases e : i = k
            · subst e; rw [HYA.out, hy]
            · exact HA.out i (by omega) h)
          clear hm hy
          go_wp2_with (first
            | (go_at_call 34; have _t := B3.out; go_loud (refine (HMY.out _ s k d).mono ?_; rintro e w3 ⟨rfl, hb3⟩; rw [HY2.out]; have B4 := Lib.hid (past B3.out hb3); clear hb3))
            | (go_at_call 37; go_loud (refine (HM.out _ k d).mono ?_; rintro e w2 ⟨rfl, hb2⟩; rw [HM2.out]; have B3 := Lib.hid (past B2.out hb2); have K3 := Lib.hid (NB.out.below hb2); obtain ⟨q0, q1, q2, q3, q4, q5, q6, q7, q8⟩ := K3.out.cells; clear hb2)))
          go_roundw
          case rel => exact ⟨k + 1, by omega, by go_num, B4.out, HNX.out⟩
          case measure => simp [intOf]; omega
    · have HF : Hid (AllR s L) := Lib.hid (allTo_all.1 (by rw [HN.out, show n = k by omega]; exact ha))
      go_wp2
      go_returns
      exact ⟨true, rfl, ⟨fun _ => HF.out, fun _ => rfl⟩, HB.out⟩
/-- Each Put that has to stand was told what each Put is told, of the first k. -/
def PutsTo (L : List ClV) (k : Nat) : Prop := ∀ i, i < k → ∀ c, L[i]? = some c → c.K = 4 → mustC c = true → suitsB c 0 true 0 = true
set_option maxHeartbeats 1000000 in
theorem puts_hold (w : World) (A : Option Addr) (n c : Nat) (L : List ClV) (h : At cells9 9 w A L) (hn : L.length = n) (hl : n ≤ 1000) :
    Calls Tryz.prog 29 #[.slice A n c] w fun e w' => ∃ b, e = .returned (.bool b) ∧ (b = true ↔ PutsTo L L.length) ∧ Below w.heap.size w w' := by
  have H := Lib.hid h
  have HN := Lib.hid hn
  have hl0 : (n : Int) ≤ 1000 := by omega
  have hPut := puts_any
  have hMust := must_any
  have hSuits := suits_any
  unfold clA at hPut hMust hSuits
  have HP := Lib.hid hPut
  have HM := Lib.hid hMust
  have HS := Lib.hid hSuits
  clear h hn hPut hMust hSuits
  go_enter Tryz.func29, Tryz.ntmps29
  go_wp2
  go_loopw [7] (fun j wr => ∃ k : Nat, k ≤ n ∧ j = .int .i64 (k : Int) ∧ Below w.heap.size w wr ∧ PutsTo L k) (fun j _ => n - (intOf j).toNat)
  case atStart => exact ⟨0, Nat.zero_le _, rfl, Below.refl _ _, fun i hi => absurd hi (by omega)⟩
  case round =>
    obtain ⟨k, hk, rfl, hb, ha⟩ := hrel
    have HB := Lib.hid hb
    have HA := Lib.hid ha
    by_cases hlt : k < n
    · have hkl : k < L.length := by rw [HN.out]; exact hlt
      have hki : (k : Int) < (n : Int) := by omega
      obtain ⟨b, hb9, p0, p1, p2, p3, p4, p5, p6, p7, p8⟩ := (H.out.later hb).ca k hkl
      obtain rfl : A = some b := hb9
      have HLK := Lib.hid (List.getElem?_eq_getElem hkl)
      generalize L[k] = d at *
      have HST : Hid ((d.K = 4 → mustC d = true → suitsB d 0 true 0 = true) → PutsTo L (k + 1)) := Lib.hid (fun h i hi c hc => by
        by_cases e : i = k
        · subst e; rw [HLK.out] at hc; rw [← Option.some.inj hc]; exact h
        · exact HA.out i (by omega) c hc)
      have NB : Hid (Blk9 (wr.alloc (.cells #[.int .i64 d.B, .int .i64 d.D, .int .i64 (k : Int), .int .i64 d.T, .int .i64 d.K, .int .i64 d.Y, .int .i64 d.C, .bool d.O, .int .i64 d.V] 85)) wr.heap.size k d) := Lib.hid ⟨new_block _ _ _⟩
      have bB : Below wr.heap.size wr (wr.alloc (.cells #[.int .i64 d.B, .int .i64 d.D, .int .i64 (k : Int), .int .i64 d.T, .int .i64 d.K, .int .i64 d.Y, .int .i64 d.C, .bool d.O, .int .i64 d.V] 85)) := (Below.refl _ _).alloc (Nat.le_refl _) _
      have B2 := Lib.hid (past HB.out bB)
      have HKL := Lib.hid hkl
      clear hb ha hkl bB
      by_cases h4 : d.K = 4
      · have H4 : Hid (decide (d.K = 4) = true) := Lib.hid (decide_eq_true h4)
        cases hm : mustC d
        · have HM2 := Lib.hid hm
          have HNX := Lib.hid (HST.out (fun _ h => by rw [hm] at h; exact absurd h (by decide)))
          clear hm h4
          go_wp2_with (first
            | (go_at_call 37; have _t := B3.out; go_loud (refine (HM.out _ k d).mono ?_; rintro e w3 ⟨rfl, hb3⟩; rw [HM2.out]; have B4 := Lib.hid (past B3.out hb3); clear hb3))
            | (go_at_call 48; go_loud (refine (HP.out _ k d).mono ?_; rintro e w2 ⟨rfl, hb2⟩; rw [H4.out]; have B3 := Lib.hid (past B2.out hb2); have K3 := Lib.hid (NB.out.below hb2); obtain ⟨q0, q1, q2, q3, q4, q5, q6, q7, q8⟩ := K3.out.cells; clear hb2)))
          go_roundw
          case rel => exact ⟨k + 1, by omega, by go_num, B4.out, HNX.out⟩
          case measure => simp [intOf]; omega
        · have HM2 := Lib.hid hm
          cases hy : suitsB d 0 true 0
          · have HY2 := Lib.hid hy
            have HNO : Hid (¬ PutsTo L L.length) := Lib.hid (fun h => by
              have := h k HKL.out d HLK.out h4 hm
              rw [hy] at this
              exact absurd this (by decide))
            clear hm hy h4
            go_wp2_with (first
              | (go_at_call 49; have _t := B4.out; go_loud (refine (HS.out _ k d 0 0 true).mono ?_; rintro e w4 ⟨rfl, hb4⟩; rw [HY2.out]; have B5 := Lib.hid (past B4.out hb4); clear hb4))
              | (go_at_call 37; have _t := B3.out; go_loud (refine (HM.out _ k d).mono ?_; rintro e w3 ⟨rfl, hb3⟩; rw [HM2.out]; have B4 := Lib.hid (past B3.out hb3); have K4 := Lib.hid (K3.out.below hb3); obtain ⟨e0, e1, e2, e3, e4, e5, e6, e7, e8⟩ := K4.out.cells; clear hb3))
              | (go_at_call 48; go_loud (refine (HP.out _ k d).mono ?_; rintro e w2 ⟨rfl, hb2⟩; rw [H4.out]; have B3 := Lib.hid (past B2.out hb2); have K3 := Lib.hid (NB.out.below hb2); obtain ⟨q0, q1, q2, q3, q4, q5, q6, q7, q8⟩ := K3.out.cells; clear hb2)))
            go_returns
            exact ⟨false, rfl, ⟨fun h => absurd h (by decide), fun h => absurd h HNO.out⟩, B5.out⟩
          · have HY2 := Lib.hid hy
            have HNX := Lib.hid (HST.out (fun _ _ => hy))
            clear hm hy h4
            go_wp2_with (first
              | (go_at_call 49; have _t := B4.out; go_loud (refine (HS.out _ k d 0 0 true).mono ?_; rintro e w4 ⟨rfl, hb4⟩; rw [HY2.out]; have B5 := Lib.hid (past B4.out hb4); clear hb4))
              | (go_at_call 37; have _t := B3.out; go_loud (refine (HM.out _ k d).mono ?_; rintro e w3 ⟨rfl, hb3⟩; rw [HM2.out]; have B4 := Lib.hid (past B3.out hb3); have K4 := Lib.hid (K3.out.below hb3); obtain ⟨e0, e1, e2, e3, e4, e5, e6, e7, e8⟩ := K4.out.cells; clear hb3))
              | (go_at_call 48; go_loud (refine (HP.out _ k d).mono ?_; rintro e w2 ⟨rfl, hb2⟩; rw [H4.out]; have B3 := Lib.hid (past B2.out hb2); have K3 := Lib.hid (NB.out.below hb2); obtain ⟨q0, q1, q2, q3, q4, q5, q6, q7, q8⟩ := K3.out.cells; clear hb2)))
            go_roundw
            case rel => exact ⟨k + 1, by omega, by go_num, B5.out, HNX.out⟩
            case measure => simp [intOf]; omega
      · have H4 : Hid (decide (d.K = 4) = false) := Lib.hid (decide_eq_false h4)
        have HNX := Lib.hid (HST.out (fun h => absurd h h4))
        clear h4
        go_wp2_with (go_at_call 48; go_loud (refine (HP.out _ k d).mono ?_; rintro e w2 ⟨rfl, hb2⟩; rw [H4.out]; have B3 := Lib.hid (past B2.out hb2); clear hb2))
        go_roundw
        case rel => exact ⟨k + 1, by omega, by go_num, B3.out, HNX.out⟩
        case measure => simp [intOf]; omega
    · have HF : Hid (PutsTo L L.length) := Lib.hid (by rw [HN.out, show n = k by omega]; exact ha)
      go_wp2
      go_returns
      exact ⟨true, rfl, ⟨fun _ => HF.out, fun _ => rfl⟩, HB.out⟩
end Go.Proofs.YtmpilokgbblonaaGreat.lin
/- The least legal order is told, where it is known what may be hoped. -/
namespace Go.Proofs.YtmpilokgbblonaaGreat.lin
open Go.RowKit Go.Maps
open hist (ClV EvV befB past new_block Went At cells9 len9 Blk9 Hst callsE calls_any)
open spec (Rw Row Mean new_right new_wrong)
open task (rightB)
/-- What is told of an order: it, or that there is none. -/
def OrdQ (s : Int) (L : List ClV) (w : World) (e : Ending) (w' : World) : Prop :=
  ∃ (res : Option (List Nat)) (A : Option Addr) (c G : Nat), e = .returned (.tuple #[.slice A (res.getD []).length c, .bool res.isSome, .int .i64 0]) ∧ Rw w' G A c (intsL (res.getD [])) ∧ Found (sysOf s L) [] res ∧ Below w.heap.size w w'
/-- What may be hoped, of a search that was made. -/
structure Hopes (w' : World) (t : SP) (L : List ClV) (s : Int) : Prop where
  ex : ∃ (Good : Nat → List Int → Prop) (Pr : World → Prop) (c0 : Nat) (hb : Nat → Nat), EnvG Pr t L c0 s ∧ Hoped Pr t L s Good hb ∧ Pr w' ∧ gbF c0 hb L.length ≤ 1000000000000
theorem bad_found {s : Int} {L : List ClV} (h : ¬ AllR s L ∨ ¬ PutsTo L L.length) : Found (sysOf s L) [] none := by
  rintro r ⟨hok, hw⟩ _
  rcases h with h | h
  · refine h fun i hm => ?_
    have := (ok_lt hok i (whole_iff.1 hw i (must_lt hm) hm)).2
    exact this
  · refine h fun i hi c hc hk hm => ?_
    have hmi : (sysOf s L).must i = true := by show mustAt L i = true; unfold mustAt; rw [hc]; exact hm
    obtain ⟨k, hk2⟩ := List.getElem?_of_mem (whole_iff.1 hw i hi hmi)
    have hci : L[i] = c := (List.getElem?_eq_some_iff.1 hc).2
    have hf := hok k i hk2
    obtain ⟨_, _, hmay, _, ht⟩ := fit_iff.1 hf
    rw [sys_tells hi, hci] at ht
    rw [must_iff] at hm
    unfold toldC spec.okB spec.valI at ht
    unfold suitsB
    rw [hk] at ht
    have hd : decide (c.D < 0) = false := decide_eq_false (by omega)
    rw [hd, Bool.false_or] at ht ⊢
    simp only [Bool.and_eq_true, decide_eq_true_eq] at ht
    have hV : c.V = 0 := by simpa using ht.2
    have hO : c.O = true := by simpa using ht.1.2
    rw [ht.1.1, hO, hV]
    rfl
/-- A row of one's own lies in a block that there is. -/
theorem own_lt {α : Type} {f : Nat → α → List Value} {k : Nat} {T : TypeId} {w : World} {A : Option Addr} {n c : Nat} {L : List α} (h : hist.Own f k T w (.slice A n c) L) : ∀ b, A = some b → b.block < w.heap.size := fun b hb => by
  obtain ⟨A', c', he, -, -, h4⟩ := h.slice
  have hAA : A = A' := by injection he
  have h5 := h4 b (hAA ▸ hb)
  refine h.lt (g := b.block) ?_
  rw [hb, h5]
  rfl
/-- The search for an order, begun. -/
theorem go_start {w w4 w5 : World} {t : SP} {L : List ClV} {s : Int} {X1 : Nat} {f1 : Nat → Prop} (hns : NewS w4 w5 t L) (_hsh : t.sh = s) (ho : Hopes w5 t L s) (hM : Mean w4 X1 f1 s []) (hb : Below w.heap.size w w4) :
    Calls Tryz.prog 31 #[.pointer (some ⟨t.X, 0, none⟩), .pointer (some ⟨X1, 0, none⟩), .int .u32 0, .slice none 0 0] w5 fun e w' => ∃ u v, e = .returned (.tuple #[u, v]) ∧ ∃ res, GoTold (.returned (.tuple #[u, v])) w' res ∧ Found (sysOf s L) [] res ∧ Below w.heap.size w w' := by
  obtain ⟨Good, Pr, c0, hb0, hEG, hHp, hPr, hbd⟩ := ho.ex
  have hM5 := hM.below hns.below
  have hfn : ∀ b, f1 b → ¬ fS t b := fun b hb e => by
    have h1 := hns.new b e
    have h2 := hM.lt b hb
    omega
  have hgo := goOn_any hEG hHp L.length w5 0 X1 0 0 0 f1 none [] ⟨hns.srch, ⟨0, _, Nat.le_refl _, dead_empty Good hns.dead⟩, hPr⟩ ok_nil closed_nil (rem_all _) (by rw [Nat.zero_add]; exact hbd) hM5 hfn (Or.inl ⟨rfl, rfl, rfl⟩) (fun h => absurd rfl h) rfl
  refine hgo.mono fun e w' ⟨res, h1, h2, h3, h4⟩ => ?_
  have h5 : Below w.heap.size w w' := h4.below (past hb hns.below) (Nat.le_trans hb.size hns.below.size) (fun b hb' => Nat.le_trans hb.size (hns.new b hb'))
  cases res with
  | none => exact ⟨_, _, h1, none, rfl, h2, h5⟩
  | some rr =>
    obtain ⟨A', c', G', h7, h8⟩ := h1
    exact ⟨_, _, h7, some rr, ⟨A', c', G', rfl, h8⟩, h2, h5⟩
set_option maxRecDepth 100000 in
set_option maxHeartbeats 4000000 in
theorem order_any (w : World) (X : Nat) (f : Nat → Prop) (l : List EvV) (h : Hst w X f l) (hl : l.length ≤ 1000) (h24 : (callsE l).length ≤ 24) (s : Int) (hs : 1 ≤ s ∧ s ≤ 4) (hV : Spans (callsE l))
    (hope : AllR s (callsE l) → PutsTo (callsE l) (callsE l).length → ∀ w1 w' t, NewS w1 w' t (callsE l) → t.sh = s → Hopes w' t (callsE l) s) :
    Calls Tryz.prog 10 #[.int .i64 s, .pointer (some ⟨X, 0, none⟩)] w (OrdQ s (callsE l) w) := by
  have HH := Lib.hid h
  have HL := Lib.hid hl
  have HS := Lib.hid hs
  have HV := Lib.hid hV
  have HO := Lib.hid hope
  generalize hLL : callsE l = L at *
  have HLL := Lib.hid hLL
  have H24 := Lib.hid h24
  have hn0 : ((L.length : Nat) : Int) ≤ 24 := by omega
  have HBAD := Lib.hid (@bad_found s L)
  clear h hl hs hV hope hLL
  by_cases hA : AllR s L
  · have HA := Lib.hid hA
    by_cases hP : PutsTo L L.length
    · have HP := Lib.hid hP
      clear hA hP
      generalize hN : L.length = n at *
      have HN := Lib.hid hN
      go_enter Tryz.func10, Tryz.ntmps10
      go_wp2_with (first
        | (go_at_call 31; have _t := HGO.out; go_loud (refine HGO.out.mono ?_; rintro e w6 ⟨u, v, rfl, hres⟩; have HRES := Lib.hid hres; clear hres))
        | (go_at_call 30; have _t := B4.out; go_loud (refine (newSearch_any _ s A9 c9 L R4.out (fun b hb => R4lt.out b hb) HA.out n HN.out H24.out).mono ?_; rintro e w5 ⟨t, rfl, hsh, hns⟩; have HGO := Lib.hid (go_start hns hsh (HO.out HA.out HP.out w4 w5 t hns hsh) M4.out B4.out); clear hsh hns))
        | (go_at_call 29; have _t := B3.out; go_loud (refine (puts_hold _ A9 n c9 L R3.out HN.out (by have := H24.out; omega)).mono ?_; rintro e w4 ⟨b4, rfl, hb4, hB4⟩; obtain rfl : b4 = true := hb4.2 (by rw [HN.out]; exact HP.out); have B4 := Lib.hid (past B3.out hB4); have R4 := Lib.hid (R3.out.later hB4); have R4lt : Hid (∀ b, A9 = some b → b.block < w4.heap.size) := Lib.hid (fun b hb => Nat.lt_of_lt_of_le (R3lt.out b hb) hB4.size); have M4 := Lib.hid (M3.out.below hB4); clear hb4 hB4))
        | (go_at_call 28; have _t := B2.out; go_loud (refine (right_any _ s A9 n c9 L R2.out HN.out (by have := H24.out; omega)).mono ?_; rintro e w3 ⟨b3, rfl, hb3, hB3⟩; obtain rfl : b3 = true := hb3.2 HA.out; have B3 := Lib.hid (past B2.out hB3); have R3 := Lib.hid (R2.out.later hB3); have R3lt : Hid (∀ b, A9 = some b → b.block < w3.heap.size) := Lib.hid (fun b hb => Nat.lt_of_lt_of_le (R2lt.out b hb) hB3.size); have M3 := Lib.hid (M2.out.below hB3); clear hb3 hB3))
        | (go_at_call 27; have _t := B1.out; go_loud (refine (calls_any _ X f l (HH.out.below B1.out) HL.out).mono ?_; rintro e w2 ⟨v2, rfl, hg⟩; obtain ⟨A9, c9, rfl, -, -, ha⟩ := hg.told len9; rw [HLL.out] at ha; rw [HLL.out, HN.out]; have B2 := Lib.hid (past B1.out hg.below); have R2 := Lib.hid ha; have R2lt : Hid (∀ b, A9 = some b → b.block < w2.heap.size) := Lib.hid (own_lt hg.own); have M2 := Lib.hid (M1.out.below hg.below); clear hg ha))
        | (go_at_call 26; go_loud (refine (new_right _ s HS.out).mono ?_; rintro e w1 ⟨X1, f1, rfl, hm, hf1, hb1⟩; have M1 := Lib.hid hm; have B1 := Lib.hid hb1; clear hm hf1 hb1)))
      go_returns
      obtain ⟨res, h1, h2, h3⟩ := HRES.out
      cases res with
      | none =>
        have h6 := Ending.returned.inj h1
        simp at h6
        obtain ⟨rfl, rfl⟩ := h6
        exact ⟨none, none, 0, 0, rfl, Or.inl ⟨rfl, rfl, rfl⟩, h2, h3⟩
      | some rr =>
        obtain ⟨A', c', G', h1, h8⟩ := h1
        have h6 := Ending.returned.inj h1
        simp at h6
        obtain ⟨rfl, rfl⟩ := h6
        exact ⟨some rr, A', c', G', rfl, h8, h2, h3⟩
    · have HP := Lib.hid hP
      have HF := Lib.hid (HBAD.out (Or.inr hP))
      clear hA hP
      generalize hN : L.length = n at *
      have HN := Lib.hid hN
      go_enter Tryz.func10, Tryz.ntmps10
      go_wp2_with (first
        | (go_at_call 29; have _t := B3.out; go_loud (refine (puts_hold _ A9 n c9 L R3.out HN.out (by have := H24.out; omega)).mono ?_; rintro e w4 ⟨b4, rfl, hb4, hB4⟩; obtain rfl : b4 = false := Bool.eq_false_iff.2 (fun hh => absurd (hb4.1 hh) (by rw [HN.out]; exact HP.out)); have B4 := Lib.hid (past B3.out hB4); clear hb4 hB4))
        | (go_at_call 28; have _t := B2.out; go_loud (refine (right_any _ s A9 n c9 L R2.out HN.out (by have := H24.out; omega)).mono ?_; rintro e w3 ⟨b3, rfl, hb3, hB3⟩; obtain rfl : b3 = true := hb3.2 HA.out; have B3 := Lib.hid (past B2.out hB3); have R3 := Lib.hid (R2.out.later hB3); have R3lt : Hid (∀ b, A9 = some b → b.block < w3.heap.size) := Lib.hid (fun b hb => Nat.lt_of_lt_of_le (R2lt.out b hb) hB3.size); have M3 := Lib.hid (M2.out.below hB3); clear hb3 hB3))
        | (go_at_call 27; have _t := B1.out; go_loud (refine (calls_any _ X f l (HH.out.below B1.out) HL.out).mono ?_; rintro e w2 ⟨v2, rfl, hg⟩; obtain ⟨A9, c9, rfl, -, -, ha⟩ := hg.told len9; rw [HLL.out] at ha; rw [HLL.out, HN.out]; have B2 := Lib.hid (past B1.out hg.below); have R2 := Lib.hid ha; have R2lt : Hid (∀ b, A9 = some b → b.block < w2.heap.size) := Lib.hid (own_lt hg.own); have M2 := Lib.hid (M1.out.below hg.below); clear hg ha))
        | (go_at_call 26; go_loud (refine (new_right _ s HS.out).mono ?_; rintro e w1 ⟨X1, f1, rfl, hm, hf1, hb1⟩; have M1 := Lib.hid hm; have B1 := Lib.hid hb1; clear hm hf1 hb1)))
      go_returns
      exact ⟨none, none, 0, 0, rfl, Or.inl ⟨rfl, rfl, rfl⟩, HF.out, B4.out⟩
  · have HA := Lib.hid hA
    have HF := Lib.hid (HBAD.out (Or.inl hA))
    clear hA
    generalize hN : L.length = n at *
    have HN := Lib.hid hN
    go_enter Tryz.func10, Tryz.ntmps10
    go_wp2_with (first
      | (go_at_call 28; have _t := B2.out; go_loud (refine (right_any _ s A9 n c9 L R2.out HN.out (by have := H24.out; omega)).mono ?_; rintro e w3 ⟨b3, rfl, hb3, hB3⟩; obtain rfl : b3 = false := Bool.eq_false_iff.2 (fun hh => absurd (hb3.1 hh) HA.out); have B3 := Lib.hid (past B2.out hB3); clear hb3 hB3))
      | (go_at_call 27; have _t := B1.out; go_loud (refine (calls_any _ X f l (HH.out.below B1.out) HL.out).mono ?_; rintro e w2 ⟨v2, rfl, hg⟩; obtain ⟨A9, c9, rfl, -, -, ha⟩ := hg.told len9; rw [HLL.out] at ha; rw [HLL.out, HN.out]; have B2 := Lib.hid (past B1.out hg.below); have R2 := Lib.hid ha; have R2lt : Hid (∀ b, A9 = some b → b.block < w2.heap.size) := Lib.hid (own_lt hg.own); have M2 := Lib.hid (M1.out.below hg.below); clear hg ha))
      | (go_at_call 26; go_loud (refine (new_right _ s HS.out).mono ?_; rintro e w1 ⟨X1, f1, rfl, hm, hf1, hb1⟩; have M1 := Lib.hid hm; have B1 := Lib.hid hb1; clear hm hf1 hb1)))
    go_returns
    exact ⟨none, none, 0, 0, rfl, Or.inl ⟨rfl, rfl, rfl⟩, HF.out, B3.out⟩
end Go.Proofs.YtmpilokgbblonaaGreat.lin
