/- The law SpecUndoes answers true of a set, of shape 1. -/
import Derived.Test.YtehjlmolnmiopaaSpUndo
namespace Go.Proofs.Ytehjlmolnmiopaa.spec
open Go.RowKit task
attribute [local go_sem] eq_res

set_option maxRecDepth 100000 in
set_option maxHeartbeats 8000000 in
theorem undo_set1 (w : World) (y z : Int) (a : Option Addr) (os : List OpV) (N cap : Nat) (hN : os.length = N) (hl : (N : Int) ≤ 60) (hx : OpsAt w a os) (y0 : 0 ≤ y) (y1 : y < 256) (z0 : 0 ≤ z) (z1 : z < 65536) (hs : y % 4 = 0) :
    Calls Try.prog 6 #[.int .u8 y, .slice a N cap, .int .u16 z] w fun e w' => e = .returned (.bool true) ∧ Below w.heap.size w w' := by
  have HX := Lib.hid hx
  have HN := Lib.hid hN
  clear hx hN
  obtain ⟨x, hzx⟩ : ∃ x, z % 1000 = x := ⟨_, rfl⟩
  have x0 : 0 ≤ x := by omega
  have x1 : x ≤ 999 := by omega
  go_enter Try.func6, Try.ntmps6
  have hr1 : rightB 1 1 x = true := (right_iff 1 1 x).2 (by omega)
  have HR1 := Lib.hid hr1
  have HR2 : Hid (rightB 1 2 x = true) := Lib.hid ((right_iff 1 2 x).2 (by omega))
  have HR3 : Hid (rightB 1 3 x = true) := Lib.hid ((right_iff 1 3 x).2 (by omega))
  clear hr1
  go_wp2_with (first
    | (go_at_call 11; have _t := R7.out; refine (do_is _ X f7 1 2 x 0 false (woL x L) (woL x L) (R7.out.alloc _).mean (by have := HL.out; have := woL_len x L; omega) R7.out.good HR2.out U.out.o4 rfl U.out.m4).mono ?_; rintro e w8 ⟨f8, rfl, hm, hw⟩; have R8 := Lib.hid (((R7.out.alloc _).step hm hw R7.out.good).alloc (.cells #[.int .i64 0, .bool false, .int .i64 0] 37)); have K8 := Lib.hid (((K7.out.below ((Below.refl _ _).alloc (Nat.le_refl _) _)).went hw).below ((Below.refl _ _).alloc (Nat.le_refl _) (.cells #[.int .i64 0, .bool false, .int .i64 0] 37))); have P1 := Lib.hid (((P17.out.below ((Below.refl _ _).alloc (Nat.le_refl _) _)).went hw).below ((Below.refl _ _).alloc (Nat.le_refl _) (.cells #[.int .i64 0, .bool false, .int .i64 0] 37))); have P2 := Lib.hid (((P27.out.below ((Below.refl _ _).alloc (Nat.le_refl _) _)).went hw).below ((Below.refl _ _).alloc (Nat.le_refl _) (.cells #[.int .i64 0, .bool false, .int .i64 0] 37))); have P3 := Lib.hid (((Kp.new R7.out.mean.lt _ _).went hw).below ((Below.refl _ _).alloc (Nat.le_refl _) (.cells #[.int .i64 0, .bool false, .int .i64 0] 37))); have P4 := Lib.hid (Kp.new hm.lt #[.int .i64 0, .bool false, .int .i64 0] 37); clear hm hw)
    | (go_at_call 11; have _t := R6.out; refine (do_is _ X f6 1 2 x 0 true M (woL x L) (R6.out.alloc _).mean HM.out R6.out.good HR2.out U.out.o2 rfl U.out.m2).mono ?_; rintro e w7 ⟨f7, rfl, hm, hw⟩; have hg7 := R6.out.good.next HR2.out; rw [U.out.m2] at hg7; have R7 := Lib.hid ((R6.out.alloc _).step hm hw hg7); have K7 := Lib.hid ((K6.out.below ((Below.refl _ _).alloc (Nat.le_refl _) _)).went hw); have P17 := Lib.hid ((P16.out.below ((Below.refl _ _).alloc (Nat.le_refl _) _)).went hw); have P27 := Lib.hid ((Kp.new R6.out.mean.lt _ _).went hw); clear hm hw hg7)
    | (go_at_call 11; have _t := R5.out; refine (do_is _ X f5 1 3 x 0 true M M (R5.out.alloc _).mean HM.out R5.out.good HR3.out U.out.o3 rfl U.out.m3).mono ?_; rintro e w6 ⟨f6, rfl, hm, hw⟩; have R6 := Lib.hid ((R5.out.alloc _).step hm hw R5.out.good); have K6 := Lib.hid ((K5.out.below ((Below.refl _ _).alloc (Nat.le_refl _) _)).went hw); have P16 := Lib.hid ((Kp.new R5.out.mean.lt #[.int .i64 0, .bool (((woL x L).length : Int) == (L.length : Int)), .int .i64 0] 37).went hw); clear hm hw)
    | (go_at_call 11; have _t := R4.out; refine (do_is _ X f 1 1 x 0 (((woL x L).length : Int) == (L.length : Int)) L (nextL 1 L 1 x) R4.out.mean (by have := HL.out; omega) R4.out.good HR1.out (undo_ok R4.out.good HR1.out (Or.inl rfl)) rfl rfl).mono ?_; rintro e w5 ⟨f5, rfl, hm, hw⟩; have R5 := Lib.hid (R4.out.step hm hw (R4.out.good.next HR1.out)); have K5 := Lib.hid (K4.out.went hw); have U := Lib.hid (undo_set (Or.inl rfl) R4.out.good HR1.out); have HM : Hid ((nextL 1 L 1 x).length ≤ 999) := Lib.hid (by have := next_le 1 1 x L; have := HL.out; omega); generalize nextL 1 L 1 x = M at *; have HRISE := Lib.hid (R4.out.good.rise (Or.inl rfl)); clear hm hw)
    | (go_at_call 8; refine (awake_any _).mono ?_; rintro e w1 ⟨rfl, hb⟩; have HB := Lib.hid hb; clear hb)
    | (go_at_call 20; refine (rights_any _ 1 a os N cap HN.out (by omega) (HX.out.later HB.out)).mono ?_; rintro e w2 ⟨A2, c2, rfl, hrow2, hle2, hb⟩; have HB2 := Lib.hid (past HB.out hb); have HROW := Lib.hid hrow2; clear hb hrow2)
    | (go_at_call 18; refine (made_any _ 1 A2 c2 _ w os (by decide) (by rw [HN.out]; omega) HB2.out HROW.out).mono ?_; rintro e w3 ⟨X, f, v3, rfl, hrun, hl60, _, _⟩; have R3 := Lib.hid hrun; have HL := Lib.hid hl60; clear hrun hl60; generalize stateL 1 (rights 1 os) = L at *)
    | (go_at_call 15; refine (items_mean _ X f 1 L R3.out.mean (by have := HL.out; omega)).mono ?_; rintro e w4 ⟨A4, c4, g4, rfl, hr4, hg4, hb4⟩; have R4 := Lib.hid (R3.out.next hb4); have K4 : Hid (Rk w4 f g4 A4 c4 L) := Lib.hid ⟨hr4, fun hA hf => (by have h1 := R3.out.mean.lt _ hf; have h2 := hg4 hA; omega)⟩; clear hr4 hg4 hb4))
  have q1 := P1.out.cell 1
  have q2 := P2.out.cell 1
  have q3 := P3.out.cell 1
  have q4 := P4.out.cell 1
  simp only [List.getElem?_toArray, List.getElem?_cons_zero, List.getElem?_cons_succ] at q1 q2 q3 q4
  have hl61 : (L.length : Int) ≤ 60 := by have := HL.out; omega
  have Q1 := Lib.hid q1
  have Q2 := Lib.hid q2
  have Q3 := Lib.hid q3
  have Q4 := Lib.hid q4
  clear P1 P2 P3 P4 q1 q2 q3 q4 R5 R6 R7 K5 K6 K7 P16 P17 P27
  generalize w8.alloc (.cells #[.int .i64 0, .bool false, .int .i64 0] 37) = w9 at *
  obtain ⟨i0, hi, hz0, hz1, hz2⟩ := info_parts Tryinfo_int
  go_loopw [21, 97] (fun v i wr => ∃ k : Nat, k ≤ L.length ∧ i = .int .i64 k ∧ Lst w9 wr v (woL x (L.take k))) (fun _ i _ => L.length - (intOf i).toNat)
  case atStart => exact ⟨0, Nat.zero_le _, rfl, ⟨Own.nil _ _, Below.refl _ _⟩⟩
  case round =>
    obtain ⟨k, hk, rfl, hst⟩ := hrel
    have HS := Lib.hid hst
    have HSB := Lib.hid hst.below.size
    clear hst
    by_cases hlt : k < L.length
    · obtain ⟨o4, hA4, hrow⟩ := (K8.out.row.below HS.out.below).row (by rintro rfl; simp at hlt)
      have d0 := hrow.cell hlt
      have HT := Lib.hid (woL_take (x := x) hlt)
      have hwl : (woL x (L.take k)).length ≤ 60 := by have := woL_len x (L.take k); have := HL.out; simp at *; omega
      have hml : (woL x (L.take k)).length + 1 ≤ maxLen := by unfold maxLen; omega
      have go : k = 0 ∨ ∃ j, k = j + 1 := by cases k with | zero => exact Or.inl rfl | succ j => exact Or.inr ⟨j, rfl⟩
      have d1 : ∀ j, k = j + 1 → wr.cell? ⟨g4, o4 + j, none⟩ = some (.int .i64 (L.getD j 0)) ∧ L.getD j 0 < L.getD k 0 := fun j hj => ⟨hrow.cell (by omega), rise_get HRISE.out (by omega) hlt⟩
      have HD1 := Lib.hid d1
      clear hrow d1
      generalize L.getD k 0 = q at *
      by_cases hq : q = x
      · subst hq
        have HE : Hid (woL q (L.take (k + 1)) = woL q (L.take k)) := by show _ = _; rw [HT.out]; simp
        rcases go with rfl | ⟨j, rfl⟩
        · subst hA4
          have d00 : wr.cell? ⟨g4, o4, none⟩ = some (.int .i64 q) := d0
          clear HD1 d0
          go_wp2
          go_roundw
          case rel => exact ⟨1, by omega, rfl, by rw [show (1 : Nat) = 0 + 1 from rfl, HE.out]; exact HS.out⟩
          case measure => simp [intOf]; omega
        · subst hA4
          obtain ⟨d1, d2⟩ := HD1.out j rfl
          generalize L.getD j 0 = p at *
          have hj1 : (((j + 1 : Nat) : Int) - 1) = (j : Int) := by omega
          have hj0 : (0 : Int) < ((j + 1 : Nat) : Int) := by omega
          have hd3 : ¬ q ≤ p := by omega
          have hjl : (j : Int) < (L.length : Int) := by omega
          have hjl1 : ((j + 1 : Nat) : Int) < (L.length : Int) := by omega
          clear HD1
          go_wp2
          go_roundw
          case rel => exact ⟨j + 1 + 1, by omega, by go_num, by rw [HE.out]; exact HS.out⟩
          case measure => simp [intOf]; omega
      · have HE : Hid (woL x (L.take (k + 1)) = woL x (L.take k) ++ [q]) := by show _ = _; rw [HT.out, if_pos hq]
        have hqb : (q == x) = false := beq_eq_false_iff_ne.2 hq
        clear hq
        rcases go with rfl | ⟨j, rfl⟩
        · subst hA4
          have d00 : wr.cell? ⟨g4, o4, none⟩ = some (.int .i64 q) := d0
          clear HD1 d0
          go_wp2_with (at_builtin; refine wpList_append_own _ rfl (.tmp 116) (.tmp 118) 29 rfl w9.heap.size 3 i0 (.int .i64 0) 1 8 Try.underlying29 hi hz0 hz1 hz2 rfl (by decide) _ (woL x (L.take 0)).length ((woL x (L.take 0)).map (Value.int .i64)) rfl (HS.out.own.below ((Below.refl _ _).alloc (Nat.le_refl _) (.cells #[.int .i64 q] 3))) ⟨wr.heap.size, 0, none⟩ 1 1 [.int .i64 q] rfl rfl (cell_one_new _ _ _) (one_cell _ rfl) hml (by omega) (by have := HSB.out; simp; omega) ?_; intro v' w3 hown' hgrow _; have L3 := Lib.hid (HS.out.more hown' hgrow); clear hown' hgrow)
          go_roundw
          case rel => exact ⟨1, by omega, rfl, by rw [show (1 : Nat) = 0 + 1 from rfl, HE.out]; exact L3.out⟩
          case measure => simp [intOf]; omega
        · subst hA4
          obtain ⟨d1, d2⟩ := HD1.out j rfl
          generalize L.getD j 0 = p at *
          have hj1 : (((j + 1 : Nat) : Int) - 1) = (j : Int) := by omega
          have hj0 : (0 : Int) < ((j + 1 : Nat) : Int) := by omega
          have hd3 : ¬ q ≤ p := by omega
          have hjl : (j : Int) < (L.length : Int) := by omega
          have hjl1 : ((j + 1 : Nat) : Int) < (L.length : Int) := by omega
          clear HD1
          go_wp2_with (at_builtin; refine wpList_append_own _ rfl (.tmp 116) (.tmp 118) 29 rfl w9.heap.size 3 i0 (.int .i64 0) 1 8 Try.underlying29 hi hz0 hz1 hz2 rfl (by decide) _ (woL x (L.take (j + 1))).length ((woL x (L.take (j + 1))).map (Value.int .i64)) rfl (HS.out.own.below ((Below.refl _ _).alloc (Nat.le_refl _) (.cells #[.int .i64 q] 3))) ⟨wr.heap.size, 0, none⟩ 1 1 [.int .i64 q] rfl rfl (cell_one_new _ _ _) (one_cell _ rfl) hml (by omega) (by have := HSB.out; simp; omega) ?_; intro v' w3 hown' hgrow _; have L3 := Lib.hid (HS.out.more hown' hgrow); clear hown' hgrow)
          go_roundw
          case rel => exact ⟨j + 1 + 1, by omega, by go_num, by rw [HE.out]; exact L3.out⟩
          case measure => simp [intOf]; omega
    · obtain rfl : k = L.length := by omega
      have hs := HS.out
      rw [List.take_length] at hs
      obtain ⟨A5, c5, g5, hv5, hr5, _⟩ := hs.own.rw
      subst hv5
      have HR5 := Lib.hid hr5
      have HW := Lib.hid hs.below
      have q1 := (hs.below.cell (World.block_lt_of_cell? w9 _ Q1.out)).trans Q1.out
      have q2 := (hs.below.cell (World.block_lt_of_cell? w9 _ Q2.out)).trans Q2.out
      have q3 := (hs.below.cell (World.block_lt_of_cell? w9 _ Q3.out)).trans Q3.out
      have q4 := (hs.below.cell (World.block_lt_of_cell? w9 _ Q4.out)).trans Q4.out
      have hwl : (woL x L).length ≤ 60 := by have := woL_len x L; have := HL.out; omega
      have HWL := Lib.hid hwl
      clear hs HS hr5 Q1 Q2 Q3 Q4 hwl
      go_wp2_with (first
        | (go_at_call 16; refine (ints_any _ g7 c7 g5 c5 A7 A5 (woL x L) (woL x L) R10.out R11.out (by have := HWL.out; omega) (by have := HWL.out; omega)).mono ?_; rw [decide_eq_true rfl]; rintro e w11 ⟨rfl, hw⟩; have B11 := Lib.hid (past B10.out (drewN_below hw)); clear hw)
        | (go_at_call 15; refine (items_mean _ X f8 1 (woL x L) (R8.out.next HW.out).mean (by have := HWL.out; omega)).mono ?_; rintro e w10 ⟨A7, c7, g7, rfl, hr7, hg7, hb7⟩; have B10 := Lib.hid ((R8.out.next HW.out).next hb7).below; have R10 := Lib.hid hr7; have R11 := Lib.hid (HR5.out.below hb7); clear hr7 hg7 hb7))
      go_returns
      exact ⟨rfl, B11.out⟩
end Go.Proofs.Ytehjlmolnmiopaa.spec
