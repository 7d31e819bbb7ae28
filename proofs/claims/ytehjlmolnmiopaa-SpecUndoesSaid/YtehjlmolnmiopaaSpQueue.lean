/- The law SpecUndoes answers true of a queue. -/
import Derived.Test.YtehjlmolnmiopaaSpUndo
namespace Go.Proofs.Ytehjlmolnmiopaa.spec
open Go.RowKit task
attribute [local go_sem] eq_res

theorem Run.grown {W w w' : World} {X : Nat} {f : Nat → Prop} {s : Int} {L : List Int} {row : Option Nat} (h : Run W w X f s L) (hg : w.grownBy w' row) (hr : ∀ b, row = some b → w.heap.size ≤ b ∨ ¬ f b ∧ W.heap.size ≤ b) : Run W w' X f s L :=
  ⟨h.mean.grown hg fun b hb hf => (hr b hb).elim (fun h1 => by have := h.mean.lt b hf; omega) (fun h1 => h1.1 hf), h.good, h.new, h.below.grown hg h.below.size fun b hb => (hr b hb).elim (fun h1 => Nat.le_trans h.below.size h1) (fun h1 => h1.2)⟩
/-- What was there, and one more, in a list of the call's own. -/
structure Qs (W w : World) (lo X : Nat) (f : Nat → Prop) (s : Int) (Q : List Int) (v : Value) (xs : List Int) : Prop where
  run : Run W w X f s Q
  own : Own w lo v xs
  old : ∀ b, f b → b < lo
  lo : W.heap.size ≤ lo ∧ lo ≤ w.heap.size
theorem Qs.next {W w w' : World} {lo X : Nat} {f : Nat → Prop} {s : Int} {Q xs : List Int} {v : Value} (h : Qs W w lo X f s Q v xs) (hb : Below w.heap.size w w') : Qs W w' lo X f s Q v xs :=
  ⟨h.run.next hb, h.own.below hb, h.old, h.lo.1, Nat.le_trans h.lo.2 hb.size⟩
theorem Qs.more {W w w' : World} {lo X : Nat} {f : Nat → Prop} {s : Int} {Q xs ys : List Int} {v v' : Value} (h : Qs W w lo X f s Q v xs) (ho : Own w' lo v' ys) (hg : w.grownBy w' v.ownBlock) : Qs W w' lo X f s Q v' ys :=
  ⟨h.run.grown hg fun b hb => Or.inr ⟨fun hf => by have h1 := h.old b hf; have h2 := (h.own.at hb).1; omega, Nat.le_trans h.lo.1 (h.own.at hb).1⟩, ho, h.old, h.lo.1, Nat.le_trans h.lo.2 hg.size⟩

set_option maxRecDepth 100000 in
set_option maxHeartbeats 8000000 in
theorem undo_queue (w : World) (y z : Int) (a : Option Addr) (os : List OpV) (N cap : Nat) (hN : os.length = N) (hl : (N : Int) ≤ 60) (hx : OpsAt w a os) (y0 : 0 ≤ y) (y1 : y < 256) (z0 : 0 ≤ z) (z1 : z < 65536) (hs : y % 4 = 2) :
    Calls Try.prog 6 #[.int .u8 y, .slice a N cap, .int .u16 z] w fun e w' => e = .returned (.bool true) ∧ Below w.heap.size w w' := by
  have HX := Lib.hid hx
  have HN := Lib.hid hN
  clear hx hN
  obtain ⟨x, hzx⟩ : ∃ x, z % 1000 = x := ⟨_, rfl⟩
  have x0 : 0 ≤ x := by omega
  have x1 : x ≤ 999 := by omega
  go_enter Try.func6, Try.ntmps6
  have HR4 : Hid (rightB 3 4 x = true) := Lib.hid ((right_iff 3 4 x).2 (by omega))
  have HR5 : Hid (rightB 3 5 0 = true) := Lib.hid (by decide)
  obtain ⟨i0, hi, hz0, hz1, hz2⟩ := info_parts Tryinfo_int
  go_wp2_with (first
    | (at_builtin; have _t := O6.out; go_loud (refine wpList_append_own _ rfl (.tmp 158) (.tmp 160) 29 rfl w5.heap.size 3 i0 (.int .i64 0) 1 8 Try.underlying29 hi hz0 hz1 hz2 rfl (by decide) v6 L.length (L.map (Value.int .i64)) rfl (O6.out.next ((Below.refl _ _).alloc (Nat.le_refl _) (.cells #[.int .i64 x] 3))).own ⟨w6.heap.size, 0, none⟩ 1 1 [.int .i64 x] rfl rfl (cell_one_new _ _ _) (one_cell _ rfl) (by have := HL.out; unfold maxLen; omega) (by have := HL.out; omega) (O6.out.next ((Below.refl _ _).alloc (Nat.le_refl _) (.cells #[.int .i64 x] 3))).lo.2 ?_; intro v7 w7 hown7 hgrow7 _; have O7 : Hid (Qs w w7 w5.heap.size X f5 3 (L ++ [x]) v7 (L ++ [x])) := Lib.hid ((O6.out.next ((Below.refl _ _).alloc (Nat.le_refl _) (.cells #[.int .i64 x] 3))).more (by unfold Own; rw [List.length_append, List.map_append]; exact hown7) hgrow7); clear hown7 hgrow7; obtain ⟨A7, c7, g7, hv7, hr7, hg7⟩ := O7.out.own.rw; subst hv7; have K7 : Hid (Rk w7 f5 g7 A7 c7 (L ++ [x])) := Lib.hid ⟨hr7, fun hA hf => (by have h1 := O7.out.old _ hf; have h2 := hg7 hA; omega)⟩; clear hr7 hg7))
    | (at_builtin; have _t := O5.out; go_loud (obtain ⟨v6, w6, hrun6, ho6, hgr6, _⟩ := append_rw _ 29 w5.heap.size _ [] L g4 c4 A4 O5.out.own (K5.out.below ((Below.refl _ _).alloc (Nat.le_refl _) (.cells #[] 3))).row O5.out.lo.2 (by have := HL.out; simp; omega); refine wpList_known rfl (.tmp 156) (.tmp 157) 29 rfl _ _ v6 w6 rfl rfl hrun6 ?_; have O6 := Lib.hid (O5.out.more ho6 hgr6); clear hrun6 ho6 hgr6))
    | (go_at_call 11; have _t := R4.out; refine (do_is _ X f 3 4 x 0 true L (L ++ [x]) R4.out.mean (by have := HL.out; omega) R4.out.good HR4.out rfl rfl rfl).mono ?_; rintro e w5 ⟨f5, rfl, hm, hw⟩; have R5 := Lib.hid (R4.out.step hm hw (R4.out.good.next HR4.out)); have K5 := Lib.hid (K4.out.went hw); have O5 : Hid (Qs w (w5.alloc (.cells #[] 3)) w5.heap.size X f5 3 (L ++ [x]) (.slice (some ⟨w5.heap.size, 0, none⟩) 0 0) []) := Lib.hid ⟨R5.out.alloc _, World.ownsRow_made w5 #[] 0 (Nat.le_refl _) (by unfold maxLen; omega) rfl, R5.out.mean.lt, R5.out.below.size, by simp⟩; clear hm hw)
    | (go_at_call 8; refine (awake_any _).mono ?_; rintro e w1 ⟨rfl, hb⟩; have HB := Lib.hid hb; clear hb)
    | (go_at_call 20; refine (rights_any _ 3 a os N cap HN.out (by omega) (HX.out.later HB.out)).mono ?_; rintro e w2 ⟨A2, c2, rfl, hrow2, hle2, hb⟩; have HB2 := Lib.hid (past HB.out hb); have HROW := Lib.hid hrow2; clear hb hrow2)
    | (go_at_call 18; refine (made_any _ 3 A2 c2 _ w os (by decide) (by rw [HN.out]; omega) HB2.out HROW.out).mono ?_; rintro e w3 ⟨X, f, v3, rfl, hrun, hl60, _, _⟩; have R3 := Lib.hid hrun; have HL := Lib.hid hl60; clear hrun hl60; generalize stateL 3 (rights 3 os) = L at *)
    | (go_at_call 15; refine (items_mean _ X f 3 L R3.out.mean (by have := HL.out; omega)).mono ?_; rintro e w4 ⟨A4, c4, g4, rfl, hr4, hg4, hb4⟩; have R4 := Lib.hid (R3.out.next hb4); have K4 : Hid (Rk w4 f g4 A4 c4 L) := Lib.hid ⟨hr4, fun hA hf => (by have h1 := R3.out.mean.lt _ hf; have h2 := hg4 hA; omega)⟩; clear hr4 hg4 hb4))
  obtain ⟨o7, hA7, hrow7⟩ := K7.out.row.row (by simp)
  subst hA7
  clear hrow7
  have R7 := Lib.hid O7.out.run
  have HQ : Hid ((L ++ [x]).length ≤ 61) := by show _ ≤ _; have := HL.out; simp; omega
  have hql : ((L ++ [x]).length : Int) = (L.length : Int) + 1 := by simp
  have HQL := Lib.hid hql
  clear hql
  have hl61 : (L.length : Int) ≤ 60 := by have := HL.out; omega
  generalize L ++ [x] = Q at *
  go_loopw [163] (fun i wr => ∃ (k : Nat) (f' : Nat → Prop), k ≤ Q.length ∧ i = .int .i64 k ∧ Run w wr X f' 3 (Q.drop k) ∧ Rk wr f' g7 (some ⟨g7, o7, none⟩) c7 Q) (fun i _ => Q.length - (intOf i).toNat)
  case atStart => exact ⟨0, f5, Nat.zero_le _, rfl, R7.out, K7.out⟩
  case round =>
    obtain ⟨k, f', hk, rfl, hr, hkk⟩ := hrel
    have HR := Lib.hid hr
    have HK := Lib.hid hkk
    clear hr hkk
    by_cases hlt : k < Q.length
    · have hd : Q.drop k = Q.getD k 0 :: Q.drop (k + 1) := by rw [List.drop_eq_getElem_cons hlt]; simp [List.getD_eq_getElem?_getD, List.getElem?_eq_getElem hlt]
      have HD := Lib.hid hd
      obtain ⟨o', ho', hrow⟩ := HK.out.row.row (by rintro rfl; simp at hlt)
      obtain rfl : o7 = o' := by simpa using ho'
      have c0 := hrow.cell hlt
      clear hrow hd ho'
      generalize Q.getD k 0 = q at *
      have hlt2 : (k : Int) < (L.length : Int) + 1 := by have := HQL.out; omega
      go_wp2_with (go_at_call 11; go_loud (refine (do_is _ X f' 3 5 0 q true (q :: Q.drop (k + 1)) (Q.drop (k + 1)) (by rw [← HD.out]; exact HR.out.mean) (by rw [← HD.out]; have := HQ.out; simp; omega) (by rw [← HD.out]; exact HR.out.good) HR5.out rfl rfl rfl).mono ?_; rintro e w8 ⟨f8, rfl, hm, hw⟩; have hg8 := HR.out.good.next HR5.out; rw [HD.out] at hg8; have R8 := Lib.hid (HR.out.step hm hw hg8); have K8 := Lib.hid (HK.out.went hw); clear hm hw hg8))
      go_roundw
      case rel => exact ⟨k + 1, f8, by omega, by go_num, R8.out.alloc _, K8.out.below ((Below.refl _ _).alloc (Nat.le_refl _) _)⟩
      case measure => simp [intOf]; omega
    · obtain rfl : k = Q.length := by omega
      have hd : Q.drop Q.length = [] := List.drop_length
      have HD := Lib.hid hd
      clear hd
      have hge : (L.length : Int) + 1 ≤ (Q.length : Int) := by have := HQL.out; omega
      go_wp2_with (first
        | (go_at_call 14; have _t := R8.out; refine (len_mean _ X f8 3 [] (R8.out.alloc _).mean (by simp)).mono ?_; rintro e w9 ⟨rfl, hw⟩; have B9 := Lib.hid ((R8.out.alloc (.cells #[.int .i64 0, .bool false, .int .i64 0] 37)).next (drewN_below hw)); clear hw)
        | (go_at_call 11; go_loud (refine (do_is _ X f' 3 5 0 0 false [] [] (by rw [← HD.out]; exact HR.out.mean) (by simp) (Good.nil _) HR5.out rfl rfl rfl).mono ?_; rintro e w8 ⟨f8, rfl, hm, hw⟩; have R8 := Lib.hid (HR.out.step hm hw (Good.nil _)); clear hm hw)))
      go_returns
      exact ⟨rfl, B9.out.below⟩
end Go.Proofs.Ytehjlmolnmiopaa.spec
