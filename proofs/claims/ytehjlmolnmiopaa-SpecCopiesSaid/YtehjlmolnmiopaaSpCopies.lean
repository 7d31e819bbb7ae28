/- The law SpecCopies answers true at any shape and any operations. -/
import Derived.Test.YtehjlmolnmiopaaSpCopy
namespace Go.Proofs.Ytehjlmolnmiopaa.spec
open Go.RowKit task

/-- A meaning, its copy, the items that were handed out, and what is done to the copy. -/
structure Twin (W w : World) (X : Nat) (f : Nat → Prop) (s : Int) (L : List Int) (Y : Nat) (h : Nat → Prop) (M : List Int) (g : Nat) (A : Option Addr) (c : Nat) (R : Value) (rs : List OpV) : Prop where
  a : Run W w X f s L
  b : Run W w Y h s M
  dis : ∀ b, f b → ¬ h b
  was : Rk w h g A c L
  far : A ≠ none → ¬ f g ∧ W.heap.size ≤ g
  ops : OpRow w W.heap.size R rs
  off : ∀ b, R.ownBlock = some b → ¬ h b
section
variable {W w w' : World} {X Y g c : Nat} {f h h' : Nat → Prop} {s : Int} {L M N : List Int} {A : Option Addr} {R : Value} {rs : List OpV}
theorem Twin.next (t : Twin W w X f s L Y h M g A c R rs) (hb : Below w.heap.size w w') : Twin W w' X f s L Y h M g A c R rs :=
  ⟨t.a.next hb, t.b.next hb, t.dis, t.was.below hb, t.far, owns_below t.ops hb, t.off⟩
theorem Twin.alloc (t : Twin W w X f s L Y h M g A c R rs) (o : Obj) : Twin W (w.alloc o) X f s L Y h M g A c R rs := t.next ((Below.refl _ _).alloc (Nat.le_refl _) o)
theorem Twin.step (t : Twin W w X f s L Y h M g A c R rs) (hm : Mean w' Y h' s N) (hw : Went h h' w w') (hg : Good s N) : Twin W w' X f s L Y h' N g A c R rs :=
  ⟨⟨t.a.mean.apart hw t.dis, t.a.good, t.a.new, hw.below t.a.below t.a.below.size t.b.new⟩, t.b.step hm hw hg, fun b hf hh => hw.apart (t.a.mean.lt b hf) (t.dis b hf) hh, t.was.went hw, t.far, owns_went t.ops hw t.off, fun b hR => hw.apart (World.ownsRow.lt t.ops b hR).2 (t.off b hR)⟩
end

theorem owns_lower {w : World} {base base' size n : Nat} {e : TypeId} {v : Value} {xs : List Value} (h : w.ownsRow base e size v n xs) (hb : base' ≤ base) : w.ownsRow base' e size v n xs := by
  obtain ⟨hl, h | ⟨g, cap, cur, hv, h0, hg⟩⟩ := h
  · exact ⟨hl, .inl h⟩
  · exact ⟨hl, .inr ⟨g, cap, cur, hv, Nat.le_trans hb h0, hg⟩⟩
/-- Its first k numbers made -1. -/
def negL (k : Nat) (L : List Int) : List Int := List.replicate k (-1) ++ L.drop k
theorem negL_len {k : Nat} {L : List Int} (hk : k ≤ L.length) : (negL k L).length = L.length := by
  unfold negL
  simp
  omega
theorem negL_set {k : Nat} {L : List Int} (hk : k < L.length) : (negL k L).set k (-1) = negL (k + 1) L := by
  unfold negL
  rw [List.set_append, if_neg (by simp), List.length_replicate, Nat.sub_self, List.drop_eq_getElem_cons hk, List.set_cons_zero, List.replicate_succ', List.append_assoc]
  rfl
theorem Row.put {w : World} {g o c : Nat} {xs : List Int} (h : Row w g o c xs) {j : Nat} (hj : j < xs.length) (v : Int) : Row (w.setCell ⟨g, o + j, none⟩ (.int .i64 v)) g o c (xs.set j v) := by
  have hl := h.len
  obtain ⟨cur, h1, h2, h3⟩ := h.blk
  refine ⟨by simpa using hl, h.big, _, Joins.block_setCell (i := o + j) h1 _, by simpa using h2, fun i hi => ?_⟩
  simp at hi
  rw [Array.getElem?_setIfInBounds]
  by_cases he : j = i
  · subst he
    rw [if_pos rfl, if_pos (by omega)]
    simp [List.getD_eq_getElem?_getD, hi]
  · rw [if_neg (by omega), h3 i hi]
    simp [List.getD_eq_getElem?_getD, he]

theorem same_eq (w : World) (X X' : Nat) (f f' : Nat → Prop) (s : Int) (L L' : List Int) (h : Mean w X f s L) (h' : Mean w X' f' s L') (hl : L.length ≤ 1000) (hl' : L'.length ≤ 1000) :
    Calls Try.prog 22 #[.pointer (some ⟨X, 0, none⟩), .pointer (some ⟨X', 0, none⟩)] w fun e w' => e = .returned (.bool (decide (L' = L))) ∧ Below w.heap.size w w' := by
  have hq : decide (s = s ∧ L = L') = decide (L' = L) := by
    by_cases h : L' = L
    · subst h; simp
    · rw [decide_eq_false h, decide_eq_false (fun h' => h h'.2.symm)]
  have hc := same_any w X X' f f' s s L L' h h' hl hl'
  rw [hq] at hc
  exact hc
theorem Run.put {W w : World} {X g i : Nat} {f : Nat → Prop} {s : Int} {L : List Int} (h : Run W w X f s L) (hf : ¬ f g) (hg : W.heap.size ≤ g) (v : Value) : Run W (w.setCell ⟨g, i, none⟩ v) X f s L :=
  ⟨h.mean.moved (by simp) (fun b hb => Below.heap_setCell _ _ _ _ (fun e => hf (by rw [← (show b = g from e)]; exact hb))), h.good, h.new, h.below.setCell (p := ⟨g, i, none⟩) hg v⟩

set_option maxRecDepth 100000 in
set_option maxHeartbeats 1000000 in
theorem copies_long (w : World) (y : Int) (a a2 : Option Addr) (N cap M cap2 : Nat) (hl : 60 < (N : Int) ∨ 60 < (M : Int)) (y0 : 0 ≤ y) (y1 : y < 256) :
    Calls Try.prog 5 #[.int .u8 y, .slice a N cap, .slice a2 M cap2] w fun e w' => e = .returned (.bool true) ∧ Below w.heap.size w w' := by
  by_cases h1 : 60 < (N : Int)
  · clear hl
    go_enter Try.func5, Try.ntmps5
    go_wp2_with (go_at_call 8; refine (awake_any _).mono ?_; rintro e w1 ⟨rfl, hb⟩; have HB := Lib.hid hb; clear hb)
    go_returns
    exact ⟨rfl, HB.out⟩
  · have h2 : 60 < (M : Int) := by omega
    have h3 : decide (60 < (N : Int)) = false := decide_eq_false h1
    clear hl h1
    go_enter Try.func5, Try.ntmps5
    go_wp2_with (go_at_call 8; refine (awake_any _).mono ?_; rintro e w1 ⟨rfl, hb⟩; have HB := Lib.hid hb; clear hb)
    go_returns
    exact ⟨rfl, HB.out⟩

set_option maxRecDepth 100000 in
set_option maxHeartbeats 8000000 in
theorem copies_short (w : World) (y : Int) (a : Option Addr) (os : List OpV) (N cap : Nat) (hN : os.length = N) (hx : OpsAt w a os) (a2 : Option Addr) (os2 : List OpV) (M cap2 : Nat) (hM : os2.length = M) (hx2 : OpsAt w a2 os2) (hl : (N : Int) ≤ 60) (hl2 : (M : Int) ≤ 60) (y0 : 0 ≤ y) (y1 : y < 256) :
    Calls Try.prog 5 #[.int .u8 y, .slice a N cap, .slice a2 M cap2] w fun e w' => e = .returned (.bool true) ∧ Below w.heap.size w w' := by
  have HX := Lib.hid hx
  have HN := Lib.hid hN
  have HX2 := Lib.hid hx2
  have HM := Lib.hid hM
  have h3 : decide (60 < (N : Int)) = false := decide_eq_false (by omega)
  have h4 : decide (60 < (M : Int)) = false := decide_eq_false (by omega)
  clear hx hN hx2 hM
  obtain ⟨s, hs⟩ : ∃ s, 1 + y % 4 = s := ⟨_, rfl⟩
  have s0 : 1 ≤ s := by omega
  have s1 : s ≤ 4 := by omega
  have HS : Hid (1 ≤ s ∧ s ≤ 4) := ⟨s0, s1⟩
  go_enter Try.func5, Try.ntmps5
  go_wp2_with (first
    | (go_at_call 8; refine (awake_any _).mono ?_; rintro e w1 ⟨rfl, hb⟩; have HB := Lib.hid hb; clear hb)
    | (go_at_call 20; have _t := T8.out; go_loud (refine (rights_any _ s a2 os2 M cap2 HM.out (by omega) (HX2.out.later T8.out.1.below)).mono ?_; rintro e w9 ⟨A9, c9, rfl, hrow9, hle9, hb⟩; have T9 : Hid (Twin w w9 X f s L Xc fc L g8 A8 c8 (.slice A9 (rights s os2).length c9) (rights s os2)) := Lib.hid ⟨T8.out.1.next hb, T8.out.2.1.next hb, T8.out.2.2.1, T8.out.2.2.2.1.below hb, T8.out.2.2.2.2, owns_lower hrow9 T8.out.1.below.size, fun b hR hf => (by have h1 := T8.out.2.1.mean.lt _ hf; have h2 := (World.ownsRow.lt hrow9 b hR).1; omega)⟩; clear hb hrow9))
    | (go_at_call 20; refine (rights_any _ s a os N cap HN.out (by omega) (HX.out.later HB.out)).mono ?_; rintro e w2 ⟨A2, c2, rfl, hrow2, hle2, hb⟩; have HB2 := Lib.hid (past HB.out hb); have HROW := Lib.hid hrow2; clear hb hrow2)
    | (go_at_call 18; refine (made_any _ s A2 c2 _ w os HS.out (by rw [HN.out]; omega) HB2.out HROW.out).mono ?_; rintro e w3 ⟨X, f, v3, rfl, hrun, hl60, _, _⟩; have R3 := Lib.hid hrun; have HL := Lib.hid hl60; clear hrun hl60; generalize stateL s (rights s os) = L at *)
    | (go_at_call 21; refine (copy_any _ X f s L R3.out.mean (by have := HL.out; omega)).mono ?_; rintro e w4 ⟨Xc, fc, rfl, hm4, hn4, hb4⟩; have T4 : Hid (Run w w4 X f s L ∧ Run w w4 Xc fc s L ∧ ∀ b, f b → ¬ fc b) := Lib.hid ⟨R3.out.next hb4, ⟨hm4, R3.out.good, fun b hb => Nat.le_trans R3.out.below.size (hn4 b hb), past R3.out.below hb4⟩, fun b hf hc => (by have h1 := R3.out.mean.lt _ hf; have h2 := hn4 _ hc; omega)⟩; clear hm4 hn4 hb4)
    | (go_at_call 22; have _t := T6.out; refine (same_nil _ X).mono ?_; rintro e w7 ⟨rfl, hb⟩; have T7 : Hid (Run w w7 X f s L ∧ Run w w7 Xc fc s L ∧ ∀ b, f b → ¬ fc b) := Lib.hid ⟨T6.out.1.next hb, T6.out.2.1.next hb, T6.out.2.2⟩; clear hb)
    | (go_at_call 22; have _t := T5.out; refine (same_any _ X Xc f fc s s L L T5.out.1.mean T5.out.2.1.mean (by have := HL.out; omega) (by have := HL.out; omega)).mono ?_; rw [decide_eq_true ⟨rfl, rfl⟩]; rintro e w6 ⟨rfl, hb⟩; have T6 : Hid (Run w w6 X f s L ∧ Run w w6 Xc fc s L ∧ ∀ b, f b → ¬ fc b) := Lib.hid ⟨T5.out.1.next hb, T5.out.2.1.next hb, T5.out.2.2⟩; clear hb)
    | (go_at_call 22; have _t := T4.out; refine (same_any _ Xc X fc f s s L L T4.out.2.1.mean T4.out.1.mean (by have := HL.out; omega) (by have := HL.out; omega)).mono ?_; rw [decide_eq_true ⟨rfl, rfl⟩]; rintro e w5 ⟨rfl, hb⟩; have T5 : Hid (Run w w5 X f s L ∧ Run w w5 Xc fc s L ∧ ∀ b, f b → ¬ fc b) := Lib.hid ⟨T4.out.1.next hb, T4.out.2.1.next hb, T4.out.2.2⟩; clear hb)
    | (go_at_call 15; have _t := T7.out; refine (items_mean _ X f s L T7.out.1.mean (by have := HL.out; omega)).mono ?_; rintro e w8 ⟨A8, c8, g8, rfl, hr8, hg8, hb8⟩; have T8 : Hid (Run w w8 X f s L ∧ Run w w8 Xc fc s L ∧ (∀ b, f b → ¬ fc b) ∧ Rk w8 fc g8 A8 c8 L ∧ (A8 ≠ none → ¬ f g8 ∧ w.heap.size ≤ g8)) := Lib.hid ⟨T7.out.1.next hb8, T7.out.2.1.next hb8, T7.out.2.2, ⟨hr8, fun hA hf => (by have h1 := T7.out.2.1.mean.lt _ hf; have h2 := hg8 hA; omega)⟩, fun hA => ⟨fun hf => (by have h1 := T7.out.1.mean.lt _ hf; have h2 := hg8 hA; omega), Nat.le_trans T7.out.1.below.size (hg8 hA)⟩⟩; clear hr8 hg8 hb8))
  have HRA := Lib.hid (rights_all s os2)
  have hrl : (rights s os2).length ≤ 60 := by have := rights_len s os2; have := HM.out; omega
  generalize rights s os2 = rs at *
  go_loopw [77] (fun i wr => ∃ (k : Nat) (h' : Nat → Prop) (Lc : List Int), k ≤ rs.length ∧ i = .int .i64 k ∧ Twin w wr X f s L Xc h' Lc g8 A8 c8 (.slice A9 rs.length c9) rs ∧ Lc.length ≤ 60 + k) (fun i _ => rs.length - (intOf i).toNat)
  case atStart => exact ⟨0, fc, L, Nat.zero_le _, rfl, T9.out, HL.out⟩
  case round =>
    obtain ⟨k, h', Lc, hk, rfl, ht, hlc⟩ := hrel
    have HT := Lib.hid ht
    have HLC : Hid (Lc.length ≤ 200) := by show _ ≤ _; omega
    clear ht
    by_cases hlt : k < rs.length
    · obtain ⟨b, hA9, d0, d1⟩ := (OpRow.ops HT.out.ops) k hlt
      subst hA9
      have HRK := Lib.hid (right_at HRA.out hlt)
      generalize rs[k] = o at *
      obtain ⟨K, Y⟩ := o
      simp only at d0 d1
      have hnl := next_le s K Y Lc
      have HNL := Lib.hid hnl
      clear hnl
      go_wp2_with (go_at_call 11; go_loud (refine (do_right _ Xc h' s K Y Lc (HT.out.alloc _).b.mean (by have := HLC.out; omega) HT.out.b.good HRK.out).mono ?_; rintro e w10 ⟨h'', rfl, hm, hw⟩; have T10 := Lib.hid ((HT.out.alloc _).step hm hw (HT.out.b.good.next HRK.out)); clear hm hw))
      go_roundw
      case rel => exact ⟨k + 1, h'', nextL s Lc K Y, by omega, by go_num, T10.out, by have := HNL.out; omega⟩
      case measure => simp [intOf]; omega
    · obtain rfl : k = rs.length := by omega
      have hcx := HT.out.a.mean.cell2
      go_wp2
      go_region_held3 (fun wx => wx.cell? ⟨X, 2, none⟩ = some (.int .i64 s)) (go_keep) (first
        | (go_at_call 16; have _t := U4.out; go_loud (refine (ints_any _ g13 c13 g8 c8 A13 A8 Lc L R13.out U4.out.was.row (by have := HLC.out; omega) (by have := HL.out; omega)).mono ?_; rintro e w14 ⟨rfl, hw⟩; have U5 := Lib.hid (U4.out.next (drewN_below hw)); have hc5 := U5.out.a.mean.cell2; clear hw))
        | (go_at_call 15; have _t := U3.out; go_loud (refine (items_mean _ Xc h' s Lc U3.out.b.mean (by have := HLC.out; omega)).mono ?_; rintro e w13 ⟨A13, c13, g13, rfl, hr13, _, hb⟩; have U4 := Lib.hid (U3.out.next hb); have R13 := Lib.hid hr13; have hc4 := U4.out.a.mean.cell2; clear hr13 hb))
        | (go_at_call 22; have _t := U2.out; go_loud (refine (same_eq _ X Xc f h' s L Lc U2.out.a.mean U2.out.b.mean (by have := HL.out; omega) (by have := HLC.out; omega)).mono ?_; rintro e w12 ⟨rfl, hb⟩; have U3 := Lib.hid (U2.out.next hb); have hc3 := U3.out.a.mean.cell2; clear hb))
        | (go_at_call 16; have _t := U1.out; go_loud (refine (ints_any _ g10 c10 g8 c8 A10 A8 L L R10.out U1.out.was.row (by have := HL.out; omega) (by have := HL.out; omega)).mono ?_; rw [decide_eq_true rfl]; rintro e w11 ⟨rfl, hw⟩; have U2 := Lib.hid (U1.out.next (drewN_below hw)); have hc2 := U2.out.a.mean.cell2; clear hw))
        | (go_at_call 15; go_loud (refine (items_mean _ X f s L (HT.out.next (Below.refl _ _).drew).a.mean (by have := HL.out; omega)).mono ?_; rintro e w10 ⟨A10, c10, g10, rfl, hr10, _, hb⟩; have U1 := Lib.hid ((HT.out.next (Below.refl _ _).drew).next hb); have R10 := Lib.hid hr10; have hc1 := U1.out.a.mean.cell2; clear hr10 hb)))
      have V0 : Hid (Run w w14 X f s L ∧ Rw w14 g8 A8 c8 L ∧ (A8 ≠ none → ¬ f g8 ∧ w.heap.size ≤ g8)) := Lib.hid ⟨U5.out.a, U5.out.was.row, U5.out.far⟩
      clear U1 U2 U3 U4 U5 R10 R13 HT T4 T5 T6 T7 T8 T9 hc1 hc2 hc3 hc4 hc5 hcx
      have hl61 : (L.length : Int) ≤ 60 := by have := HL.out; omega
      go_wp2
      go_loopw [106] (fun i wr => ∃ k : Nat, k ≤ L.length ∧ i = .int .i64 k ∧ Run w wr X f s L ∧ Rw wr g8 A8 c8 (negL k L)) (fun i _ => L.length - (intOf i).toNat)
      case atStart => exact ⟨0, Nat.zero_le _, rfl, V0.out.1, V0.out.2.1⟩
      case round =>
        obtain ⟨k, hk, rfl, hr, hw8⟩ := hrel
        have HR := Lib.hid hr
        have HW := Lib.hid hw8
        clear hr hw8
        by_cases hlt : k < L.length
        · have hnl := negL_len hk
          obtain ⟨o8, hA8, hrow⟩ := HW.out.row (by intro h; rw [h] at hnl; simp at hnl; omega)
          subst hA8
          have HROW := Lib.hid hrow
          have HF := Lib.hid (V0.out.2.2 (by simp))
          have hc := hrow.cell (j := k) (by rw [hnl]; exact hlt)
          have hfz := hrow.free (o8 + k)
          have HNS := Lib.hid (negL_set hlt)
          have HNL := Lib.hid hnl
          clear hrow hnl V0
          generalize (negL k L).getD k 0 = q at *
          go_wp2
          go_roundw
          case rel => exact ⟨k + 1, by omega, by go_num, HR.out.put HF.out.1 HF.out.2 _, Or.inr ⟨o8, rfl, by rw [← HNS.out]; exact HROW.out.put (by rw [HNL.out]; exact hlt) _⟩⟩
          case measure => simp [intOf]; omega
        · obtain rfl : k = L.length := by omega
          clear V0 HW
          have HKEYS := Lib.hid HR.out.good.keys
          go_wp2_with (go_at_call 15; refine (items_mean _ X f s L HR.out.mean (by have := HL.out; omega)).mono ?_; rintro e w20 ⟨A20, c20, g20, rfl, hr20, _, hb⟩; have R20 := Lib.hid hr20; have V20 := Lib.hid (HR.out.next hb); clear hr20 hb)
          go_loopw [118] (fun i wr => ∃ k : Nat, k ≤ L.length ∧ i = .int .i64 k ∧ Below w20.heap.size w20 wr) (fun i _ => L.length - (intOf i).toNat)
          case atStart => exact ⟨0, Nat.zero_le _, rfl, Below.refl _ _⟩
          case round =>
            obtain ⟨k, hk, rfl, hb⟩ := hrel
            have HBX := Lib.hid hb
            clear hb
            by_cases hlt : k < L.length
            · obtain ⟨o20, hA20, hrow⟩ := (R20.out.below HBX.out).row (by rintro rfl; simp at hlt)
              subst hA20
              have hc := hrow.cell hlt
              have hq : 0 ≤ L.getD k 0 := (HKEYS.out _ (by simp [List.getD_eq_getElem?_getD, List.getElem?_eq_getElem hlt])).1
              clear hrow
              generalize L.getD k 0 = q at *
              have hqn : ¬ q < 0 := by omega
              clear hq
              go_wp2
              go_roundw
              case rel => exact ⟨k + 1, by omega, by go_num, HBX.out⟩
              case measure => simp [intOf]; omega
            · obtain rfl : k = L.length := by omega
              have hd : decide (s = 1 + s % 4 ∧ L = []) = false := decide_eq_false (fun h => by omega)
              have HDD := Lib.hid hd
              have HS4 : Hid (1 ≤ 1 + s % 4 ∧ 1 + s % 4 ≤ 4) := by show _ ∧ _; omega
              clear hd hs
              go_wp2_with (first
                | (go_at_call 9; go_loud (refine (new_right _ (1 + s % 4) HS4.out).mono ?_; rintro e w21 ⟨Xb, fb, rfl, hm, _, hb⟩; have M21 := Lib.hid hm; have V21 := Lib.hid ((V20.out.next HBX.out).next hb); clear hm hb))
                | (go_at_call 22; go_loud (refine (same_any _ X Xb f fb s (1 + s % 4) L [] V21.out.mean M21.out (by have := HL.out; omega) (by simp)).mono ?_; rw [HDD.out]; rintro e w22 ⟨rfl, hb⟩; have V22 := Lib.hid (V21.out.next hb); clear hb)))
              go_returns
              exact ⟨rfl, V22.out.below⟩

theorem copies_any (w : World) (y : Int) (a : Option Addr) (os : List OpV) (N cap : Nat) (hN : os.length = N) (hx : OpsAt w a os) (a2 : Option Addr) (os2 : List OpV) (M cap2 : Nat) (hM : os2.length = M) (hx2 : OpsAt w a2 os2) (y0 : 0 ≤ y) (y1 : y < 256) :
    Calls Try.prog 5 #[.int .u8 y, .slice a N cap, .slice a2 M cap2] w fun e w' => e = .returned (.bool true) ∧ Below w.heap.size w w' := by
  by_cases hl : 60 < (N : Int) ∨ 60 < (M : Int)
  · exact copies_long w y a a2 N cap M cap2 hl y0 y1
  · exact copies_short w y a os N cap hN hx a2 os2 M cap2 hM hx2 (by omega) (by omega) y0 y1
end Go.Proofs.Ytehjlmolnmiopaa.spec
