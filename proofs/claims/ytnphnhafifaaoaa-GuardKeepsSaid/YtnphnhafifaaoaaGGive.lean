/- A machine that scans makes the one that gives back. -/
import Derived.Test.YtnphnhafifaaoaaG2
namespace Go.Proofs.Ytnphnhafifaaoaa.guard
open Go.RowKit mem life

/-- Who gives back, with all of the list. -/
def Giver (W : World) (X Y C : Nat) (t n : Int) (zs : List Int) (nv : Value) (s : Int) (r : Nat) (ws U : List Int) (e : Ending) (w' : World) : Prop :=
  ∃ D g c, e = .returned (.pointer (some ⟨D, 0, none⟩)) ∧ W.heap.size ≤ D ∧ Sc W w' X Y C t n zs (.slice none 0 0) (.slice none 0 0) nv s (.map (some r)) (.pointer (some ⟨D, 0, none⟩)) ∧ Cnt w' r ws ∧
    Box w' D (giCells t n (.slice (some ⟨g, 0, none⟩) U.length c)) 89 ∧ IntRow w' g U ∧ U.length ≤ c ∧ c ≤ maxLen
section
variable {W w : World} {X Y C : Nat} {t n s : Int} {zs : List Int} {k f nv tv gv : Value}
theorem ptr_nil (w : World) : (binOp .eql 47 (.pointer none) (.pointer none)).run Try.prog w = .ok (.bool true) w := by kernel_rfl
set_option maxHeartbeats 2000000 in
theorem giver_new (r g N c : Nat) (ws L : List Int) (h : Sc W w X Y C t n zs (.slice none 0 0) (.slice none 0 0) (.slice (some ⟨g, 0, none⟩) N c) s (.map (some r)) (.pointer none)) (hc : Cnt w r ws) (hrow : IntRow w g L) (hN : L.length = N) (l0 : 0 < N) (hl : N ≤ 1000) (hL : ∀ x ∈ L, 0 ≤ x ∧ x ≤ 1000) (hU : 0 < (untold ws L).length) :
    Calls Try.prog 41 #[.pointer (some ⟨C, 0, none⟩)] w (Giver W X Y C t n zs (.slice (some ⟨g, 0, none⟩) N c) s r ws (untold ws L)) := by
  have hU1 : (untold ws L).length ≤ 1000 := Nat.le_trans (List.length_filter_le _ _) (by omega)
  obtain ⟨c0, c1, c2, c3, c4, c5, c6, c7, fz⟩ := row8 h.box
  have HU : Hid (0 < (untold ws L).length ∧ (untold ws L).length ≤ 1000) := Lib.hid ⟨hU, hU1⟩
  have HH := Lib.hid h
  have HA : Hid (Asks w C r ws) := Lib.hid ⟨c6, hc⟩
  have HR := Lib.hid hrow
  have HL := Lib.hid hL
  have HN := Lib.hid hN
  have HW : Hid (W.heap.size ≤ w.heap.size) := Lib.hid h.apart.size
  clear hU hU1 h hc hrow hL c2 c3 c5 c6 hN
  go_enter Try.func41, Try.ntmps41
  have hpn := fun w => ptr_nil w
  go_wp2
  clear hpn
  go_region_held3 (fun wx => wx.cell? ⟨C, 0, none⟩ = some (.int .i64 t) ∧ wx.cell? ⟨C, 1, none⟩ = some (.int .i64 n)) (first | exact ⟨(H2.out.put 7 _ rfl).box.at 0 rfl, (H2.out.put 7 _ rfl).box.at 1 rfl⟩ | exact ⟨H2.out.box.at 0 rfl, H2.out.box.at 1 rfl⟩ | exact ⟨H1.out.box.at 0 rfl, H1.out.box.at 1 rfl⟩ | go_keep) (first
    | (go_at_call 54; refine (back_some _ t n g1 _ c1 (untold ws L) rfl HU.out.1 HU.out.2 R1.out.2.1).mono ?_; rintro e w2 ⟨D, g2, c2, rfl, hng, hrow2, hg2, _, hc0, hc1⟩; have C2 : Hid (Cnt w2 r ws) := Lib.hid (C1.out.below hng.below); have H2 : Hid (Sc W w2 X Y C t n zs (.slice none 0 0) (.slice none 0 0) (.slice (some ⟨g, 0, none⟩) N c) s (.map (some r)) (.pointer none)) := Lib.hid (H1.out.next hng.below); have HNG := Lib.hid hng; have R2 : Hid (IntRow w2 g2 (untold ws L) ∧ (untold ws L).length ≤ c2 ∧ c2 ≤ maxLen) := Lib.hid ⟨hrow2, hc0, hc1⟩; have HD : Hid (W.heap.size ≤ D ∧ w1.heap.size ≤ g2) := Lib.hid (by have := hng.c; have := H1.out.apart.size; exact ⟨by omega, hg2⟩); clear hng hrow2 hg2 hc0 hc1; have f7 := H2.out.box.free; have d7 : w2.cell? ⟨C, 7, none⟩ = some (.pointer none) := H2.out.box.at 7 rfl)
    | (go_at_call 40; refine (untold_some _ C r g N c ws L (HA.out.below (w' := w.drew) ((Below.refl _ _).drew)) ⟨_, _, HH.out.drew.box⟩ (HH.out.drew.box.at 4 rfl) (IntRow.below HR.out ((Below.refl _ _).drew)) HN.out l0 hl HL.out).mono ?_; rintro e w1 ⟨v1, rfl, ⟨a1, c1, rfl, hrows⟩, hb1⟩; obtain ⟨g1, rfl, hg1, hrow1, hc0, hc1⟩ := hrows HU.out.1; have C1 : Hid (Cnt w1 r ws) := Lib.hid ((HA.out.map.below (w' := w.drew) ((Below.refl _ _).drew)).below hb1); have H1 : Hid (Sc W w1 X Y C t n zs (.slice none 0 0) (.slice none 0 0) (.slice (some ⟨g, 0, none⟩) N c) s (.map (some r)) (.pointer none)) := Lib.hid (HH.out.drew.next hb1); have R1 : Hid (w.heap.size ≤ g1 ∧ IntRow w1 g1 (untold ws L) ∧ (untold ws L).length ≤ c1 ∧ c1 ≤ maxLen) := Lib.hid ⟨hg1, hrow1, hc0, hc1⟩; clear hg1 hrow1 hc0 hc1 hb1 hrows))
  all_goals
    have e7 : (w2.setCell ⟨C, 7, none⟩ (.pointer (some ⟨D, 0, none⟩))).cell? ⟨C, 7, none⟩ = some (.pointer (some ⟨D, 0, none⟩)) := (H2.out.box.put 7 _).at 7 rfl
    have HCD : Hid (C ≠ D ∧ g2 ≠ C) := Lib.hid ⟨unlikeT H2.out.box HNG.out.box (by decide), by obtain ⟨ex, hb⟩ := R2.out.1; exact unlikeT hb H2.out.box (by decide)⟩
    go_wp2
    go_returns
    refine ⟨D, g2, c2, rfl, HD.out.1, H2.out.put 7 _ rfl, C2.out.moved (Below.heap_setCell _ _ _ _ (Ne.symm (C2.out.unlike H2.out.box))), HNG.out.box.other (Ne.symm HCD.out.1) _ _, IntRow.moved R2.out.1 (Below.heap_setCell _ _ _ _ HCD.out.2), R2.out.2.1, R2.out.2.2⟩
set_option maxHeartbeats 1000000 in
theorem giver_old (D : Nat) (h : w.cell? ⟨C, 7, none⟩ = some (.pointer (some ⟨D, 0, none⟩))) :
    Calls Try.prog 41 #[.pointer (some ⟨C, 0, none⟩)] w fun e w' => e = .returned (.pointer (some ⟨D, 0, none⟩)) ∧ w = w' := by
  go_enter Try.func41, Try.ntmps41
  have hpn : ∀ (w : World), (binOp .eql 47 (.pointer (some ⟨D, 0, none⟩)) (.pointer none)).run Try.prog w = .ok (.bool false) w := fun w => by kernel_rfl
  go_wp2
  go_returns
  exact ⟨rfl, rfl⟩
end
end Go.Proofs.Ytnphnhafifaaoaa.guard
