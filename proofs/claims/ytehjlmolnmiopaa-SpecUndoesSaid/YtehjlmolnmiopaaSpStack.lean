/- The law SpecUndoes answers true of a stack. -/
import Derived.Test.YtehjlmolnmiopaaSpUndo
namespace Go.Proofs.Ytehjlmolnmiopaa.spec
open Go.RowKit task
attribute [local go_sem] eq_res

set_option maxRecDepth 100000 in
set_option maxHeartbeats 8000000 in
theorem undo_stack (w : World) (y z : Int) (a : Option Addr) (os : List OpV) (N cap : Nat) (hN : os.length = N) (hl : (N : Int) ≤ 60) (hx : OpsAt w a os) (y0 : 0 ≤ y) (y1 : y < 256) (z0 : 0 ≤ z) (z1 : z < 65536) (hs : y % 4 = 3) :
    Calls Try.prog 6 #[.int .u8 y, .slice a N cap, .int .u16 z] w fun e w' => e = .returned (.bool true) ∧ Below w.heap.size w w' := by
  have HX := Lib.hid hx
  have HN := Lib.hid hN
  clear hx hN
  obtain ⟨x, hzx⟩ : ∃ x, z % 1000 = x := ⟨_, rfl⟩
  have x0 : 0 ≤ x := by omega
  have x1 : x ≤ 999 := by omega
  go_enter Try.func6, Try.ntmps6
  have HR4 : Hid (rightB 4 4 x = true) := Lib.hid ((right_iff 4 4 x).2 (by omega))
  have HR5 : Hid (rightB 4 5 0 = true) := Lib.hid (by decide)
  go_wp2_with (first
    | (go_at_call 16; refine (ints_any _ g7 c7 g4 c4 A7 A4 L L R7.out K7.out.row (by have := HL.out; omega) (by have := HL.out; omega)).mono ?_; rw [decide_eq_true rfl]; rintro e w8 ⟨rfl, hw⟩; have B8 := Lib.hid (past B7.out (drewN_below hw)); clear hw)
    | (go_at_call 15; have _t := R6.out; refine (items_mean _ X f6 4 L (R6.out.alloc _).mean (by have := HL.out; omega)).mono ?_; rintro e w7 ⟨A7, c7, g7, rfl, hr7, hg7, hb7⟩; have B7 := Lib.hid (past (R6.out.alloc (.cells #[.int .i64 0, .bool true, .int .i64 x] 37)).below hb7); have R7 := Lib.hid hr7; have K7 := Lib.hid ((K6.out.below ((Below.refl _ _).alloc (Nat.le_refl _) _)).below hb7); clear hr7 hg7 hb7)
    | (go_at_call 11; have _t := R5.out; refine (do_is _ X f5 4 5 0 x true (x :: L) L R5.out.mean (by have := HL.out; simp; omega) R5.out.good HR5.out rfl rfl rfl).mono ?_; rintro e w6 ⟨f6, rfl, hm, hw⟩; have R6 := Lib.hid (R5.out.step hm hw R4.out.good); have K6 := Lib.hid (K5.out.went hw); clear hm hw)
    | (go_at_call 11; have _t := R4.out; refine (do_is _ X f 4 4 x 0 true L (x :: L) R4.out.mean (by have := HL.out; omega) R4.out.good HR4.out rfl rfl rfl).mono ?_; rintro e w5 ⟨f5, rfl, hm, hw⟩; have R5 := Lib.hid (R4.out.step hm hw (R4.out.good.next HR4.out)); have K5 := Lib.hid (K4.out.went hw); clear hm hw)
    | (go_at_call 8; refine (awake_any _).mono ?_; rintro e w1 ⟨rfl, hb⟩; have HB := Lib.hid hb; clear hb)
    | (go_at_call 20; refine (rights_any _ 4 a os N cap HN.out (by omega) (HX.out.later HB.out)).mono ?_; rintro e w2 ⟨A2, c2, rfl, hrow2, hle2, hb⟩; have HB2 := Lib.hid (past HB.out hb); have HROW := Lib.hid hrow2; clear hb hrow2)
    | (go_at_call 18; refine (made_any _ 4 A2 c2 _ w os (by decide) (by rw [HN.out]; omega) HB2.out HROW.out).mono ?_; rintro e w3 ⟨X, f, v3, rfl, hrun, hl60, _, _⟩; have R3 := Lib.hid hrun; have HL := Lib.hid hl60; clear hrun hl60; generalize stateL 4 (rights 4 os) = L at *)
    | (go_at_call 15; refine (items_mean _ X f 4 L R3.out.mean (by have := HL.out; omega)).mono ?_; rintro e w4 ⟨A4, c4, g4, rfl, hr4, hg4, hb4⟩; have R4 := Lib.hid (R3.out.next hb4); have K4 : Hid (Rk w4 f g4 A4 c4 L) := Lib.hid ⟨hr4, fun hA hf => (by have h1 := R3.out.mean.lt _ hf; have h2 := hg4 hA; omega)⟩; clear hr4 hg4 hb4))
  go_returns
  exact ⟨rfl, B8.out⟩
end Go.Proofs.Ytehjlmolnmiopaa.spec
