/- A scan, run alone, by what comes out; the document's example. -/
import Derived.Test.YtnphnhafifaaoaaGPure
namespace Go.Proofs.Ytnphnhafifaaoaa.guard
open Go.RowKit mem life

/-- A scan that has ended: the memory; what was kept, what was given back. -/
def Ran (W : World) (X Y C : Nat) (t n : Int) (ys K F : List Int) (w : World) : Prop :=
  ∃ kv fv nv s tv gv, Sc W w X Y C t n ys kv fv nv s tv gv ∧ Nums w W.heap.size kv K ∧ Nums w W.heap.size fv F
theorem scan_ran {W w : World} {X Y C : Nat} {t n : Int} {zs L K F : List Int} (hs : Sound t n zs) (hl : L.length ≤ 1000) (hL : ∀ x ∈ L, 1 ≤ x ∧ x ≤ n) (h : Looking W X Y C t n zs L [] w) (hK : told (slotsAll t n zs) L = K) (hF : freeOf t n zs L = F) (steps : Int) (hst : 2 * t + (F.length : Int) = steps) (most : Int) (m0 : steps ≤ most) (m1 : most ≤ 100000) (g : Nat)
    (hc : w.cell? ⟨g, 0, none⟩ = some (.iface 40 (.pointer (some ⟨C, 0, none⟩)))) :
    Calls Try.prog 17 #[.pointer (some ⟨X, 0, none⟩), .int .i64 most, .slice (some ⟨g, 0, none⟩) 1 1] w fun e w' => e = .returned (.tuple #[.int .i64 steps, .bool true]) ∧ Ran W X Y C t n (giveTo n zs F F.length) K F w' := by
  subst hK hF hst
  refine (scan_run w hs hl hL h most m0 m1 g hc).mono ?_
  rintro e w' ⟨rfl, gv, kv, fv, hsc, hk, hf⟩
  exact ⟨rfl, kv, fv, _, _, _, gv, hsc, hk, hf⟩
theorem nums_one (w : World) (x : Int) : Nums (w.alloc (.cells #[.int .i64 x] 3)) 0 (.slice (some ⟨w.heap.size, 0, none⟩) 1 1) [x] :=
  Or.inr ⟨by simp, w.heap.size, 1, rfl, Nat.zero_le _, ⟨#[], by show (w.heap.push _)[w.heap.size]? = _; simp [intCells]⟩, by simp, by unfold maxLen; omega⟩
theorem row_two (w : World) (x y : Int) : IntRow (w.alloc (.cells #[.int .i64 x, .int .i64 y] 3)) w.heap.size [x, y] := ⟨#[], by show (w.heap.push _)[w.heap.size]? = _; simp [intCells]⟩
theorem words_three (w : World) (x y z : Int) : Words (w.alloc (.cells #[.int .u64 x, .int .u64 y, .int .u64 z] 25)) (some ⟨w.heap.size, 0, none⟩) [x, y, z] := by
  intro i hi
  refine ⟨_, rfl, ?_⟩
  rw [Addr.add_lit, Nat.zero_add]
  have hb := Box.new w #[.int .u64 x, .int .u64 y, .int .u64 z] 25
  match i, hi with
  | 0, _ => exact hb.at 0 rfl
  | 1, _ => exact hb.at 1 rfl
  | 2, _ => exact hb.at 2 rfl
theorem wake_slots {zs : List Int} (hs : Sound 1 3 zs) (hr : Rest 3 zs) : slotsAll 1 3 (setAt zs (slotA 3 1) 2) = [0, 2] := by
  have h0 : slotW 3 (setAt zs (slotA 3 1) 2) 0 = 0 := (slotW_set_other (by omega)).trans (hr _ (by unfold slotA; omega))
  have h1 : slotW 3 (setAt zs (slotA 3 1) 2) 1 = 2 := slotW_set_same hs (by omega) (by omega)
  show ([] ++ [slotW 3 (setAt zs (slotA 3 1) 2) 0]) ++ [slotW 3 (setAt zs (slotA 3 1) 2) 1] = _
  rw [h0, h1]
  rfl

set_option maxRecDepth 100000 in
set_option maxHeartbeats 4000000 in
theorem awake_any (w : World) :
    Calls Try.prog 7 #[] w fun e w' => e = .returned (.bool true) ∧ Below w.heap.size w w' := by
  go_enter Try.func7, Try.ntmps7
  go_wp2_with (first
    | (go_at_call 24; refine (taken_in S2.out R5.out.mem 1 (by omega) (by omega)).mono ?_; rintro e w8 ⟨rfl, hb⟩; rw [HT.out]; have R6 := Lib.hid (R5.out.next hb); clear hb)
    | (go_at_call 19; refine (ints_same _ _ _ fv _ [1] [1] rfl (N4.out.below ((Below.refl _ _).alloc (Nat.le_refl _) _)) (nums_one _ 1) (by simp)).mono ?_; rintro e w7 ⟨rfl, hb⟩; have R5 := Lib.hid ((R4.out.alloc _).next hb); clear hb; have k0 : w7.cell? ⟨w1.heap.size, 0, none⟩ = some (.int .i64 1) := R5.out.lay.at 0 rfl; have k1 : w7.cell? ⟨w1.heap.size, 1, none⟩ = some (.int .i64 3) := R5.out.lay.at 1 rfl)
    | (go_at_call 19; go_loud (go_loud (refine (ints_same _ _ _ kv _ [2] [2] rfl (N3.out.1.below ((Below.refl _ _).alloc (Nat.le_refl _) _)) (nums_one _ 2) (by simp)).mono ?_); rintro e w6 ⟨rfl, hb⟩; have R4 := Lib.hid ((R3.out.alloc _).next hb); have N4 := Lib.hid ((N3.out.2.below ((Below.refl _ _).alloc (Nat.le_refl _) _)).below hb); have d3 : w6.cell? ⟨C, 3, none⟩ = some fv := (((B3.out.alloc _).below hb).at 3 rfl); clear hb))
    | (go_at_call 17; go_loud (refine (scan_ran (K := [2]) (F := [1]) S1.out (by simp) (by decide) (L0.out.next ((Below.refl _ _).alloc (Nat.le_refl _) _)) (by rw [HW.out]; rfl) (by unfold freeOf; rw [HW.out]; rfl) 3 rfl 10 (by omega) (by omega) _ (by simp)).mono ?_; rintro e w5 ⟨rfl, kv, fv, nv, s5, tv, gv, hsc, hk, hf⟩; have R3 := Lib.hid (Room_moved R2.out hsc.mem hsc.apart HC.out.1 HC.out.2); have N3 := Lib.hid (And.intro hk hf); have B3 := Lib.hid hsc.box; have d2 : w5.cell? ⟨C, 2, none⟩ = some kv := hsc.box.at 2 rfl; have d3 : w5.cell? ⟨C, 3, none⟩ = some fv := hsc.box.at 3 rfl; clear hsc hk hf))
    | (go_at_call 16; refine (New_some _ 1 3 _ 2 2 [1, 2] rfl (by omega) (by omega) (row_two _ 1 2)).mono ?_; rintro e w4 ⟨C, nv0, rfl, hn⟩; have R2 := Lib.hid ((R1.out.alloc _).next hn.below); have L0 := Lib.hid (hn.start R2.out.mem); have HC : Hid (w.heap.size ≤ C ∧ C ≠ w1.heap.size) := Lib.hid (by have h1 := (R1.out.alloc (.cells #[.int .i64 1, .int .i64 2] 3)).lt; have h2 := hn.c; omega); clear hn)
    | (go_at_call 9; refine (Store_s R0.out.mem (slotA 3 1) 2).mono ?_; rintro e w3 ⟨rfl, hm, ha⟩; have R1 := Lib.hid (R0.out.act hm ha); clear hm ha; have e0 : w3.cell? ⟨w1.heap.size, 0, none⟩ = some (.int .i64 1) := R1.out.lay.at 0 rfl; have e1 : w3.cell? ⟨w1.heap.size, 1, none⟩ = some (.int .i64 3) := R1.out.lay.at 1 rfl)
    | (go_at_call 10; refine (Slot_any _ 1 3 0 1 (by omega) (by omega) (by omega) (by omega) (by omega) (by omega)).mono ?_; rintro e w2 ⟨rfl, hb⟩; have T := Lib.hid (R0.out.next hb); clear hb R0; have R0 := T; clear T)
    | (go_at_call 8; refine (memory_full _ 1 3 _ [1, 1, 1] 3 _ rfl (by omega) (by omega) (by omega) (by omega) (by omega) (words_three w 1 1 1) (by simp)).mono ?_; rintro e w1 ⟨X, Y, zs, rfl, hn, hs, hl, hr⟩; have R0 : Hid (Room w (w1.alloc (.cells (layCells 1 3) 28)) w1.heap.size X Y 1 3 zs) := Lib.hid (Room.made ((Below.refl _ _).alloc (Nat.le_refl _) _) hn); have S1 : Hid (Sound 1 3 (setAt zs (slotA 3 1) 2)) := Lib.hid (sound_set hs (by omega) (by omega)); have HW := Lib.hid (wake_slots hs hr); have S2 : Hid (Sound 1 3 (giveTo 3 (setAt zs (slotA 3 1) 2) [1] 1)) := Lib.hid (giveTo_sound S1.out _ _); have HT : Hid (takenB 3 (giveTo 3 (setAt zs (slotA 3 1) 2) [1] 1) 1 = false) := Lib.hid (by rw [taken_giveTo S1.out [1] (by decide) (by decide) 1 1 (by simp), if_pos (by decide), taken_set (by omega) (by omega), taken_of hl 1 (by omega) (by omega)]; first | done | rfl); clear hn hs hl hr))
  go_returns
  exact ⟨rfl, R6.out.below⟩
end Go.Proofs.Ytnphnhafifaaoaa.guard
