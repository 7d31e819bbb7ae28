/- The law SpecCounts answers true at any shape and any operations. -/
import Derived.Test.YtehjlmolnmiopaaSpAwake
namespace Go.Proofs.Ytehjlmolnmiopaa.spec
open Go.RowKit task

/-- A meaning of the call's own. -/
structure Run (W w : World) (X : Nat) (f : Nat → Prop) (s : Int) (L : List Int) : Prop where
  mean : Mean w X f s L
  good : Good s L
  new : ∀ b, f b → W.heap.size ≤ b
  below : Below W.heap.size W w
theorem Run.next {W w w' : World} {X : Nat} {f : Nat → Prop} {s : Int} {L : List Int} (h : Run W w X f s L) (hb : Below w.heap.size w w') : Run W w' X f s L :=
  ⟨h.mean.below hb, h.good, h.new, past h.below hb⟩
theorem Run.alloc {W w : World} {X : Nat} {f : Nat → Prop} {s : Int} {L : List Int} (h : Run W w X f s L) (o : Obj) : Run W (w.alloc o) X f s L := h.next ((Below.refl _ _).alloc (Nat.le_refl _) o)
/-- Behind an operation. -/
theorem Run.step {W w w' : World} {X : Nat} {f f' : Nat → Prop} {s : Int} {L M : List Int} (h : Run W w X f s L) (hm : Mean w' X f' s M) (hw : Went f f' w w') (hg : Good s M) : Run W w' X f' s M :=
  ⟨hm, hg, hw.from h.below.size h.new, hw.below h.below h.below.size h.new⟩
/-- The operation's block, ahead of it, is as it was behind it. -/
theorem went_op {w w1 w2 : World} {f f' : Nat → Prop} {k y : Int} (hf : ∀ b, f b → b < w.heap.size) (h1 : Below (w.alloc (.cells #[.int .i64 k, .int .i64 y] 35)).heap.size (w.alloc (.cells #[.int .i64 k, .int .i64 y] 35)) w1) (hw : Went f f' w1 w2) :
    w2.heap[w.heap.size]? = some (.cells #[.int .i64 k, .int .i64 y] 35 (0, 0)) ∧ w.heap.size < w2.heap.size := by
  have hs := h1.size
  have hs2 := hw.size
  simp at hs
  refine ⟨(hw.block _ (by omega) (fun h => by have := hf _ h; omega)).trans ((h1.block _ (by simp)).trans (new_block w _ _)), by omega⟩

set_option maxRecDepth 100000 in
set_option maxHeartbeats 1000000 in
theorem counts_long (w : World) (y : Int) (a : Option Addr) (N cap : Nat) (hl : 60 < (N : Int)) (y0 : 0 ≤ y) (y1 : y < 256) :
    Calls Try.prog 7 #[.int .u8 y, .slice a N cap] w fun e w' => e = .returned (.bool true) ∧ Below w.heap.size w w' := by
  go_enter Try.func7, Try.ntmps7
  go_wp2_with (go_at_call 8; refine (awake_any _).mono ?_; rintro e w1 ⟨rfl, hb⟩; have HB := Lib.hid hb; clear hb)
  go_returns
  exact ⟨rfl, HB.out⟩

set_option maxRecDepth 100000 in
set_option maxHeartbeats 4000000 in
theorem counts_short (w : World) (y : Int) (a : Option Addr) (os : List OpV) (N cap : Nat) (hN : os.length = N) (hl : (N : Int) ≤ 60) (hx : OpsAt w a os) (y0 : 0 ≤ y) (y1 : y < 256) :
    Calls Try.prog 7 #[.int .u8 y, .slice a N cap] w fun e w' => e = .returned (.bool true) ∧ Below w.heap.size w w' := by
  have HX := Lib.hid hx
  have HN := Lib.hid hN
  clear hx hN
  go_enter Try.func7, Try.ntmps7
  go_wp2_with (first
    | (go_at_call 8; refine (awake_any _).mono ?_; rintro e w1 ⟨rfl, hb⟩; have HB := Lib.hid hb; clear hb)
    | (go_at_call 9; go_loud (refine (new_right _ (1 + y % 4) (by omega)).mono ?_; rintro e w2 ⟨X, f, rfl, hm, hf, hb⟩; have R0 : Hid (Run w w2 X f (1 + y % 4) []) := Lib.hid ⟨hm, Good.nil _, fun b hb => Nat.le_trans HB.out.size (hf b hb), past HB.out hb⟩; clear hm hf hb)))
  generalize 1 + y % 4 = s at *
  go_loopw [36] (fun i wr => ∃ (k : Nat) (f' : Nat → Prop) (L : List Int), k ≤ N ∧ i = .int .i64 k ∧ Run w wr X f' s L ∧ L.length ≤ k) (fun i _ => N - (intOf i).toNat)
  case atStart => exact ⟨0, f, [], Nat.zero_le _, rfl, R0.out, Nat.le_refl _⟩
  case round =>
    clear R0
    obtain ⟨k, f', L, hk, rfl, hr, hlen⟩ := hrel
    have HR := Lib.hid hr
    clear hr
    by_cases hlt : k < N
    · have hkl : k < os.length := by rw [HN.out]; exact hlt
      obtain ⟨b, rfl, c0, c1⟩ := (HX.out.later HR.out.below) k hkl
      generalize os[k] = o at *
      obtain ⟨K, Y⟩ := o
      simp only at c0 c1
      clear hkl
      have hlz : (L.length : Int) ≤ 60 := by omega
      have HL9 : Hid (L.length ≤ 999) := by show _ ≤ _; omega
      cases hrt : rightB s K Y
      · have HRT := Lib.hid hrt
        have HLM : Hid (L.length ≤ k) := hlen
        clear hrt
        go_wp2_with (first
          | (go_at_call 14; have _t := R2.out; refine (len_mean _ X g' s L (R2.out.alloc _).mean (by have := HLM.out; omega)).mono ?_; rintro e w3 ⟨rfl, hw⟩; have R3 := Lib.hid ((R2.out.alloc _).next (drewN_below hw)); obtain ⟨n3, rfl⟩ := hw)
          | (go_at_call 11; have _t := R1.out; refine (do_not _ X f' s K Y L R1.out.mean HL9.out HR.out.good HRT.out).mono ?_; rintro e w2 ⟨g', rfl, hm, hw⟩; have R2 := Lib.hid (R1.out.step hm hw HR.out.good); obtain ⟨hop, hlt2⟩ := went_op HR.out.mean.lt (below_drewN (Below.refl _ _) n1) hw; have d0 := Joins.cell_of_block hop 0; have d1 := Joins.cell_of_block hop 1; simp only [List.getElem?_toArray, List.getElem?_cons_zero, List.getElem?_cons_succ] at d0 d1; clear hm hw hop)
          | (go_at_call 14; refine (len_mean _ X f' s L (HR.out.alloc _).mean (by have := HL9.out; omega)).mono ?_; rintro e w1 ⟨rfl, hw⟩; have R1 := Lib.hid ((HR.out.alloc _).next (drewN_below hw)); obtain ⟨n1, rfl⟩ := hw))
        go_roundw
        case rel => exact ⟨k + 1, g', L, by omega, by go_num, R3.out, by have := HLM.out; omega⟩
        case measure => simp [intOf]; omega
      · have HRT := Lib.hid hrt
        have HNL := Lib.hid (next_len HR.out.good hrt)
        have HNG := Lib.hid (HR.out.good.next hrt)
        have hkk : K = 1 ∨ K = 2 ∨ K = 3 ∨ K = 4 ∨ K = 5 := by rw [right_iff] at hrt; omega
        clear hrt
        cases hok : okB L K Y
        · have HOK := Lib.hid hok
          have HLN : Hid (((nextL s L K Y).length : Int) = (L.length : Int)) := by show _ = _; have := HNL.out; rw [hok] at this; simpa using this
          have HLM : Hid ((nextL s L K Y).length ≤ k + 1) := by show _ ≤ _; have := HLN.out; omega
          clear hok hkk
          go_wp2_with (first
            | (go_at_call 14; have _t := R2.out; refine (len_mean _ X g' s (nextL s L K Y) (R2.out.alloc _).mean (by have := HLM.out; omega)).mono ?_; rw [HLN.out]; rintro e w3 ⟨rfl, hw⟩; have R3 := Lib.hid ((R2.out.alloc _).next (drewN_below hw)); obtain ⟨n3, rfl⟩ := hw)
            | (go_at_call 11; have _t := R1.out; refine (do_right _ X f' s K Y L R1.out.mean HL9.out HR.out.good HRT.out).mono ?_; rw [HOK.out]; rintro e w2 ⟨g', rfl, hm, hw⟩; have R2 := Lib.hid (R1.out.step hm hw HNG.out); obtain ⟨hop, hlt2⟩ := went_op HR.out.mean.lt (below_drewN (Below.refl _ _) n1) hw; have d0 := Joins.cell_of_block hop 0; have d1 := Joins.cell_of_block hop 1; simp only [List.getElem?_toArray, List.getElem?_cons_zero, List.getElem?_cons_succ] at d0 d1; clear hm hw hop)
            | (go_at_call 14; refine (len_mean _ X f' s L (HR.out.alloc _).mean (by have := HL9.out; omega)).mono ?_; rintro e w1 ⟨rfl, hw⟩; have R1 := Lib.hid ((HR.out.alloc _).next (drewN_below hw)); obtain ⟨n1, rfl⟩ := hw))
          go_roundw
          case rel => exact ⟨k + 1, g', nextL s L K Y, by omega, by go_num, R3.out, by have := HLM.out; omega⟩
          case measure => simp [intOf]; omega
        · rcases hkk with rfl | rfl | rfl | rfl | rfl
          · have HOK := Lib.hid hok
            have HLN : Hid (((nextL s L 1 Y).length : Int) = (L.length : Int) + 1) := by show _ = _; have := HNL.out; rw [hok] at this; simp at this; omega
            have HLM : Hid ((nextL s L 1 Y).length ≤ k + 1) := by show _ ≤ _; have := HLN.out; omega
            clear hok
            go_wp2_with (first
              | (go_at_call 14; have _t := R2.out; refine (len_mean _ X g' s (nextL s L 1 Y) (R2.out.alloc _).mean (by have := HLM.out; omega)).mono ?_; rw [HLN.out]; rintro e w3 ⟨rfl, hw⟩; have R3 := Lib.hid ((R2.out.alloc _).next (drewN_below hw)); obtain ⟨n3, rfl⟩ := hw)
              | (go_at_call 11; have _t := R1.out; refine (do_right _ X f' s 1 Y L R1.out.mean HL9.out HR.out.good HRT.out).mono ?_; rw [HOK.out]; rintro e w2 ⟨g', rfl, hm, hw⟩; have R2 := Lib.hid (R1.out.step hm hw HNG.out); obtain ⟨hop, hlt2⟩ := went_op HR.out.mean.lt (below_drewN (Below.refl _ _) n1) hw; have d0 := Joins.cell_of_block hop 0; have d1 := Joins.cell_of_block hop 1; simp only [List.getElem?_toArray, List.getElem?_cons_zero, List.getElem?_cons_succ] at d0 d1; clear hm hw hop)
              | (go_at_call 14; refine (len_mean _ X f' s L (HR.out.alloc _).mean (by have := HL9.out; omega)).mono ?_; rintro e w1 ⟨rfl, hw⟩; have R1 := Lib.hid ((HR.out.alloc _).next (drewN_below hw)); obtain ⟨n1, rfl⟩ := hw))
            go_roundw
            case rel => exact ⟨k + 1, g', nextL s L 1 Y, by omega, by go_num, R3.out, by have := HLM.out; omega⟩
            case measure => simp [intOf]; omega
          · have HOK := Lib.hid hok
            have HLN : Hid (((nextL s L 2 Y).length : Int) = (L.length : Int) - 1) := by show _ = _; have := HNL.out; rw [hok] at this; simp at this; omega
            have HLM : Hid ((nextL s L 2 Y).length ≤ k + 1) := by show _ ≤ _; have := HLN.out; omega
            clear hok
            go_wp2_with (first
              | (go_at_call 14; have _t := R2.out; refine (len_mean _ X g' s (nextL s L 2 Y) (R2.out.alloc _).mean (by have := HLM.out; omega)).mono ?_; rw [HLN.out]; rintro e w3 ⟨rfl, hw⟩; have R3 := Lib.hid ((R2.out.alloc _).next (drewN_below hw)); obtain ⟨n3, rfl⟩ := hw)
              | (go_at_call 11; have _t := R1.out; refine (do_right _ X f' s 2 Y L R1.out.mean HL9.out HR.out.good HRT.out).mono ?_; rw [HOK.out]; rintro e w2 ⟨g', rfl, hm, hw⟩; have R2 := Lib.hid (R1.out.step hm hw HNG.out); obtain ⟨hop, hlt2⟩ := went_op HR.out.mean.lt (below_drewN (Below.refl _ _) n1) hw; have d0 := Joins.cell_of_block hop 0; have d1 := Joins.cell_of_block hop 1; simp only [List.getElem?_toArray, List.getElem?_cons_zero, List.getElem?_cons_succ] at d0 d1; clear hm hw hop)
              | (go_at_call 14; refine (len_mean _ X f' s L (HR.out.alloc _).mean (by have := HL9.out; omega)).mono ?_; rintro e w1 ⟨rfl, hw⟩; have R1 := Lib.hid ((HR.out.alloc _).next (drewN_below hw)); obtain ⟨n1, rfl⟩ := hw))
            go_roundw
            case rel => exact ⟨k + 1, g', nextL s L 2 Y, by omega, by go_num, R3.out, by have := HLM.out; omega⟩
            case measure => simp [intOf]; omega
          · have HOK := Lib.hid hok
            have HLN : Hid (((nextL s L 3 Y).length : Int) = (L.length : Int) ) := by show _ = _; have := HNL.out; rw [hok] at this; simp at this; omega
            have HLM : Hid ((nextL s L 3 Y).length ≤ k + 1) := by show _ ≤ _; have := HLN.out; omega
            clear hok
            go_wp2_with (first
              | (go_at_call 14; have _t := R2.out; refine (len_mean _ X g' s (nextL s L 3 Y) (R2.out.alloc _).mean (by have := HLM.out; omega)).mono ?_; rw [HLN.out]; rintro e w3 ⟨rfl, hw⟩; have R3 := Lib.hid ((R2.out.alloc _).next (drewN_below hw)); obtain ⟨n3, rfl⟩ := hw)
              | (go_at_call 11; have _t := R1.out; refine (do_right _ X f' s 3 Y L R1.out.mean HL9.out HR.out.good HRT.out).mono ?_; rw [HOK.out]; rintro e w2 ⟨g', rfl, hm, hw⟩; have R2 := Lib.hid (R1.out.step hm hw HNG.out); obtain ⟨hop, hlt2⟩ := went_op HR.out.mean.lt (below_drewN (Below.refl _ _) n1) hw; have d0 := Joins.cell_of_block hop 0; have d1 := Joins.cell_of_block hop 1; simp only [List.getElem?_toArray, List.getElem?_cons_zero, List.getElem?_cons_succ] at d0 d1; clear hm hw hop)
              | (go_at_call 14; refine (len_mean _ X f' s L (HR.out.alloc _).mean (by have := HL9.out; omega)).mono ?_; rintro e w1 ⟨rfl, hw⟩; have R1 := Lib.hid ((HR.out.alloc _).next (drewN_below hw)); obtain ⟨n1, rfl⟩ := hw))
            go_roundw
            case rel => exact ⟨k + 1, g', nextL s L 3 Y, by omega, by go_num, R3.out, by have := HLM.out; omega⟩
            case measure => simp [intOf]; omega
          · have HOK := Lib.hid hok
            have HLN : Hid (((nextL s L 4 Y).length : Int) = (L.length : Int) + 1) := by show _ = _; have := HNL.out; rw [hok] at this; simp at this; omega
            have HLM : Hid ((nextL s L 4 Y).length ≤ k + 1) := by show _ ≤ _; have := HLN.out; omega
            clear hok
            go_wp2_with (first
              | (go_at_call 14; have _t := R2.out; refine (len_mean _ X g' s (nextL s L 4 Y) (R2.out.alloc _).mean (by have := HLM.out; omega)).mono ?_; rw [HLN.out]; rintro e w3 ⟨rfl, hw⟩; have R3 := Lib.hid ((R2.out.alloc _).next (drewN_below hw)); obtain ⟨n3, rfl⟩ := hw)
              | (go_at_call 11; have _t := R1.out; refine (do_right _ X f' s 4 Y L R1.out.mean HL9.out HR.out.good HRT.out).mono ?_; rw [HOK.out]; rintro e w2 ⟨g', rfl, hm, hw⟩; have R2 := Lib.hid (R1.out.step hm hw HNG.out); obtain ⟨hop, hlt2⟩ := went_op HR.out.mean.lt (below_drewN (Below.refl _ _) n1) hw; have d0 := Joins.cell_of_block hop 0; have d1 := Joins.cell_of_block hop 1; simp only [List.getElem?_toArray, List.getElem?_cons_zero, List.getElem?_cons_succ] at d0 d1; clear hm hw hop)
              | (go_at_call 14; refine (len_mean _ X f' s L (HR.out.alloc _).mean (by have := HL9.out; omega)).mono ?_; rintro e w1 ⟨rfl, hw⟩; have R1 := Lib.hid ((HR.out.alloc _).next (drewN_below hw)); obtain ⟨n1, rfl⟩ := hw))
            go_roundw
            case rel => exact ⟨k + 1, g', nextL s L 4 Y, by omega, by go_num, R3.out, by have := HLM.out; omega⟩
            case measure => simp [intOf]; omega
          · have HOK := Lib.hid hok
            have HLN : Hid (((nextL s L 5 Y).length : Int) = (L.length : Int) - 1) := by show _ = _; have := HNL.out; rw [hok] at this; simp at this; omega
            have HLM : Hid ((nextL s L 5 Y).length ≤ k + 1) := by show _ ≤ _; have := HLN.out; omega
            clear hok
            go_wp2_with (first
              | (go_at_call 14; have _t := R2.out; refine (len_mean _ X g' s (nextL s L 5 Y) (R2.out.alloc _).mean (by have := HLM.out; omega)).mono ?_; rw [HLN.out]; rintro e w3 ⟨rfl, hw⟩; have R3 := Lib.hid ((R2.out.alloc _).next (drewN_below hw)); obtain ⟨n3, rfl⟩ := hw)
              | (go_at_call 11; have _t := R1.out; refine (do_right _ X f' s 5 Y L R1.out.mean HL9.out HR.out.good HRT.out).mono ?_; rw [HOK.out]; rintro e w2 ⟨g', rfl, hm, hw⟩; have R2 := Lib.hid (R1.out.step hm hw HNG.out); obtain ⟨hop, hlt2⟩ := went_op HR.out.mean.lt (below_drewN (Below.refl _ _) n1) hw; have d0 := Joins.cell_of_block hop 0; have d1 := Joins.cell_of_block hop 1; simp only [List.getElem?_toArray, List.getElem?_cons_zero, List.getElem?_cons_succ] at d0 d1; clear hm hw hop)
              | (go_at_call 14; refine (len_mean _ X f' s L (HR.out.alloc _).mean (by have := HL9.out; omega)).mono ?_; rintro e w1 ⟨rfl, hw⟩; have R1 := Lib.hid ((HR.out.alloc _).next (drewN_below hw)); obtain ⟨n1, rfl⟩ := hw))
            go_roundw
            case rel => exact ⟨k + 1, g', nextL s L 5 Y, by omega, by go_num, R3.out, by have := HLM.out; omega⟩
            case measure => simp [intOf]; omega
    · obtain rfl : k = N := by omega
      go_wp2
      go_returns
      exact ⟨rfl, HR.out.below⟩

theorem counts_any (w : World) (y : Int) (a : Option Addr) (os : List OpV) (N cap : Nat) (hN : os.length = N) (hx : OpsAt w a os) (y0 : 0 ≤ y) (y1 : y < 256) :
    Calls Try.prog 7 #[.int .u8 y, .slice a N cap] w fun e w' => e = .returned (.bool true) ∧ Below w.heap.size w w' := by
  by_cases hl : 60 < (N : Int)
  · exact counts_long w y a N cap hl y0 y1
  · exact counts_short w y a os N cap hN (by omega) hx y0 y1
end Go.Proofs.Ytehjlmolnmiopaa.spec
