/- The law MemLayouts answers true at any layout. -/
import Derived.Test.YtfoiahnpnipjnaaMTake
import Derived.Carry
import Derived.Deep.RegionWith
import Derived.IntWalk
namespace Go.Proofs.Ytfoiahnpnipjnaa.mem
open Go.RowKit

theorem seen_made (w : World) : Seen (w.alloc (.map #[] 0)) w.heap.size 0 (fun _ => false) :=
  ⟨.map [], World.ownsMap_made w _ _ _, Maps.isMap_empty, fun _ => rfl⟩
/-- What was taken, said by a property. -/
def TakP (W w : World) (b6 b5 b7 r : Nat) (t n : Int) (c : Nat) (P : Int → Prop) : Prop := ∃ f, Tak W w b6 b5 b7 r t n c f ∧ ∀ x, f x = true ↔ P x
section
variable {W w w' : World} {b6 b5 b7 r : Nat} {t n : Int} {c c' : Nat} {P Q : Int → Prop}
theorem TakP.next (h : TakP W w b6 b5 b7 r t n c P) (hb : Below w.heap.size w w') : TakP W w' b6 b5 b7 r t n c P := by
  obtain ⟨f, h, hf⟩ := h
  exact ⟨f, h.next hb, hf⟩
theorem TakP.drew (h : TakP W w b6 b5 b7 r t n c P) : TakP W w.drew b6 b5 b7 r t n c P := h.next ((Below.refl _ _).drew)
theorem TakP.as (h : TakP W w b6 b5 b7 r t n c P) (hc : c = c') (hp : ∀ x, P x ↔ Q x) : TakP W w b6 b5 b7 r t n c' Q := by
  obtain ⟨f, h, hf⟩ := h
  subst hc
  exact ⟨f, h, fun x => (hf x).trans (hp x)⟩
theorem TakP.lay (h : TakP W w b6 b5 b7 r t n c P) : Box w b5 (layCells t n) 23 := by
  obtain ⟨f, h, _⟩ := h
  exact h.lay
theorem TakP.many (h : TakP W w b6 b5 b7 r t n c P) : Box w b7 #[.int .i64 c] 3 := by
  obtain ⟨f, h, _⟩ := h
  exact h.many
theorem TakP.below (h : TakP W w b6 b5 b7 r t n c P) : Below W.heap.size W w := by
  obtain ⟨f, h, _⟩ := h
  exact h.below
/-- One more is taken. -/
theorem take_p (h : TakP W w b6 b5 b7 r t n c P) (a : Int) (t0 : 0 ≤ t) (t1 : t ≤ 20) (n0 : 0 ≤ n) (n1 : n ≤ 300) (a0 : 0 < a) (a1 : a < 2 * n + 6 + 5 * t) (hP : ¬ P a) (hc : c ≤ 100000) :
    Calls Try.prog 20 #[.int .i64 a, .pointer (some ⟨b6, 0, none⟩), .pointer (some ⟨b5, 0, none⟩), .pointer (some ⟨b7, 0, none⟩)] w fun e w' => e = .returned (.bool true) ∧ TakP W w' b6 b5 b7 r t n (c + 1) (fun x => x = a ∨ P x) := by
  obtain ⟨f, h, hf⟩ := h
  have hfa : f a = false := by
    cases he : f a
    · rfl
    · exact absurd ((hf a).1 he) hP
  refine (take_any W w b6 b5 b7 r t n a c f h t0 t1 n0 n1 a0 a1 hfa hc).mono fun e w1 ⟨he, ht⟩ => ⟨he, _, ht, fun x => ?_⟩
  simp only [Bool.or_eq_true, beq_iff_eq, hf x]
end

/-- What was taken behind j nodes; behind k heads; behind k threads. -/
def In1 (n j x : Int) : Prop := x = 0 ∨ (1 ≤ x ∧ x ≤ j) ∨ (n + 5 ≤ x ∧ x < n + 5 + j)
def In2 (n k x : Int) : Prop := (0 ≤ x ∧ x ≤ n) ∨ (n + 5 ≤ x ∧ x ≤ 2 * n + 4) ∨ (n + 1 ≤ x ∧ x < n + 1 + k)
def In3 (n t k x : Int) : Prop := (0 ≤ x ∧ x ≤ 2 * n + 4) ∨ (2 * n + 5 ≤ x ∧ x < 2 * n + 5 + 2 * k) ∨ (2 * n + 5 + 2 * t ≤ x ∧ x < 2 * n + 5 + 2 * t + 3 * k)

set_option maxRecDepth 100000 in
set_option maxHeartbeats 8000000 in
theorem layouts_core (w : World) (x y : Int) (t n : Nat) (x0 : 0 ≤ x) (x1 : x < 256) (y0 : 0 ≤ y) (y1 : y < 256) (ht : 1 + x % 8 = (t : Int)) (hn : 1 + y % 200 = (n : Int)) :
    Calls Try.prog 4 #[.int .u8 x, .int .u8 y] w fun e w' => e = .returned (.bool true) ∧ Below w.heap.size w w' := by
  have hmm := @run_makeMap Try.prog
  go_enter Try.func4, Try.ntmps4
  go_wp2_with (first
    | (go_at_call 9; refine (awake_any _).mono ?_; rintro e w1 ⟨rfl, hb⟩; have HB := Lib.hid hb; clear hb))
  have hs0 : Seen ((w1.alloc (.cells (layCells t n) 23)).alloc (.map #[] 0)) (w1.heap.size + 1) 0 (fun _ => false) := by have := seen_made (w1.alloc (.cells (layCells t n) 23)); simpa using this
  obtain ⟨w2, hrun, hs, hg⟩ := hs0.put (by unfold maxLen; omega) (a := 0) (by omega) (by omega)
  have S : Hid (TakP w ((w2.alloc (.cells #[.map (some (w1.heap.size + 1))] 43)).alloc (.cells #[.int .i64 1] 3)) w2.heap.size w1.heap.size (w2.heap.size + 1) (w1.heap.size + 1) t n 1 (In1 n 0)) := by
    have hsz := hg.size
    simp at hsz
    have hW := HB.out.size
    have b5 : Box w2 w1.heap.size (layCells t n) 23 := (hg.block _ (by simp; omega) (by simp)).trans ((Box.new w1 (layCells t n) 23).alloc _)
    have hbel : Below w.heap.size w w2 := ((HB.out.alloc hW _).alloc (by simp; omega) _).grown hg (by simp; omega) (fun k hk => by obtain rfl := Option.some.inj hk; omega)
    refine ⟨fun z => z == 0 || false, ⟨(Box.new w2 _ _).alloc _, (b5.alloc _).alloc _, ?_, ?_, (hbel.alloc hbel.size _).alloc (by simp; omega) _, by omega, by omega, by omega, by omega, by omega, by omega, by omega, by omega⟩, fun z => ?_⟩
    · have := Box.new (w2.alloc (.cells #[.map (some (w1.heap.size + 1))] 43)) #[.int .i64 1] 3
      simpa using this
    · exact (hs.below ((Below.refl _ _).alloc (Nat.le_refl _) _)).below ((Below.refl _ _).alloc (Nat.le_refl _) _)
    · unfold In1
      simp
      omega
  clear hs hg hs0
  rw [hrun]
  clear hrun hmm HB
  go_wp2
  go_loopw [9] (fun i wr => ∃ j : Nat, j ≤ n ∧ i = .int .i64 ((j : Int) + 1) ∧ TakP w wr w2.heap.size w1.heap.size (w2.heap.size + 1) (w1.heap.size + 1) t n (1 + 2 * j) (In1 n j)) (fun i _ => n + 1 - (intOf i).toNat)
  case atStart => exact ⟨0, Nat.zero_le _, rfl, S.out⟩
  case round =>
    clear S
    obtain ⟨j, hj, rfl, hS⟩ := hrel
    have c50 := hS.lay.at 0 rfl
    have c51 := hS.lay.at 1 rfl
    have c70 := hS.many.at 0 rfl
    have S0 := Lib.hid hS
    clear hS
    by_cases hlt : (j : Int) + 1 ≤ (n : Int)
    · have S := Lib.hid S0.out.drew
      clear S0
      have HNa : Hid (nodeB n ((j : Int) + 1) = true) := by unfold Hid nodeB; simp; omega
      have HNb : Hid (nodeB n ((n : Int) + 4 + ((j : Int) + 1)) = false) := by unfold Hid nodeB; simp; omega
      have hd : decide ((j : Int) + 1 ≤ (n : Int)) = true := by simpa using hlt
      go_wp2
      go_region_with (first
        | (go_at_call 20; refine (take_p S.out _ (by omega) (by omega) (by omega) (by omega) (by omega) (by omega) (by (try dsimp only); unfold In1; omega) (by omega)).mono ?_; rintro e w9 ⟨rfl, h⟩; have T := Lib.hid h; clear S h c50 c51 c70; have S := T; clear T; have c50 := S.out.lay.at 0 rfl; have c51 := S.out.lay.at 1 rfl; have c70 := S.out.many.at 0 rfl)
        | (go_at_call 22; refine (Life_any _ t n _ (by omega) (by omega) (by omega) (by omega)).mono ?_; rintro e w9 ⟨rfl, hb⟩; have T := Lib.hid (S.out.next hb); clear S hb c50 c51 c70; have S := T; clear T; have c50 := S.out.lay.at 0 rfl; have c51 := S.out.lay.at 1 rfl; have c70 := S.out.many.at 0 rfl)
        | (go_at_call 21; refine (Node_any _ t n _).mono ?_; rintro e w9 ⟨rfl, hb⟩; (first | rw [HNa.out] | rw [HNb.out]); have T := Lib.hid (S.out.next hb); clear S hb c50 c51 c70; have S := T; clear T; have c50 := S.out.lay.at 0 rfl; have c51 := S.out.lay.at 1 rfl; have c70 := S.out.many.at 0 rfl))
      all_goals
        go_wp2
        go_roundw
        case rel => exact ⟨j + 1, by omega, by go_num, S.out.as (by omega) (by intro z; (try dsimp only); unfold In1; omega)⟩
        case measure => simp [intOf]; omega
    · obtain rfl : n = j := by omega
      have S := Lib.hid (S0.out.as (c' := 1 + 2 * n + 0) (Q := In2 n (0 : Nat)) (by omega) (by intro z; unfold In1 In2; omega))
      clear S0 hj
      have hd : decide ((n : Int) + 1 ≤ (n : Int)) = false := by simp; omega
      clear hlt
      go_wp2
      clear c50 c51 c70
      go_loopw [10] (fun i wx => ∃ k : Nat, k ≤ 4 ∧ i = .int .i64 k ∧ TakP w wx w2.heap.size w1.heap.size (w2.heap.size + 1) (w1.heap.size + 1) t n (1 + 2 * n + k) (In2 n k)) (fun i _ => 4 - (intOf i).toNat)
      case atStart => exact ⟨0, Nat.zero_le _, rfl, S.out⟩
      case round =>
        clear S hd
        obtain ⟨k, hk, rfl, hS⟩ := hrel
        have S := Lib.hid hS
        clear hS
        have c50 := S.out.lay.at 0 rfl
        have c51 := S.out.lay.at 1 rfl
        have c70 := S.out.many.at 0 rfl
        by_cases hlt : k < 4
        · have hd : decide ((k : Int) < 4) = true := by simp; omega
          go_wp2_with (first
            | (go_at_call 20; refine (take_p S.out _ (by omega) (by omega) (by omega) (by omega) (by omega) (by omega) (by (try dsimp only); unfold In2; omega) (by omega)).mono ?_; rintro e w9 ⟨rfl, h⟩; have T := Lib.hid h; clear S h c50 c51 c70; have S := T; clear T; have c50 := S.out.lay.at 0 rfl; have c51 := S.out.lay.at 1 rfl; have c70 := S.out.many.at 0 rfl)
            | (go_at_call 23; refine (Head_any _ t n _ (by omega) (by omega) (by omega) (by omega)).mono ?_; rintro e w9 ⟨rfl, hb⟩; have T := Lib.hid (S.out.next hb); clear S hb c50 c51 c70; have S := T; clear T; have c50 := S.out.lay.at 0 rfl; have c51 := S.out.lay.at 1 rfl; have c70 := S.out.many.at 0 rfl))
          go_roundw
          case rel => exact ⟨k + 1, by omega, by go_num, S.out.as (by omega) (by intro z; (try dsimp only); unfold In2; omega)⟩
          case measure => simp [intOf]; omega
        · have hk4 : k = 4 := by omega
          have S3 := Lib.hid (S.out.as (c' := 5 + 2 * n + 5 * 0) (Q := In3 n t (0 : Nat)) (by subst hk4; omega) (by intro z; subst hk4; unfold In2 In3; omega))
          have hd : decide ((k : Int) < 4) = false := by simp; omega
          clear S hk hlt hk4 c50 c51 c70
          go_wp2
          go_loopw [11] (fun i wx => ∃ k : Nat, k ≤ t ∧ i = .int .i64 k ∧ TakP w wx w2.heap.size w1.heap.size (w2.heap.size + 1) (w1.heap.size + 1) t n (5 + 2 * n + 5 * k) (In3 n t k)) (fun i _ => t - (intOf i).toNat)
          case atStart => exact ⟨0, Nat.zero_le _, rfl, S3.out⟩
          case round =>
            clear S3
            obtain ⟨k, hk, rfl, hS⟩ := hrel
            have S0 := Lib.hid hS
            clear hS
            have c50 := S0.out.lay.at 0 rfl
            have c51 := S0.out.lay.at 1 rfl
            have c70 := S0.out.many.at 0 rfl
            by_cases hlt : k < t
            · have hd : decide ((k : Int) < (t : Int)) = true := by simp; omega
              have S := Lib.hid S0.out
              clear S0
              go_wp2_with (first
                | (go_at_call 20; refine (take_p S.out _ (by omega) (by omega) (by omega) (by omega) (by omega) (by omega) (by (try dsimp only); unfold In3; omega) (by omega)).mono ?_; rintro e w9 ⟨rfl, h⟩; have T := Lib.hid h; clear S h c50 c51 c70; have S := T; clear T; have c50 := S.out.lay.at 0 rfl; have c51 := S.out.lay.at 1 rfl; have c70 := S.out.many.at 0 rfl)
                | (go_at_call 24; refine (Slot_any _ t n _ _ (by omega) (by omega) (by omega) (by omega) (by omega) (by omega)).mono ?_; rintro e w9 ⟨rfl, hb⟩; have T := Lib.hid (S.out.next hb); clear S hb c50 c51 c70; have S := T; clear T; have c50 := S.out.lay.at 0 rfl; have c51 := S.out.lay.at 1 rfl; have c70 := S.out.many.at 0 rfl)
                | (go_at_call 25; refine (Ticket_any _ t n _ (by omega) (by omega) (by omega) (by omega) (by omega) (by omega)).mono ?_; rintro e w9 ⟨rfl, hb⟩; have T := Lib.hid (S.out.next hb); clear S hb c50 c51 c70; have S := T; clear T; have c50 := S.out.lay.at 0 rfl; have c51 := S.out.lay.at 1 rfl; have c70 := S.out.many.at 0 rfl)
                | (go_at_call 26; refine (Task_any _ t n _ (by omega) (by omega) (by omega) (by omega) (by omega) (by omega)).mono ?_; rintro e w9 ⟨rfl, hb⟩; have T := Lib.hid (S.out.next hb); clear S hb c50 c51 c70; have S := T; clear T; have c50 := S.out.lay.at 0 rfl; have c51 := S.out.lay.at 1 rfl; have c70 := S.out.many.at 0 rfl)
                | (go_at_call 27; refine (Desc_any _ t n _ (by omega) (by omega) (by omega) (by omega) (by omega) (by omega)).mono ?_; rintro e w9 ⟨rfl, hb⟩; have T := Lib.hid (S.out.next hb); clear S hb c50 c51 c70; have S := T; clear T; have c50 := S.out.lay.at 0 rfl; have c51 := S.out.lay.at 1 rfl; have c70 := S.out.many.at 0 rfl))
              go_roundw
              case rel => exact ⟨k + 1, by omega, by go_num, S.out.as (by omega) (by intro z; (try dsimp only); unfold In3; omega)⟩
              case measure => simp [intOf]; omega
            · obtain rfl : t = k := by omega
              have hd : decide ((t : Int) < (t : Int)) = false := by simp
              have S := Lib.hid S0.out.drew
              have HNa : Hid (nodeB n 0 = false) := by unfold Hid nodeB; simp
              have HNb : Hid (nodeB n ((n : Int) + 1) = false) := by unfold Hid nodeB; simp; omega
              have HNc : Hid (nodeB n (IntKind.i64.wrap ((n : Int) + 1)) = false) := by unfold Hid; rw [IntWalk.i64_in _ (by omega)]; exact HNb.out
              obtain ⟨C, hC⟩ : ∃ C : Nat, C = 2 * n + 6 + 5 * t := ⟨_, rfl⟩
              have hq : ((C : Int) == 2 * (n : Int) + 6 + 5 * (t : Int)) = true := by simp; omega
              have HC := Lib.hid hC
              clear S0 hk hlt hC
              go_wp2
              go_region_with (first
                | (go_at_call 20; refine (take_p S.out _ (by omega) (by omega) (by omega) (by omega) (by omega) (by omega) (by (try dsimp only); unfold In3; omega) (by omega)).mono ?_; rintro e w9 ⟨rfl, h⟩; have T := Lib.hid (h.as (c' := C) (by have := HC.out; omega) (fun z => Iff.rfl)); clear S h c50 c51 c70; have S := T; clear T; have c50 := S.out.lay.at 0 rfl; have c51 := S.out.lay.at 1 rfl; have c70 := S.out.many.at 0 rfl)
                | (go_at_call 28; refine (Counter_any _ t n (by omega) (by omega) (by omega) (by omega)).mono ?_; rintro e w9 ⟨rfl, hb⟩; have T := Lib.hid (S.out.next hb); clear S hb c50 c51 c70; have S := T; clear T; have c50 := S.out.lay.at 0 rfl; have c51 := S.out.lay.at 1 rfl; have c70 := S.out.many.at 0 rfl)
                | (go_at_call 12; refine (Size_any _ t n (by omega) (by omega) (by omega) (by omega)).mono ?_; rintro e w9 ⟨rfl, hb⟩; have T := Lib.hid (S.out.next hb); clear S hb c50 c51 c70; have S := T; clear T; have c50 := S.out.lay.at 0 rfl; have c51 := S.out.lay.at 1 rfl; have c70 := S.out.many.at 0 rfl)
                | (go_at_call 21; refine (Node_any _ t n _).mono ?_; rintro e w9 ⟨rfl, hb⟩; (first | rw [HNc.out] | rw [HNb.out] | rw [HNa.out]); have T := Lib.hid (S.out.next hb); clear S hb c50 c51 c70; have S := T; clear T; have c50 := S.out.lay.at 0 rfl; have c51 := S.out.lay.at 1 rfl; have c70 := S.out.many.at 0 rfl))
              all_goals
                go_wp2
                go_returns
                exact ⟨rfl, S.out.below⟩

theorem layouts_any (w : World) (x y : Int) (x0 : 0 ≤ x) (x1 : x < 256) (y0 : 0 ≤ y) (y1 : y < 256) :
    Calls Try.prog 4 #[.int .u8 x, .int .u8 y] w fun e w' => e = .returned (.bool true) ∧ Below w.heap.size w w' :=
  layouts_core w x y (1 + x % 8).toNat (1 + y % 200).toNat x0 x1 y0 y1 (by omega) (by omega)
end Go.Proofs.Ytfoiahnpnipjnaa.mem
