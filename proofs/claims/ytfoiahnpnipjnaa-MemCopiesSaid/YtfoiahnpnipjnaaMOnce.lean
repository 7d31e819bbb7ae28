/- The law MemOnce answers true at any place, word and list. -/
import Derived.Test.YtfoiahnpnipjnaaMSit
import Derived.Deep.RegionWith
namespace Go.Proofs.Ytfoiahnpnipjnaa.mem
open Go.RowKit

section
variable {w : World} {X Y : Nat} {t n k : Int} {zs : List Int} {l : Last}
theorem cas_yes (hm : MemAt w X Y t n zs k l) (a y x : Int) (k0 : 0 ≤ k) (k1 : k ≤ 1000000) (hb : (inB zs a && wordAt zs a == y) = true) :
    Calls Try.prog 15 #[.pointer (some ⟨X, 0, none⟩), .int .i64 a, .int .u64 y, .int .u64 x] w fun e w' => e = .returned (.bool true) ∧ MemAt w' X Y t n (setAt zs a x) (k + 1) ⟨3, a, wordAt zs a, only (inB zs a) x, true⟩ ∧ Apart X Y w w' := by
  have h := Cas_any hm a y x k0 k1
  rw [hb, if_pos rfl] at h
  exact h
theorem cas_no (hm : MemAt w X Y t n zs k l) (a y x : Int) (k0 : 0 ≤ k) (k1 : k ≤ 1000000) (hb : (inB zs a && wordAt zs a == y) = false) :
    Calls Try.prog 15 #[.pointer (some ⟨X, 0, none⟩), .int .i64 a, .int .u64 y, .int .u64 x] w fun e w' => e = .returned (.bool false) ∧ MemAt w' X Y t n zs (k + 1) ⟨3, a, wordAt zs a, only (inB zs a) x, false⟩ ∧ Apart X Y w w' := by
  have h := Cas_any hm a y x k0 k1
  rw [hb, if_neg (by simp)] at h
  exact h
theorem peek_is (hm : MemAt w X Y t n zs k l) (a z : Int) (h : wordAt zs a = z) :
    Calls Try.prog 19 #[.pointer (some ⟨X, 0, none⟩), .int .i64 a] w fun e w' => e = .returned (.int .u64 z) ∧ w = w' := by
  rw [← h]
  exact Peek_any hm a
end

/-- At the head of a round: j of the words were tried. -/
def Once (W wr : World) (b X Y : Nat) (a old : Int) (ws : List Int) (j : Nat) : Prop :=
  ∃ zs k l, Sit W wr b X Y 2 20 zs k l ∧ k = 1 + j ∧ inB zs a = true ∧ wordAt zs a = (if j = 0 then old else ws.getD 0 0) ∧ (0 < j → ws.getD 0 0 ≠ old)

theorem once_hit {zs : List Int} {A old : Int} (h : inB zs A = true) (he : wordAt zs A = old) : (inB zs A && wordAt zs A == old) = true := by rw [h, he]; simp
theorem once_miss {zs : List Int} {A old y : Int} (h : inB zs A = true) (he : wordAt zs A = y) (hn : y ≠ old) : (inB zs A && wordAt zs A == old) = false := by rw [h, he]; simpa using hn
theorem add0 (b : Addr) : b.add 0 = b := by
  obtain ⟨b, o, s⟩ := b
  unfold Addr.add
  split <;> simp_all
theorem words_at {w : World} {bb : Addr} {ws : List Int} (h : Words w (some bb) ws) (i : Nat) (hi : i < ws.length) {x : Int} (hx : x = ws.getD i 0) : w.cell? (bb.add i) = some (.int .u64 x) := by
  obtain ⟨b, hb, hc⟩ := h i hi
  obtain rfl := Option.some.inj hb
  rw [hx]
  exact hc

theorem words_first {w : World} {bb : Addr} {ws : List Int} (h : Words w (some bb) ws) (hi : 0 < ws.length) {x : Int} (hx : x = ws.getD 0 0) : w.cell? bb = some (.int .u64 x) := by
  have h := words_at h 0 hi hx
  rwa [add0] at h

set_option maxHeartbeats 1000000 in
theorem once_long (w : World) (at' old : Int) (a : Option Addr) (N cap : Nat) (hl : 60 < (N : Int)) :
    Calls Try.prog 8 #[.int .u8 at', .int .u64 old, .slice a N cap] w fun e w' => e = .returned (.bool true) ∧ Below w.heap.size w w' := by
  go_enter Try.func8, Try.ntmps8
  go_wp2_with (go_at_call 9; refine (awake_any _).mono ?_; rintro e w1 ⟨rfl, hb⟩; have HB := Lib.hid hb; clear hb)
  go_returns
  exact ⟨rfl, HB.out⟩

set_option maxRecDepth 100000 in
set_option maxHeartbeats 2000000 in
theorem once_short (w : World) (at' old : Int) (a : Option Addr) (ws : List Int) (N cap : Nat) (hN : ws.length = N) (hl : (N : Int) ≤ 60) (a0 : 0 ≤ at') (a1 : at' < 256) (hw : Words w a ws) :
    Calls Try.prog 8 #[.int .u8 at', .int .u64 old, .slice a N cap] w fun e w' => e = .returned (.bool true) ∧ Below w.heap.size w w' := by
  have HW := Lib.hid hw
  have HN := Lib.hid hN
  clear hw hN
  go_enter Try.func8, Try.ntmps8
  go_wp2_with (first
    | (go_at_call 9; refine (awake_any _).mono ?_; rintro e w1 ⟨rfl, hb⟩; have HB := Lib.hid hb; clear hb)
    | (go_at_call 10; refine (new_ok _ 2 20 _ [] 0 _ 56 rfl (by omega) (by omega) (by omega) (by omega) (by omega) (by omega) (Words.none _)).mono ?_; rintro e w2 ⟨X, Y, rfl, hm⟩; have S0 := Lib.hid (Sit.made (Box.new w1 (layCells 2 20) 23) (HB.out.alloc (HB.out.size) _) HB.out.size hm); clear hm; have c0 := S0.out.lay.at 0 rfl; have c1 := S0.out.lay.at 1 rfl; have hz := S0.out.size)
    | (go_at_call 12; refine (Size_any _ 2 20 (by omega) (by omega) (by omega) (by omega)).mono ?_; rintro e w3 ⟨rfl, hb⟩; have T := Lib.hid (S0.out.next hb); clear S0 hb; have S0 := T; clear T)
    | (go_at_call 14; refine (Store_any S0.out.mem _ _ (by omega) (by omega)).mono ?_; rintro e w4 ⟨rfl, hm, ha⟩; have T := Lib.hid (S0.out.act hm ha); clear S0 hm ha; have S0 := T; clear T))
  have g0 : 0 ≤ at' % 56 := by omega
  have g1 : at' % 56 < 56 := by omega
  generalize at' % 56 = A at *
  have hin : inB (padTo 56 []) A = true := by unfold inB; rw [padTo_length (by simp)]; simp; omega
  have HO : Once w w4 w1.heap.size X Y A old ws 0 := ⟨_, _, _, S0.out, by simp, by rw [inB_setAt]; exact hin, by rw [wordAt_setAt_same _ _ _ hin]; rfl, by omega⟩
  clear hin S0 c0 c1 hz
  go_loopw [37] (fun i wr => ∃ j : Nat, j ≤ N ∧ i = .int .i64 j ∧ Once w wr w1.heap.size X Y A old ws j) (fun i _ => N - (intOf i).toNat)
  case atStart => exact ⟨0, Nat.zero_le _, rfl, HO⟩
  case round =>
    clear HO
    obtain ⟨j, hj, rfl, zs, k, l, S0, hk, hin, hat, hne⟩ := hrel
    have HS := Lib.hid S0
    have HI := Lib.hid hin
    have HK := Lib.hid hk
    have HA := Lib.hid hat
    have HE := Lib.hid hne
    have HX := Lib.hid (HW.out.later S0.below)
    clear S0 hin hk hat hne
    by_cases hlt : j < N
    · obtain ⟨bb, rfl, hc⟩ := HX.out j (by rw [HN.out]; exact hlt)
      have hx : ∃ x, x = ws.getD j 0 := ⟨_, rfl⟩
      obtain ⟨x, hx⟩ := hx
      rw [← hx] at hc
      have HV := Lib.hid hx
      clear hx
      by_cases he : x = old
      · have hq : (x == old) = true := by simp [he]
        clear he
        go_wp2
        go_returns
        exact ⟨rfl, HS.out.below⟩
      · have hq : (x == old) = false := by simpa using he
        have HQ := Lib.hid he
        clear he
        by_cases h0 : j = 0
        · subst h0
          rw [add0] at hc
          have HB := Lib.hid (once_hit HI.out (HA.out.trans (if_pos rfl)))
          have HP := Lib.hid (wordAt_setAt_same zs A x HI.out)
          have hN0 : (0 : Int) < (N : Int) := by omega
          go_wp2
          go_region_with (first
            | (go_at_call 15; refine (cas_yes HS.out.drew.mem A old x (by have := HK.out; omega) (by have := HK.out; omega) HB.out).mono ?_; rintro e w5 ⟨rfl, hm5, ha5⟩; have H5 := Lib.hid (HS.out.drew.act hm5 ha5); clear hm5 ha5; have hc5 := words_first (HW.out.later H5.out.below) (by rw [HN.out]; exact hlt) HV.out)
            | (go_at_call 19; refine (peek_is H5.out.mem A x HP.out).mono ?_; rintro e w6 ⟨rfl, rfl⟩))
          all_goals
            go_wp2
            go_roundw
            case rel => exact ⟨1, by omega, by go_num, _, _, _, H5.out, by have := HK.out; omega, by rw [inB_setAt]; exact HI.out, by rw [HP.out, HV.out]; rfl, fun _ => by rw [← HV.out]; exact HQ.out⟩
            case measure => simp [intOf]; omega
        · have hj0 : ((j : Int) == 0) = false := by simpa using h0
          obtain ⟨y, hy⟩ : ∃ y, y = ws.getD 0 0 := ⟨_, rfl⟩
          have HY := Lib.hid hy
          have hyo : y ≠ old := by rw [hy]; exact HE.out (by omega)
          have HB := Lib.hid (once_miss HI.out (HA.out.trans (if_neg h0)) (by rw [← hy]; exact hyo))
          have HP : Hid (wordAt zs A = y) := by rw [hy]; exact HA.out.trans (if_neg h0)
          clear hy hyo
          have hN0 : (0 : Int) < (N : Int) := by omega
          go_wp2
          go_region_with (first
            | (go_at_call 15; refine (cas_no HS.out.drew.mem A old x (by have := HK.out; omega) (by have := HK.out; omega) HB.out).mono ?_; rintro e w5 ⟨rfl, hm5, ha5⟩; have H5 := Lib.hid (HS.out.drew.act hm5 ha5); clear hm5 ha5; have hc5 := words_first (HW.out.later H5.out.below) (by rw [HN.out]; omega) HY.out)
            | (go_at_call 19; refine (peek_is H5.out.mem A y HP.out).mono ?_; rintro e w6 ⟨rfl, rfl⟩))
          all_goals
            go_wp2
            go_roundw
            case rel => exact ⟨j + 1, by omega, by go_num, _, _, _, H5.out, by have := HK.out; omega, HI.out, by rw [HP.out, HY.out]; rfl, fun _ => HE.out (by omega)⟩
            case measure => simp [intOf]; omega
    · go_wp2
      go_returns
      exact ⟨rfl, HS.out.below⟩
end Go.Proofs.Ytfoiahnpnipjnaa.mem
