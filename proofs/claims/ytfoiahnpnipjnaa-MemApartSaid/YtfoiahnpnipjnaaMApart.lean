/- The law's own action; two actions at unlike addresses. -/
import Derived.Test.YtfoiahnpnipjnaaMDuo
namespace Go.Proofs.Ytfoiahnpnipjnaa.mem
open Go.RowKit

/-- What an action tells: a number, -/
def actV (K : Int) (zs : List Int) (A : Int) : Int := if K = 1 ∨ K = 4 then wordAt zs A else 0
/-- and whether it was done (a Cas alone tells that). -/
def actB (K : Int) (zs : List Int) (A Old : Int) : Bool := decide (K = 3) && (inB zs A && wordAt zs A == Old)
/-- The words behind it. -/
def actZ (K : Int) (zs : List Int) (A Old X : Int) : List Int :=
  if K = 2 then setAt zs A X else if K = 3 then (if (inB zs A && wordAt zs A == Old) = true then setAt zs A X else zs) else if K = 4 then setAt zs A (IntKind.u64.wrap (wordAt zs A + X)) else zs
theorem actZ_length (K : Int) (zs : List Int) (A Old X : Int) : (actZ K zs A Old X).length = zs.length := by
  unfold actZ
  split
  · exact setAt_length ..
  · split
    · split
      · exact setAt_length ..
      · rfl
    · split
      · exact setAt_length ..
      · rfl
theorem inB_actZ (K : Int) (zs : List Int) (A Old X B : Int) : inB (actZ K zs A Old X) B = inB zs B := by unfold inB; rw [actZ_length]
theorem wordAt_actZ (K : Int) (zs : List Int) (A Old X B : Int) (h : A ≠ B) : wordAt (actZ K zs A Old X) B = wordAt zs B := by
  unfold actZ
  split
  · exact wordAt_setAt_other _ _ _ _ h
  · split
    · split
      · exact wordAt_setAt_other _ _ _ _ h
      · rfl
    · split
      · exact wordAt_setAt_other _ _ _ _ h
      · rfl
theorem actV_other (K K2 : Int) (zs : List Int) (A B Old X : Int) (h : A ≠ B) : actV K2 (actZ K zs A Old X) B = actV K2 zs B := by unfold actV; rw [wordAt_actZ _ _ _ _ _ _ h]
theorem actB_other (K K2 : Int) (zs : List Int) (A B Old X Old2 : Int) (h : A ≠ B) : actB K2 (actZ K zs A Old X) B Old2 = actB K2 zs B Old2 := by unfold actB; rw [wordAt_actZ _ _ _ _ _ _ h, inB_actZ]
/-- What an action does at its address, as a store of a number that hangs on that word alone. -/
theorem actZ_store (K : Int) (A Old X : Int) : ∃ f : Bool → Int → Int, ∀ ys : List Int, actZ K ys A Old X = setAt ys A (f (inB ys A) (wordAt ys A)) := by
  refine ⟨fun b v => if K = 2 then X else if K = 3 then (if (b && v == Old) = true then X else v) else if K = 4 then IntKind.u64.wrap (v + X) else v, fun ys => ?_⟩
  unfold actZ
  by_cases h2 : K = 2
  · rw [if_pos h2]; simp only [h2, if_true]
  · rw [if_neg h2]; simp only [h2, if_false]
    by_cases h3 : K = 3
    · rw [if_pos h3]; simp only [h3, if_true]
      split
      · rfl
      · rw [setAt_same]
    · rw [if_neg h3]; simp only [h3, if_false]
      by_cases h4 : K = 4
      · rw [if_pos h4]; simp only [h4, if_true]
      · rw [if_neg h4]; simp only [h4, if_false]; rw [setAt_same]
theorem actZ_comm (K K2 : Int) (zs : List Int) (A B Old Old2 X X2 : Int) (h : A ≠ B) : actZ K2 (actZ K zs A Old X) B Old2 X2 = actZ K (actZ K2 zs B Old2 X2) A Old X := by
  obtain ⟨f, hf⟩ := actZ_store K A Old X
  obtain ⟨g, hg⟩ := actZ_store K2 B Old2 X2
  rw [hg (actZ K zs A Old X), hf (actZ K2 zs B Old2 X2), inB_actZ, inB_actZ, wordAt_actZ _ _ _ _ _ _ h, wordAt_actZ _ _ _ _ _ _ (Ne.symm h), hf zs, hg zs]
  exact setAt_comm _ _ _ _ _ h

/-- An action was done. -/
def Acted (w : World) (X Y : Nat) (t n : Int) (zs : List Int) (k : Int) (v : Int) (b : Bool) (e : Ending) (w' : World) : Prop :=
  e = .returned (.tuple #[.int .u64 v, .bool b]) ∧ ∃ k' l', k ≤ k' ∧ k' ≤ k + 1 ∧ MemAt w' X Y t n zs k' l' ∧ Apart X Y w w'

section
variable {w : World} {X Y : Nat} {t n k : Int} {zs : List Int} {l : Last}
theorem pair_same {x : Int} {b c : Bool} (h : b = c) : Ending.returned (.tuple #[.int .u64 x, .bool b]) = Ending.returned (.tuple #[.int .u64 x, .bool c]) := by rw [h]

set_option maxHeartbeats 1000000 in
theorem act_1 (hm : MemAt w X Y t n zs k l) (A Old x : Int) (k0 : 0 ≤ k) (k1 : k ≤ 1000000) :
    Calls Try.prog 32 #[.pointer (some ⟨X, 0, none⟩), .agg (opCells 1 A Old x)] w (Acted w X Y t n zs k (wordAt zs A) false) := by
  have HM := Lib.hid hm
  clear hm
  go_enter Try.func32, Try.ntmps32
  go_wp2_with (go_at_call 13; refine (Load_any (HM.out.alloc _) A k0 k1).mono ?_; rintro e w1 ⟨rfl, hm1, ha1⟩; have HM1 := Lib.hid hm1; have HA1 := Lib.hid ha1; clear hm1 ha1)
  go_returns
  exact ⟨rfl, _, _, by omega, by omega, HM1.out, ((Apart.refl w).alloc _).trans HA1.out⟩
set_option maxHeartbeats 1000000 in
theorem act_2 (hm : MemAt w X Y t n zs k l) (A Old x : Int) (k0 : 0 ≤ k) (k1 : k ≤ 1000000) :
    Calls Try.prog 32 #[.pointer (some ⟨X, 0, none⟩), .agg (opCells 2 A Old x)] w (Acted w X Y t n (setAt zs A x) k 0 false) := by
  have HM := Lib.hid hm
  clear hm
  go_enter Try.func32, Try.ntmps32
  go_wp2_with (go_at_call 14; refine (Store_any (HM.out.alloc _) A x k0 k1).mono ?_; rintro e w1 ⟨rfl, hm1, ha1⟩; have HM1 := Lib.hid hm1; have HA1 := Lib.hid ha1; clear hm1 ha1)
  go_returns
  exact ⟨rfl, _, _, by omega, by omega, HM1.out, ((Apart.refl w).alloc _).trans HA1.out⟩
set_option maxHeartbeats 1000000 in
theorem act_3 (hm : MemAt w X Y t n zs k l) (A Old x : Int) (b : Bool) (ys : List Int) (k0 : 0 ≤ k) (k1 : k ≤ 1000000) (hb : (inB zs A && wordAt zs A == Old) = b) (hy : (if b = true then setAt zs A x else zs) = ys) :
    Calls Try.prog 32 #[.pointer (some ⟨X, 0, none⟩), .agg (opCells 3 A Old x)] w (Acted w X Y t n ys k 0 b) := by
  have HM := Lib.hid hm
  have HC := Lib.hid (Cas_any (hm.alloc (.cells (opCells 3 A Old x) 34)) A Old x k0 k1)
  rw [hb, hy] at HC
  clear hm hb hy
  go_enter Try.func32, Try.ntmps32
  go_wp2_with (go_at_call 15; refine (HC.out).mono ?_; rintro e w1 ⟨rfl, hm1, ha1⟩; have HM1 := Lib.hid hm1; have HA1 := Lib.hid ha1; clear hm1 ha1)
  go_returns
  exact ⟨rfl, _, _, by omega, by omega, HM1.out, ((Apart.refl w).alloc _).trans HA1.out⟩
set_option maxHeartbeats 1000000 in
theorem act_4 (hm : MemAt w X Y t n zs k l) (A Old x : Int) (k0 : 0 ≤ k) (k1 : k ≤ 1000000) :
    Calls Try.prog 32 #[.pointer (some ⟨X, 0, none⟩), .agg (opCells 4 A Old x)] w (Acted w X Y t n (setAt zs A (IntKind.u64.wrap (wordAt zs A + x))) k (wordAt zs A) false) := by
  have HM := Lib.hid hm
  clear hm
  go_enter Try.func32, Try.ntmps32
  go_wp2_with (go_at_call 16; refine (Add_any (HM.out.alloc _) A x k0 k1).mono ?_; rintro e w1 ⟨rfl, hm1, ha1⟩; have HM1 := Lib.hid hm1; have HA1 := Lib.hid ha1; clear hm1 ha1)
  go_returns
  exact ⟨rfl, _, _, by omega, by omega, HM1.out, ((Apart.refl w).alloc _).trans HA1.out⟩
set_option maxHeartbeats 1000000 in
theorem act_0 (hm : MemAt w X Y t n zs k l) (K A Old x : Int) (h1 : (K == 1) = false) (h2 : (K == 2) = false) (h3 : (K == 3) = false) (h4 : (K == 4) = false) :
    Calls Try.prog 32 #[.pointer (some ⟨X, 0, none⟩), .agg (opCells K A Old x)] w (Acted w X Y t n zs k 0 false) := by
  have HM := Lib.hid hm
  clear hm
  go_enter Try.func32, Try.ntmps32
  go_wp2
  go_returns
  exact ⟨rfl, _, _, by omega, by omega, HM.out.alloc _, (Apart.refl w).alloc _⟩

theorem act_any (hm : MemAt w X Y t n zs k l) (K A Old x : Int) (k0 : 0 ≤ k) (k1 : k ≤ 1000000) :
    Calls Try.prog 32 #[.pointer (some ⟨X, 0, none⟩), .agg (opCells K A Old x)] w (Acted w X Y t n (actZ K zs A Old x) k (actV K zs A) (actB K zs A Old)) := by
  by_cases h1 : K = 1
  · subst h1; exact act_1 hm A Old x k0 k1
  by_cases h2 : K = 2
  · subst h2; exact act_2 hm A Old x k0 k1
  by_cases h3 : K = 3
  · subst h3
    have h := act_3 hm A Old x (actB 3 zs A Old) _ k0 k1 (by unfold actB; simp) rfl
    have e : (actB 3 zs A Old) = (inB zs A && wordAt zs A == Old) := by unfold actB; simp
    have ez : actZ 3 zs A Old x = if (inB zs A && wordAt zs A == Old) = true then setAt zs A x else zs := by unfold actZ; rw [if_neg (by decide), if_pos rfl]
    have ev : actV 3 zs A = 0 := by unfold actV; rw [if_neg (by decide)]
    rw [ez, ev, ← e]
    exact h
  by_cases h4 : K = 4
  · subst h4; exact act_4 hm A Old x k0 k1
  · have h := act_0 hm K A Old x (by simpa using h1) (by simpa using h2) (by simpa using h3) (by simpa using h4)
    unfold actZ actV actB
    rw [if_neg h2, if_neg h3, if_neg h4, if_neg (by simp [h1, h4])]
    simpa [h3] using h
end

set_option maxHeartbeats 1000000 in
theorem apart_long (w : World) (K A Old X K2 A2 Old2 X2 : Int) (a : Option Addr) (N cap : Nat) (hl : 30 < (N : Int)) :
    Calls Try.prog 7 #[.slice a N cap, .agg (opCells K A Old X), .agg (opCells K2 A2 Old2 X2)] w fun e w' => e = .returned (.bool true) ∧ Below w.heap.size w w' := by
  have P0 := Lib.hid (Pre.two w (opCells K A Old X) 34 (opCells K2 A2 Old2 X2) 34)
  go_enter Try.func7, Try.ntmps7
  go_wp2_with (go_at_call 9; refine (awake_any _).mono ?_; rintro e w1 ⟨rfl, hb⟩; have T := Lib.hid (P0.out.next hb); clear P0 hb; have P0 := T; clear T)
  go_returns
  exact ⟨rfl, P0.out.below⟩
set_option maxHeartbeats 1000000 in
theorem apart_one (w : World) (K A Old X K2 Old2 X2 : Int) (a : Option Addr) (N cap : Nat) (hl : (N : Int) ≤ 30) :
    Calls Try.prog 7 #[.slice a N cap, .agg (opCells K A Old X), .agg (opCells K2 A Old2 X2)] w fun e w' => e = .returned (.bool true) ∧ Below w.heap.size w w' := by
  have P0 := Lib.hid (Pre.two w (opCells K A Old X) 34 (opCells K2 A Old2 X2) 34)
  have hd : decide (30 < (N : Int)) = false := by simp; omega
  go_enter Try.func7, Try.ntmps7
  go_wp2_with (go_at_call 9; refine (awake_any _).mono ?_; rintro e w1 ⟨rfl, hb⟩; have T := Lib.hid (P0.out.next hb); clear P0 hb; have P0 := T; clear T; have a1 := P0.out.op1.at 1 rfl; have b1 := P0.out.op2.at 1 rfl)
  go_returns
  exact ⟨rfl, P0.out.below⟩

set_option maxRecDepth 100000 in
set_option maxHeartbeats 4000000 in
theorem apart_two (w : World) (K A Old X K2 A2 Old2 X2 : Int) (a : Option Addr) (ws : List Int) (N cap : Nat) (hN : ws.length = N) (hl : (N : Int) ≤ 30) (hA : A ≠ A2) (hw : Words w a ws) :
    Calls Try.prog 7 #[.slice a N cap, .agg (opCells K A Old X), .agg (opCells K2 A2 Old2 X2)] w fun e w' => e = .returned (.bool true) ∧ Below w.heap.size w w' := by
  have P0 := Lib.hid (Pre.two w (opCells K A Old X) 34 (opCells K2 A2 Old2 X2) 34)
  have HW := Lib.hid hw
  have HN := Lib.hid hN
  have HA := Lib.hid hA
  have HL : Hid ((padTo 56 ws).length = 56) := padTo_length (by omega)
  have hd : decide (30 < (N : Int)) = false := by simp; omega
  have hq : (A == A2) = false := by simpa using hA
  have HE : Hid (decide (actZ K2 (actZ K (padTo 56 ws) A Old X) A2 Old2 X2 = actZ K (actZ K2 (padTo 56 ws) A2 Old2 X2) A Old X) = true) := decide_eq_true (actZ_comm K K2 (padTo 56 ws) A A2 Old Old2 X X2 hA)
  have H1 : Hid (actV K2 (actZ K (padTo 56 ws) A Old X) A2 = actV K2 (padTo 56 ws) A2) := actV_other _ _ _ _ _ _ _ hA
  have H2 : Hid (actB K2 (actZ K (padTo 56 ws) A Old X) A2 Old2 = actB K2 (padTo 56 ws) A2 Old2) := actB_other _ _ _ _ _ _ _ _ hA
  have H3 : Hid (actV K (actZ K2 (padTo 56 ws) A2 Old2 X2) A = actV K (padTo 56 ws) A) := actV_other _ _ _ _ _ _ _ (Ne.symm hA)
  have H4 : Hid (actB K (actZ K2 (padTo 56 ws) A2 Old2 X2) A Old = actB K (padTo 56 ws) A Old) := actB_other _ _ _ _ _ _ _ _ (Ne.symm hA)
  clear hw hN hA
  go_enter Try.func7, Try.ntmps7
  go_wp2_with (first
    | (go_at_call 9; refine (awake_any _).mono ?_; rintro e w1 ⟨rfl, hb⟩; have T := Lib.hid (P0.out.next hb); clear P0 hb; have P0 := T; clear T; have a1 := P0.out.op1.at 1 rfl; have b1 := P0.out.op2.at 1 rfl)
    | (go_at_call 10; refine (new_ok _ 2 20 a ws N cap 56 HN.out (by omega) (by omega) (by omega) (by omega) (by omega) (by omega) (HW.out.later (P0.out.alloc _).below)).mono ?_; rintro e w2 ⟨X1, Y1, rfl, hm⟩; have S0 := Lib.hid (Solo.made (P0.out.alloc (.cells (layCells 2 20) 23)) hm); have l0 := (Box.below (Box.new w1 (layCells 2 20) 23) hm.below).at 0 rfl; have l1 := (Box.below (Box.new w1 (layCells 2 20) 23) hm.below).at 1 rfl; clear hm P0)
    | (go_at_call 10; refine (new_ok _ 2 20 a ws N cap 56 HN.out (by omega) (by omega) (by omega) (by omega) (by omega) (by omega) (HW.out.later S0.out.pre.below)).mono ?_; rintro e w3 ⟨X3, Y3, rfl, hm⟩; have D0 := Lib.hid (Duo.made S0.out hm); clear hm S0; have a0 := D0.out.one.pre.op1.at 0 rfl; have a1 := D0.out.one.pre.op1.at 1 rfl; have a2 := D0.out.one.pre.op1.at 2 rfl; have a3 := D0.out.one.pre.op1.at 3 rfl)
    | (go_at_call 32; refine (act_any D0.out.one.mem K A Old X (by omega) (by omega)).mono ?_; rintro e w4 ⟨rfl, k1, l1, g1, g2, hm, ha⟩; have D1 := Lib.hid (D0.out.act1 hm ha); clear D0 hm ha; have a0 := D1.out.one.pre.op2.at 0 rfl; have a1 := D1.out.one.pre.op2.at 1 rfl; have a2 := D1.out.one.pre.op2.at 2 rfl; have a3 := D1.out.one.pre.op2.at 3 rfl)
    | (go_at_call 32; refine (act_any D1.out.one.mem K2 A2 Old2 X2 (by omega) (by omega)).mono ?_; rintro e w5 ⟨rfl, k2, l2, g3, g4, hm, ha⟩; rw [H1.out, H2.out]; have D2 := Lib.hid (D1.out.act1 hm ha); clear D1 hm ha; have a0 := D2.out.one.pre.op2.at 0 rfl; have a1 := D2.out.one.pre.op2.at 1 rfl; have a2 := D2.out.one.pre.op2.at 2 rfl; have a3 := D2.out.one.pre.op2.at 3 rfl)
    | (go_at_call 32; refine (act_any D2.out.two.mem K2 A2 Old2 X2 (by omega) (by omega)).mono ?_; rintro e w6 ⟨rfl, k3, l3, g5, g6, hm, ha⟩; have D3 := Lib.hid (D2.out.act2 hm ha); clear D2 hm ha; have a0 := D3.out.one.pre.op1.at 0 rfl; have a1 := D3.out.one.pre.op1.at 1 rfl; have a2 := D3.out.one.pre.op1.at 2 rfl; have a3 := D3.out.one.pre.op1.at 3 rfl)
    | (go_at_call 32; refine (act_any D3.out.two.mem K A Old X (by omega) (by omega)).mono ?_; rintro e w7 ⟨rfl, k4, l4, g7, g8, hm, ha⟩; rw [H3.out, H4.out]; have D4 := Lib.hid (D3.out.act2 hm ha); clear D3 hm ha)
    | (go_at_call 30; refine (same_is D4.out.one.mem D4.out.two.mem 56 true (by rw [actZ_length, actZ_length]; exact HL.out) (by rw [actZ_length, actZ_length]; exact HL.out) (by omega) HE.out).mono ?_; rintro e w8 ⟨rfl, hb⟩; have D5 := Lib.hid (D4.out.next hb); clear D4 hb))
  go_returns
  exact ⟨rfl, D5.out.one.pre.below⟩

theorem apart_any (w : World) (K A Old X K2 A2 Old2 X2 : Int) (a : Option Addr) (ws : List Int) (N cap : Nat) (hN : ws.length = N) (hw : Words w a ws) :
    Calls Try.prog 7 #[.slice a N cap, .agg (opCells K A Old X), .agg (opCells K2 A2 Old2 X2)] w fun e w' => e = .returned (.bool true) ∧ Below w.heap.size w w' := by
  by_cases hl : (N : Int) ≤ 30
  · by_cases hA : A = A2
    · subst hA
      exact apart_one w K A Old X K2 Old2 X2 a N cap hl
    · exact apart_two w K A Old X K2 A2 Old2 X2 a ws N cap hN hl hA hw
  · exact apart_long w K A Old X K2 A2 Old2 X2 a N cap (by omega)
end Go.Proofs.Ytfoiahnpnipjnaa.mem
