/- The desc package's other functions, and the law's own: what each call returns; nothing that was there has changed. -/
import Derived.Test.YtckplpojlhdmhaaDoorDGet
namespace Go.Proofs.YtckplpojlhdmhaaDoor.desc
open Go.RowKit

/-- The attempt behind an attempt. -/
def nextAtt (t : Int) : Int := if t = 4095 then 0 else t + 1
theorem nextAtt_mod (t : Int) (h0 : 0 ≤ t) (h1 : t < 4096) : nextAtt t = (t + 1) % 4096 := by
  unfold nextAtt
  split <;> omega
theorem nextAtt_range (t : Int) (h0 : 0 ≤ t) (h1 : t < 4096) : 0 ≤ nextAtt t ∧ nextAtt t < 4096 := by
  unfold nextAtt
  split <;> omega
/-- One, if an answer's code is ErrFull. -/
def full (c : Int) : Int := if c = 4 then 1 else 0
/-- Is a status one of Empty, Proposed, Won, Lost? -/
def pend (s : Int) : Bool := s == 1 || s == 2 || s == 3 || s == 4

set_option maxHeartbeats 400000 in
theorem next_any (w : World) (t a v n : Int) (m : Bool) (s x : Int) (t0 : 0 ≤ t) (t1 : t < 4096) :
    Calls Tryd.prog 13 #[.agg #[.int .i64 t, .int .i64 a, .int .i64 v, .int .i64 n, .bool m, .int .i64 s, .int .i64 x]] w fun e w' => e = .returned (.agg #[.int .i64 (nextAtt t), .int .i64 0, .int .i64 0, .int .i64 0, .bool false, .int .i64 1, .int .i64 0]) ∧ Below w.heap.size w w' := by
  by_cases h : t = 4095
  · subst h
    go_enter Tryd.func13, Tryd.ntmps13
    go_wp2
    go_returns
    exact ⟨rfl, by go_grown⟩
  · have hn : nextAtt t = t + 1 := if_neg h
    rw [hn]
    clear hn
    have hb : (t == 4095) = false := by simpa using h
    clear h
    go_enter Tryd.func13, Tryd.ntmps13
    go_wp2
    go_returns
    exact ⟨rfl, by go_grown⟩

set_option maxHeartbeats 400000 in
theorem ended_any (w : World) (t a v n : Int) (m : Bool) (s x : Int) (c : Int) (k : Bool) (z : Int) :
    Calls Tryd.prog 14 #[.agg #[.int .i64 t, .int .i64 a, .int .i64 v, .int .i64 n, .bool m, .int .i64 s, .int .i64 x], .agg #[.int .i64 c, .bool k, .int .i64 z]] w fun e w' => e = .returned (.agg #[.int .i64 t, .int .i64 0, .int .i64 0, .int .i64 (full c), .bool k, .int .i64 5, .int .i64 z]) ∧ Below w.heap.size w w' := by
  by_cases h : c = 4
  · subst h
    go_enter Tryd.func14, Tryd.ntmps14
    go_wp2
    go_returns
    exact ⟨rfl, by go_grown⟩
  · have hn : full c = 0 := if_neg h
    rw [hn]
    clear hn
    have hb : (c == 4) = false := by simpa using h
    clear h
    go_enter Tryd.func14, Tryd.ntmps14
    go_wp2
    go_returns
    exact ⟨rfl, by go_grown⟩

set_option maxHeartbeats 400000 in
theorem with_any (w : World) (t a v n : Int) (m : Bool) (s x : Int) (s' : Int) :
    Calls Tryd.prog 17 #[.agg #[.int .i64 t, .int .i64 a, .int .i64 v, .int .i64 n, .bool m, .int .i64 s, .int .i64 x], .int .i64 s'] w fun e w' => e = .returned (.agg #[.int .i64 t, .int .i64 a, .int .i64 v, .int .i64 n, .bool m, .int .i64 s', .int .i64 x]) ∧ Below w.heap.size w w' := by
  go_enter Tryd.func17, Tryd.ntmps17
  go_wp2
  go_returns
  exact ⟨rfl, by go_grown⟩

set_option maxHeartbeats 400000 in
theorem res_not (w : World) (t a v n : Int) (m : Bool) (s x : Int) (hs : s ≠ 5) :
    Calls Tryd.prog 18 #[.agg #[.int .i64 t, .int .i64 a, .int .i64 v, .int .i64 n, .bool m, .int .i64 s, .int .i64 x]] w fun e w' => e = .returned (.agg #[.int .i64 5, .bool false, .int .i64 0]) ∧ Below w.heap.size w w' := by
  have hb : (s != 5) = true := by simpa using hs
  have hb' : (s == 5) = false := by simpa using hs
  clear hs
  go_enter Tryd.func18, Tryd.ntmps18
  go_wp2
  go_returns
  exact ⟨rfl, by go_grown⟩

set_option maxHeartbeats 400000 in
theorem res_full (w : World) (t a v : Int) (m : Bool) (x : Int) :
    Calls Tryd.prog 18 #[.agg #[.int .i64 t, .int .i64 a, .int .i64 v, .int .i64 1, .bool m, .int .i64 5, .int .i64 x]] w fun e w' => e = .returned (.agg #[.int .i64 4, .bool false, .int .i64 0]) ∧ Below w.heap.size w w' := by
  go_enter Tryd.func18, Tryd.ntmps18
  go_wp2
  go_returns
  exact ⟨rfl, by go_grown⟩

set_option maxHeartbeats 400000 in
theorem res_ok (w : World) (t a v : Int) (m : Bool) (x : Int) :
    Calls Tryd.prog 18 #[.agg #[.int .i64 t, .int .i64 a, .int .i64 v, .int .i64 0, .bool m, .int .i64 5, .int .i64 x]] w fun e w' => e = .returned (.agg #[.int .i64 0, .bool m, .int .i64 x]) ∧ Below w.heap.size w w' := by
  go_enter Tryd.func18, Tryd.ntmps18
  go_wp2
  go_returns
  exact ⟨rfl, by go_grown⟩

theorem u64_ret {a b : Int} (h : a = b) : Ending.returned (.int .u64 a) = Ending.returned (.int .u64 b) := by rw [h]
theorem ret_bool {a b : Bool} (h : a = b) : Ending.returned (.bool a) = Ending.returned (.bool b) := by rw [h]

set_option maxHeartbeats 1000000 in
theorem pending_any (w : World) (t a v n : Int) (m : Bool) (s x : Int) :
    Calls Tryd.prog 16 #[.agg #[.int .i64 t, .int .i64 a, .int .i64 v, .int .i64 n, .bool m, .int .i64 s, .int .i64 x]] w fun e w' => e = .returned (.bool (pend s)) ∧ Below w.heap.size w w' := by
  by_cases h1 : s = 1
  · subst h1
    go_enter Tryd.func16, Tryd.ntmps16
    go_wp2
    go_rounds 5
    go_returns
    exact ⟨rfl, by go_grown⟩
  by_cases h2 : s = 2
  · subst h2
    go_enter Tryd.func16, Tryd.ntmps16
    go_wp2
    go_rounds 5
    go_returns
    exact ⟨rfl, by go_grown⟩
  by_cases h3 : s = 3
  · subst h3
    go_enter Tryd.func16, Tryd.ntmps16
    go_wp2
    go_rounds 5
    go_returns
    exact ⟨rfl, by go_grown⟩
  by_cases h4 : s = 4
  · subst h4
    go_enter Tryd.func16, Tryd.ntmps16
    go_wp2
    go_rounds 5
    go_returns
    exact ⟨rfl, by go_grown⟩
  have b1 : (s == 1) = false := by simpa using h1
  have b2 : (s == 2) = false := by simpa using h2
  have b3 : (s == 3) = false := by simpa using h3
  have b4 : (s == 4) = false := by simpa using h4
  have hp : pend s = false := by unfold pend; rw [b1, b2, b3, b4]; rfl
  have hq : Hid (pend s = false) := hp
  clear h1 h2 h3 h4 hp
  go_enter Tryd.func16, Tryd.ntmps16
  go_wp2
  go_rounds 5
  go_returns
  exact ⟨ret_bool hq.out.symm, by go_grown⟩

set_option maxHeartbeats 1000000 in
theorem fit_yes (w : World) (t a v n : Int) (m : Bool) (s x : Int) (t0 : 0 ≤ t) (t1 : t < 4096) (a0 : 0 ≤ a) (a1 : a < 512) (v0 : 0 ≤ v) (v1 : v < 262144) (n0 : 0 ≤ n) (n1 : n < 512) (s0 : 0 ≤ s) (s1 : s < 8) (x0 : 0 ≤ x) (x1 : x < 1024) :
    Calls Tryd.prog 10 #[.agg #[.int .i64 t, .int .i64 a, .int .i64 v, .int .i64 n, .bool m, .int .i64 s, .int .i64 x]] w fun e w' => e = .returned (.bool true) ∧ Below w.heap.size w w' := by
  go_enter Tryd.func10, Tryd.ntmps10
  go_wp2
  go_returns
  exact ⟨rfl, by go_grown⟩

set_option maxHeartbeats 2000000 in
theorem fit_no (w : World) (t a v n : Int) (m : Bool) (s x : Int) (h : ¬ (0 ≤ t ∧ t < 4096 ∧ 0 ≤ a ∧ a < 512 ∧ 0 ≤ v ∧ v < 262144 ∧ 0 ≤ n ∧ n < 512 ∧ 0 ≤ s ∧ s < 8 ∧ 0 ≤ x ∧ x < 1024)) :
    Calls Tryd.prog 10 #[.agg #[.int .i64 t, .int .i64 a, .int .i64 v, .int .i64 n, .bool m, .int .i64 s, .int .i64 x]] w fun e w' => e = .returned (.bool false) ∧ Below w.heap.size w w' := by
  have H := Lib.hid h
  clear h
  go_enter Tryd.func10, Tryd.ntmps10
  go_wp2
  all_goals
    go_returns
    refine ⟨?_, by go_grown⟩
    first | rfl | exact ret_bool (decide_eq_false (fun hx => absurd (by omega) H.out))

set_option maxHeartbeats 1000000 in
theorem number_any (w : World) (t a v n : Int) (m : Bool) (s x : Int) (t0 : 0 ≤ t) (t1 : t < 4096) (a0 : 0 ≤ a) (a1 : a < 512) (v0 : 0 ≤ v) (v1 : v < 262144) (n0 : 0 ≤ n) (n1 : n < 512) (s0 : 0 ≤ s) (s1 : s < 8) (x0 : 0 ≤ x) (x1 : x < 1024) :
    Calls Tryd.prog 11 #[.agg #[.int .i64 t, .int .i64 a, .int .i64 v, .int .i64 n, .bool m, .int .i64 s, .int .i64 x]] w fun e w' => e = .returned (.int .u64 (num t a v n (mk m) s x)) ∧ Below w.heap.size w w' := by
  cases m
  all_goals
    go_enter Tryd.func11, Tryd.ntmps11
    go_wp2
    go_returns
    refine ⟨u64_ret ?_, by go_grown⟩
    first | rw [show mk false = 0 from rfl] | rw [show mk true = 1 from rfl]
    unfold num
    omega
end Go.Proofs.YtckplpojlhdmhaaDoor.desc
