/- The law DescAttempts answers true at any descriptor and any number of attempts. -/
import Derived.Test.YtckplpojlhdmhaaDoorDBox
namespace Go.Proofs.YtckplpojlhdmhaaDoor.desc
open Go.RowKit

theorem field0 (a b c : Value) (w : World) : (Instr.field 34 (.agg #[a, b, c]) 0).run Tryd.prog w = .ok a w := by kernel_rfl
attribute [local go_sem] field0

theorem next_ne (t : Int) : (nextAtt t == t) = false := by
  unfold nextAtt
  simp
  split <;> omega

theorem pend_new (w : World) (t : Int) :
    Calls Tryd.prog 16 #[.agg #[.int .i64 t, .int .i64 0, .int .i64 0, .int .i64 0, .bool false, .int .i64 1, .int .i64 0]] w fun e w' => e = .returned (.bool true) ∧ Below w.heap.size w w' :=
  (pending_any w t 0 0 0 false 1 0).mono fun _ _ ⟨he, hb⟩ => ⟨he.trans (ret_bool (by decide)), hb⟩

/-- What holds at the head of a round: j attempts lie behind. -/
def Att (W wr : World) (X : Nat) (t a v n : Int) (m : Bool) (s x : Int) (j : Nat) : Prop :=
  ∃ (a' v' n' : Int) (m' : Bool) (s' x' : Int), St W wr X t a v n m s x ((t + j) % 4096) a' v' n' m' s' x'

set_option maxRecDepth 100000 in
set_option maxHeartbeats 1000000 in
theorem att_unfit (w : World) (t a v n : Int) (m : Bool) (s x : Int) (k : Int) (h : ¬ (0 ≤ t ∧ t < 4096 ∧ 0 ≤ a ∧ a < 512 ∧ 0 ≤ v ∧ v < 262144 ∧ 0 ≤ n ∧ n < 512 ∧ 0 ≤ s ∧ s < 8 ∧ 0 ≤ x ∧ x < 1024)) (ht : Table w) :
    Calls Tryd.prog 7 #[.agg #[.int .i64 t, .int .i64 a, .int .i64 v, .int .i64 n, .bool m, .int .i64 s, .int .i64 x], .int .u16 k] w fun e w' => e = .returned (.bool true) ∧ Below w.heap.size w w' := by
  have H := Lib.hid h
  clear h
  have hk0 := Kept.first ht t a v n m s x
  go_enter Tryd.func7, Tryd.ntmps7
  go_wp2_with (first | (go_at_call 8; refine (awake_any _ hk0.old.table).mono ?_; rintro e w1 ⟨rfl, hb1⟩; have hk1 := hk0.next hb1; obtain ⟨d0, d1, d2, d3, d4, d5, d6, hz1⟩ := hk1.row) | (go_at_call 10; refine (fit_no _ t a v n m s x H.out).mono ?_; rintro e w2 ⟨rfl, hb2⟩; have hk2 := hk1.next hb2))
  go_returns
  exact ⟨rfl, hk2.old.below⟩

set_option maxRecDepth 100000 in
set_option maxHeartbeats 2000000 in
theorem att_fit (w : World) (t a v n : Int) (m : Bool) (s x : Int) (k : Int) (t0 : 0 ≤ t) (t1 : t < 4096) (a0 : 0 ≤ a) (a1 : a < 512) (v0 : 0 ≤ v) (v1 : v < 262144) (n0 : 0 ≤ n) (n1 : n < 512) (s0 : 0 ≤ s) (s1 : s < 8) (x0 : 0 ≤ x) (x1 : x < 1024) (k0 : 0 ≤ k) (k1 : k < 65536) (ht : Table w) :
    Calls Tryd.prog 7 #[.agg #[.int .i64 t, .int .i64 a, .int .i64 v, .int .i64 n, .bool m, .int .i64 s, .int .i64 x], .int .u16 k] w fun e w' => e = .returned (.bool true) ∧ Below w.heap.size w w' := by
  have hk0 := Kept.first ht t a v n m s x
  go_enter Tryd.func7, Tryd.ntmps7
  go_wp2_with (first | (go_at_call 8; refine (awake_any _ hk0.old.table).mono ?_; rintro e w1 ⟨rfl, hb1⟩; have hk1 := hk0.next hb1; obtain ⟨d0, d1, d2, d3, d4, d5, d6, hz1⟩ := hk1.row) | (go_at_call 10; refine (fit_yes _ t a v n m s x t0 t1 a0 a1 v0 v1 n0 n1 s0 s1 x0 x1).mono ?_; rintro e w2 ⟨rfl, hb2⟩; have hk2 := hk1.next hb2; obtain ⟨e0, e1, e2, e3, e4, e5, e6, hz2⟩ := hk2.row))
  have hstart : Att w (w2.alloc (.cells #[.int .i64 t, .int .i64 a, .int .i64 v, .int .i64 n, .bool m, .int .i64 s, .int .i64 x] 23)) w2.heap.size t a v n m s x 0 :=
    ⟨a, v, n, m, s, x, by
      have e : (t + (0 : Nat)) % 4096 = t := by simp; omega
      rw [e]
      exact ⟨Box.new .., (hk2.row).alloc _, (hk2.old).alloc _, hk2.row.size⟩⟩
  clear hk0 hk1 hk2 hb1 hb2 d0 d1 d2 d3 d4 d5 d6 hz1 e0 e1 e2 e3 e4 e5 e6 hz2
  go_loopw [7] (fun i wr => ∃ j : Nat, (j : Int) ≤ k % 5000 ∧ i = .int .i64 (j + 1) ∧ Att w wr w2.heap.size t a v n m s x j) (fun i _ => (k % 5000 + 1 - intOf i).toNat)
  case atStart => exact ⟨0, by omega, rfl, hstart⟩
  case round =>
    clear hstart
    obtain ⟨j, hj, rfl, a', v', n', m', s', x', hst⟩ := hrel
    by_cases hlt : (j : Int) + 1 ≤ k % 5000
    · obtain ⟨T, hT⟩ : ∃ T : Int, T = (t + j) % 4096 := ⟨_, rfl⟩
      rw [← hT] at hst
      have T0 : 0 ≤ T := by omega
      have T1 : T < 4096 := by omega
      have HT : Hid (nextAtt T = (t + (j + 1 : Nat)) % 4096) := by
        rw [nextAtt_mod T T0 T1]
        show _ = _
        omega
      clear hT
      have hne := next_ne T
      obtain ⟨f0, f1, f2, f3, f4, f5, f6, hx⟩ := hst.box.row
      go_wp2_with (first | (go_at_call 13; refine (next_any _ T a' v' n' m' s' x' T0 T1).mono ?_; rintro e w3 ⟨rfl, hb3⟩; have hst3 := hst.next hb3; have hf3 := hst3.box.free; obtain ⟨g0, g1, g2, g3, g4, g5, g6, hx3⟩ := hst3.box.row) | (go_at_call 16; refine (pend_new _ (nextAtt T)).mono ?_; rintro e w4 ⟨rfl, hb4⟩; have hst4 := (hst3.alloc _).next hb4; obtain ⟨p0, p1, p2, p3, p4, p5, p6, hz4⟩ := (Row7.new w3 (nextAtt T) 0 0 0 false 1 0).below hb4) | (go_at_call 18; refine (res_not _ (nextAtt T) 0 0 0 false 1 0 (by omega)).mono ?_; rintro e w5 ⟨rfl, hb5⟩; have hst5 := hst4.next hb5; obtain ⟨q0, q1, q2, q3, q4, q5, q6, hz5⟩ := (Row7.mk p0 p1 p2 p3 p4 p5 p6 hz4).below hb5; obtain ⟨r0, r1, r2, r3, r4, r5, r6, hx5⟩ := hst5.box.row; have hf5 := hst5.box.free))
      have hst6 := hst5.put ht (nextAtt T) 0 0 0 false 1 0
      rw [HT.out] at hst6
      go_roundw
      case rel => exact ⟨j + 1, by omega, by go_num, 0, 0, 0, false, 1, 0, by rw [← HT.out] at hst6 ⊢; exact hst6⟩
      case measure => simp [intOf]; omega
    · obtain ⟨f0, f1, f2, f3, f4, f5, f6, hx⟩ := hst.box.row
      obtain ⟨g0, g1, g2, g3, g4, g5, g6, hy⟩ := hst.orig
      have hjk : (j : Int) = k % 5000 := by omega
      rw [hjk] at f0
      clear hlt hj
      go_wp2
      go_returns
      exact ⟨rfl, hst.old.below⟩

/-- WHAT THE LAW ANSWERS, at any descriptor and any number. -/
theorem att_any (w : World) (t a v n : Int) (m : Bool) (s x : Int) (k : Int) (k0 : 0 ≤ k) (k1 : k < 65536) (ht : Table w) :
    Calls Tryd.prog 7 #[.agg #[.int .i64 t, .int .i64 a, .int .i64 v, .int .i64 n, .bool m, .int .i64 s, .int .i64 x], .int .u16 k] w fun e w' => e = .returned (.bool true) ∧ Below w.heap.size w w' := by
  by_cases h : 0 ≤ t ∧ t < 4096 ∧ 0 ≤ a ∧ a < 512 ∧ 0 ≤ v ∧ v < 262144 ∧ 0 ≤ n ∧ n < 512 ∧ 0 ≤ s ∧ s < 8 ∧ 0 ≤ x ∧ x < 1024
  · obtain ⟨t0, t1, a0, a1, v0, v1, n0, n1, s0, s1, x0, x1⟩ := h
    exact att_fit w t a v n m s x k t0 t1 a0 a1 v0 v1 n0 n1 s0 s1 x0 x1 k0 k1 ht
  · exact att_unfit w t a v n m s x k h ht
end Go.Proofs.YtckplpojlhdmhaaDoor.desc
