/- All events of a history: the walk. -/
import Derived.Test.YtfacojlheeoppaaHEvents
namespace Go.Proofs.Ytfacojlheeoppaa.hist
open Go.RowKit

set_option maxRecDepth 100000 in
set_option maxHeartbeats 4000000 in
theorem events_any (w : World) (X : Nat) (f : Nat → Prop) (l : List EvV) (h : Hst w X f l) (hB : BareE l) (hl : l.length ≤ 1000) :
    Calls Try.prog 20 #[.pointer (some ⟨X, 0, none⟩)] w fun e w' => ∃ v', e = .returned v' ∧ Grow cells7 7 42 w w' v' l := by
  obtain ⟨v, o, h, -⟩ := h
  obtain ⟨A, c, rfl, -⟩ := h.row.slice
  have hV := h.valid
  have HA := Lib.hid (h.row.at len9)
  have HS := Lib.hid (sound_of l hV hB)
  have HV := Lib.hid hV
  have hm := calls_le hV
  have c0 := h.c0
  have c1 := h.c1
  have hX := h.lt
  clear h hB hV
  generalize hN : l.length = n at *
  generalize hM : (callsE l).length = m at *
  have HN := Lib.hid hN
  have HM := Lib.hid hM
  clear hN hM
  obtain ⟨w1, hmk, he1⟩ := make_ev w n hl
  have E0 := Lib.hid he1
  have d0 : w1.cell? ⟨X, 0, none⟩ = _ := (he1.below.cell hX).trans c0
  clear he1 c0
  have hn0 : (n : Int) ≤ 1000 := by omega
  have hm0 : (m : Int) ≤ 1000 := by omega
  go_enter Try.func20, Try.ntmps20
  go_wp2
  clear hmk d0 c1
  generalize w.heap.size = g at *
  go_loopw [16] (fun i wr => ∃ (k : Nat) (M : List EvV), k ≤ m ∧ i = .int .i64 (k : Int) ∧ Evs w wr g n M ∧ Placed l M k) (fun i _ => m - (intOf i).toNat)
  case atStart => exact ⟨0, _, Nat.zero_le _, rfl, E0.out, fun i _ hi => absurd hi (by omega)⟩
  case round =>
    clear E0
    obtain ⟨k, M, hk, rfl, hE, hP⟩ := hrel
    have HE := Lib.hid hE
    have HP := Lib.hid hP
    clear hE hP
    by_cases hlt : k < m
    · have hkl : k < (callsE l).length := by rw [HM.out]; exact hlt
      obtain ⟨b, rfl, q0, q1, q2, q3, q4, q5, q6, q7, q8⟩ := (HA.out.later HE.out.below).ca k hkl
      have hML : M.length = l.length := by rw [HE.out.len, HN.out]
      have hgl := HE.out.lt
      have gfr := HE.out.free
      have hgn : g ≠ wr.heap.size := by omega
      have hng : wr.heap.size ≠ g := by omega
      have hki : (k : Int) < (m : Int) := by omega
      obtain ⟨⟨p, hp, hlp⟩, hd⟩ := HS.out _ (List.getElem_mem hkl)
      have hpn : p < n := by rw [← HN.out]; exact (List.getElem?_eq_some_iff.1 hlp).1
      have hpi : (p : Int) < (n : Int) := by omega
      have hp0 : (0 : Int) ≤ (p : Int) := by omega
      obtain ⟨u0, u1, u2, u3, u4, u5, u6, t0, t1, t2, t3, t4, t5, t6⟩ := HE.out.there hpn
      rcases hd with hd | ⟨q, hq, hlq⟩
      · have HK := Lib.hid (placed_one HP.out hML hkl hp hlp hd)
        clear hlp
        generalize (callsE l)[k] = cc at *
        obtain ⟨T, B, D, K, Y, C, O, V⟩ := cc
        simp only at q0 q1 q3 q4 q5 q6 q7 q8 hp hd HK
        subst hp
        subst hd
        go_wp2_with (go_at_call 23; go_loud (refine (spanPend_any _ _ _).mono ?_; rintro e w2 ⟨rfl, hb⟩; have E6 : Hid (Evs w w2 g n (M.set p ⟨T, false, K, Y, 0, false, 0⟩)) := Lib.hid (((HE.out.put hpn ⟨T, false, K, Y, 0, false, 0⟩).next ((Below.refl _ _).alloc (Nat.le_refl _) _)).next hb); clear hb))
        go_roundw
        case rel => exact ⟨k + 1, _, by omega, by go_num, E6.out, HK.out⟩
        case measure => simp [intOf]; omega
      · have HK := Lib.hid (placed_two HP.out hML hkl hp hlp hq hlq)
        have hqn : q < n := by rw [← HN.out]; exact (List.getElem?_eq_some_iff.1 hlq).1
        have hqi : (q : Int) < (n : Int) := by omega
        have hq0 : (0 : Int) ≤ (q : Int) := by omega
        have hqd : decide ((q : Int) < 0) = false := decide_eq_false (by omega)
        clear hlp hlq
        generalize (callsE l)[k] = cc at *
        obtain ⟨T, B, D, K, Y, C, O, V⟩ := cc
        simp only at q0 q1 q3 q4 q5 q6 q7 q8 hp hq HK
        subst hp
        subst hq
        go_wp2_with (go_at_call 23; go_loud (refine (spanPend_any _ _ _).mono ?_; rintro e w2 ⟨rfl, hb⟩; have E6 : Hid (Evs w w2 g n (M.set p ⟨T, false, K, Y, 0, false, 0⟩)) := Lib.hid (((HE.out.put hpn ⟨T, false, K, Y, 0, false, 0⟩).next ((Below.refl _ _).alloc (Nat.le_refl _) _)).next hb); have hq := put_block wr w2 g p ⟨T, false, K, Y, 0, false, 0⟩ _ _ hb; have r1 : w2.cell? ⟨wr.heap.size, 1, none⟩ = some (.int .i64 (q : Int)) := (by rw [Joins.cell_of_block hq]; rfl); have r3 : w2.cell? ⟨wr.heap.size, 3, none⟩ = some (.int .i64 T) := (by rw [Joins.cell_of_block hq]; rfl); have r6 : w2.cell? ⟨wr.heap.size, 6, none⟩ = some (.int .i64 C) := (by rw [Joins.cell_of_block hq]; rfl); have r7 : w2.cell? ⟨wr.heap.size, 7, none⟩ = some (.bool O) := (by rw [Joins.cell_of_block hq]; rfl); have r8 : w2.cell? ⟨wr.heap.size, 8, none⟩ = some (.int .i64 V) := (by rw [Joins.cell_of_block hq]; rfl); clear hq; obtain ⟨s0, s1, s2, s3, s4, s5, s6, x0, x1, x2, x3, x4, x5, x6⟩ := E6.out.there hqn; have gfr2 := E6.out.free; have hgl2 := E6.out.lt; rw [hqd]; clear hb))
        have E7 := Lib.hid (E6.out.put hqn ⟨T, true, 0, 0, C, O, V⟩)
        go_roundw
        case rel => exact ⟨k + 1, _, by omega, by go_num, E7.out, HK.out⟩
        case measure => simp [intOf]; omega
    · obtain rfl : k = m := by omega
      go_wp2
      go_returns
      have h1 := HE.out
      have h2 := HP.out
      rw [← HM.out] at h2
      have h3 := placed_all HV.out (by rw [h1.len, HN.out]) h2
      subst h3
      exact ⟨_, rfl, h1.own, fun g' hg' => (by simp [Value.ownBlock] at hg'; have := h1.new; omega), h1.below⟩
end Go.Proofs.Ytfacojlheeoppaa.hist
