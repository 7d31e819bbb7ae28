/- The law LifeTakes answers true at any lives, node and number. -/
import Derived.Test.YtglkpajnhdamkaaLAwake
namespace Go.Proofs.Ytglkpajnhdamkaa.life
open Go.RowKit mem

/-- A memory, its copy, the layout in a block. -/
structure Pair (W w : World) (b X Y X2 Y2 : Nat) (t n : Int) (zs ys : List Int) : Prop where
  room : Room W w b X Y t n zs
  two : MemS w X2 Y2 t n ys
  x0 : W.heap.size ≤ X2
  y0 : W.heap.size ≤ Y2
  bx : b ≠ X2
  by' : b ≠ Y2
  xx : X ≠ X2
  xy : X ≠ Y2
  yx : Y ≠ X2
  yy : Y ≠ Y2
/-- .. and a machine. -/
structure Trio (W w : World) (b X Y X2 Y2 : Nat) (t n : Int) (zs ys : List Int) (C : Nat) (a : Al) : Prop where
  pair : Pair W w b X Y X2 Y2 t n zs ys
  box : Box w C (alCells t n a) 39
  c0 : W.heap.size ≤ C
  bc : b ≠ C
  cx : C ≠ X
  cy : C ≠ Y
  cx2 : C ≠ X2
  cy2 : C ≠ Y2
section
variable {W w w' : World} {b X Y X2 Y2 C : Nat} {t n : Int} {zs ys zs' ys' : List Int} {a a' : Al}
theorem Pair.next (h : Pair W w b X Y X2 Y2 t n zs ys) (hb : Below w.heap.size w w') : Pair W w' b X Y X2 Y2 t n zs ys := ⟨h.room.next hb, h.two.below hb, h.x0, h.y0, h.bx, h.by', h.xx, h.xy, h.yx, h.yy⟩
theorem Pair.made (h : Room W w b X Y t n zs) (hn : NewS w t n ys X2 Y2 w') : Pair W w' b X Y X2 Y2 t n zs ys := by
  have h1 := h.lt
  have h2 := hn.x
  have h3 := hn.y
  exact ⟨h.next hn.below, hn.mem, by omega, by omega, by omega, by omega, by omega, by omega, by omega, by omega⟩
theorem Pair.lt (h : Pair W w b X Y X2 Y2 t n zs ys) : X2 < w.heap.size ∧ Y2 < w.heap.size := ⟨h.two.ltX, h.two.ltY⟩
theorem Trio.next (h : Trio W w b X Y X2 Y2 t n zs ys C a) (hb : Below w.heap.size w w') : Trio W w' b X Y X2 Y2 t n zs ys C a := ⟨h.pair.next hb, h.box.below hb, h.c0, h.bc, h.cx, h.cy, h.cx2, h.cy2⟩
theorem Trio.alloc (h : Trio W w b X Y X2 Y2 t n zs ys C a) (o : Obj) : Trio W (w.alloc o) b X Y X2 Y2 t n zs ys C a := h.next ((Below.refl _ _).alloc (Nat.le_refl _) o)
theorem Trio.made (h : Pair W w b X Y X2 Y2 t n zs ys) (hn : NewAl w C t n a w') : Trio W w' b X Y X2 Y2 t n zs ys C a := by
  have h1 := h.room.lt
  have h2 := h.lt
  have h3 := hn.c
  exact ⟨h.next hn.below, hn.box, by omega, by omega, by omega, by omega, by omega, by omega⟩
theorem Trio.did (h : Trio W w b X Y X2 Y2 t n zs ys C a) (hd : Did w X Y C t n zs' a' w') : Trio W w' b X Y X2 Y2 t n zs' ys C a' := by
  have h2 := h.pair.lt
  refine ⟨⟨h.pair.room.did hd h.c0 h.bc, h.pair.two.moved (hd.apart.block X2 h2.1 (Ne.symm h.pair.xx) (Ne.symm h.pair.yx) (Ne.symm h.cx2)) (hd.apart.block Y2 h2.2 (Ne.symm h.pair.xy) (Ne.symm h.pair.yy) (Ne.symm h.cy2)), h.pair.x0, h.pair.y0, h.pair.bx, h.pair.by', h.pair.xx, h.pair.xy, h.pair.yx, h.pair.yy⟩, hd.box, h.c0, h.bc, h.cx, h.cy, h.cx2, h.cy2⟩
theorem Trio.act2 (h : Trio W w b X Y X2 Y2 t n zs ys C a) (hm : MemS w' X2 Y2 t n ys') (ha : Apart X2 Y2 w w') : Trio W w' b X Y X2 Y2 t n zs ys' C a := by
  have h1 := h.pair.room.lt
  have h2 := h.pair.lt
  have p := h.pair
  refine ⟨⟨⟨p.room.lay.apart ha p.bx p.by', p.room.mem.moved (ha.block X h1.2.1 p.xx p.xy) (ha.block Y h1.2.2.1 p.yx p.yy), ha.below p.room.below p.room.below.size p.x0 p.y0, p.room.b0, p.room.x0, p.room.y0, p.room.bx, p.room.by'⟩, hm, p.x0, p.y0, p.bx, p.by', p.xx, p.xy, p.yx, p.yy⟩, h.box.apart ha h.cx2 h.cy2, h.c0, h.bc, h.cx, h.cy, h.cx2, h.cy2⟩
end
/-- The document's way round, as the law reckons it. -/
theorem mod_node {n a k : Int} (a0 : 1 ≤ a) (a1 : a ≤ n) (k0 : 0 ≤ k) (k1 : k < n) : (a - 1 + k) % n + 1 = nodeAt n a k := by
  unfold nodeAt
  split
  · rw [Int.emod_eq_of_lt (by omega) (by omega)]; omega
  · have : (a - 1 + k) % n = (a - 1 + k - n) % n := by rw [Int.sub_emod_right]
    rw [this, Int.emod_eq_of_lt (by omega) (by omega)]; omega
theorem mod_node_tmod {n a k : Int} (a0 : 1 ≤ a) (a1 : a ≤ n) (k0 : 0 ≤ k) (k1 : k < n) : (a - 1 + k).tmod n + 1 = nodeAt n a k := by
  rw [Int.tmod_eq_emod_of_nonneg (by omega)]
  exact mod_node a0 a1 k0 k1

set_option maxHeartbeats 1000000 in
theorem takes_long (w : World) (from' many : Int) (a : Option Addr) (N cap : Nat) (hl : 40 < (N : Int)) :
    Calls Try.prog 3 #[.slice a N cap, .int .i64 from', .int .u8 many] w fun e w' => e = .returned (.bool true) ∧ Below w.heap.size w w' := by
  go_enter Try.func3, Try.ntmps3
  go_wp2_with (go_at_call 7; refine (awake_any _).mono ?_; rintro e w1 ⟨rfl, hb⟩; have HB := Lib.hid hb; clear hb)
  go_returns
  exact ⟨rfl, HB.out⟩

/-- How far the law's own search has come. -/
def Sought (n a : Int) (zs : List Int) (k : Nat) (steps got : Int) : Prop :=
  (got = 0 ∧ steps = k ∧ ∀ j : Nat, j < k → takenB n zs (nodeAt n a j) = true) ∨
  (∃ q : Nat, k = q + 1 ∧ got = nodeAt n a q ∧ steps = (q : Int) + 2 ∧ (∀ j : Nat, j < q → takenB n zs (nodeAt n a j) = true) ∧ takenB n zs (nodeAt n a q) = false)

set_option maxRecDepth 100000 in
set_option maxHeartbeats 4000000 in
theorem takes_in (w : World) (from' many : Int) (a : Option Addr) (ws : List Int) (N cap : Nat) (hN : ws.length = N) (hl : (N : Int) ≤ 40) (hw : Words w a ws) (hr : ∀ x ∈ ws, 0 ≤ x ∧ x < 18446744073709551616) (m0 : 0 ≤ many) (m1 : many < 256) (f0 : 1 ≤ from') (f1 : from' ≤ 1 + many % 40) :
    Calls Try.prog 3 #[.slice a N cap, .int .i64 from', .int .u8 many] w fun e w' => e = .returned (.bool true) ∧ Below w.heap.size w w' := by
  have n0 : 1 ≤ 1 + many % 40 := by omega
  have n1 : 1 + many % 40 ≤ 40 := by omega
  have HW := Lib.hid hw
  have HN := Lib.hid hN
  have HRG := Lib.hid hr
  clear hw hN hr
  go_enter Try.func3, Try.ntmps3
  go_wp2_with (go_at_call 7; refine (awake_any _).mono ?_; rintro e w1 ⟨rfl, hb⟩; have HB := Lib.hid hb; clear hb)
  generalize 1 + many % 40 = n at *
  have HA : Hid (startAt n from' = from') := by unfold Hid startAt; rw [if_pos ⟨f0, f1⟩]
  have d1 : decide (from' < 1) = false := by simp; omega
  have d2 : decide (n < from') = false := by simp; omega
  refine (memory_any _ 1 n a ws N cap HN.out (by omega) (by omega) (by omega) n0 (by omega) (HW.out.later HB.out) HRG.out).mono ?_
  rintro e w2 ⟨X, Y, zs, rfl, hnn, hs, hlv⟩
  have R0 : Hid (Room w (w2.alloc (.cells (layCells 1 n) 26)) w2.heap.size X Y 1 n zs) := Lib.hid (Room.made HB.out hnn)
  have HS := Lib.hid hs
  clear hnn hs hlv
  go_wp2_with (first
    | (go_at_call 9; refine (Copy_s R0.out.mem zs.length rfl (by have := HS.out.len; omega) (by have := HS.out.len; omega)).mono ?_; rintro e w3 ⟨X2, Y2, rfl, hn2⟩; have P0 := Lib.hid (Pair.made R0.out hn2); clear hn2 R0))
  have a0 : 1 ≤ from' := by omega
  have a1 : from' ≤ n := by omega
  go_loopw [12, 13, 14] (fun s g i wr => ∃ (k : Nat) (steps got : Int), (k : Int) ≤ n ∧ i = .int .i64 k ∧ s = .int .i64 steps ∧ g = .int .i64 got ∧ Sought n from' zs k steps got ∧ Pair w wr w2.heap.size X Y X2 Y2 1 n zs zs) (fun _ _ i _ => n.toNat - (intOf i).toNat)
  case atStart => exact ⟨0, 0, 0, by omega, rfl, rfl, rfl, Or.inl ⟨rfl, rfl, fun j hj => absurd hj (by omega)⟩, P0.out⟩
  case round =>
    clear P0
    obtain ⟨k, steps, got, hk, rfl, rfl, rfl, hsg, hp⟩ := hrel
    have HP := Lib.hid hp
    clear hp
    have q0 : wr.cell? ⟨w2.heap.size, 0, none⟩ = some (.int .i64 1) := HP.out.room.lay.at 0 rfl
    have q1 : wr.cell? ⟨w2.heap.size, 1, none⟩ = some (.int .i64 n) := HP.out.room.lay.at 1 rfl
    rcases hsg with ⟨rfl, rfl, hodd⟩ | ⟨q, rfl, rfl, rfl, hodd, hfree⟩
    · by_cases hlt : (k : Int) < n
      · have HO := Lib.hid hodd
        clear hodd
        obtain ⟨I, hI⟩ : ∃ I, I = nodeAt n from' k := ⟨_, rfl⟩
        have hin := nodeAt_in (k := k) a0 a1 (by omega) hlt
        rw [← hI] at hin
        obtain ⟨i0, i1⟩ := hin
        have hmod : wrap64 ((from' - 1 + (k : Int)) % n + 1) = I := by
          have h := mod_node (k := k) a0 a1 (by omega) hlt
          rw [← hI] at h
          have e : (from' - 1 + (k : Int)) = from' - 1 + (k : Int) := by omega
          rw [e, h, IntWalk.wrap64_in _ (by omega)]
        have HI := Lib.hid hI
        clear hI
        obtain ⟨z, hz⟩ : ∃ z, z = lifeIn n zs I := ⟨_, rfl⟩
        have z0 : 0 ≤ z := by rw [hz]; exact (HS.out.word _).1
        have HZ := Lib.hid hz
        clear hz
        by_cases ht : z % 2 = 0
        · have HT : Hid (takenB n zs I = false) := by unfold Hid takenB; rw [← HZ.out]; simp; omega
          have hd : (z % 2 == 0) = true := by simpa using ht
          clear ht
          go_wp2_with (first
            | (go_at_call 11; refine (Life_any _ 1 n I (by omega) (by omega) (by omega) (by omega)).mono ?_; rintro e w5 ⟨rfl, hb⟩; have P1 := Lib.hid (HP.out.next hb); clear hb)
            | (go_at_call 10; refine (Peek_s P1.out.two (n + 4 + I) z HZ.out.symm).mono ?_; rintro e w6 ⟨rfl, rfl⟩))
          go_roundw
          case rel => exact ⟨k + 1, (k : Int) + 2, I, by omega, by go_num, by go_num, rfl, Or.inr ⟨k, rfl, HI.out, rfl, HO.out, by rw [← HI.out]; exact HT.out⟩, P1.out⟩
          case measure => simp [intOf]; omega
        · have HT : Hid (takenB n zs I = true) := by unfold Hid takenB; rw [← HZ.out]; simp; omega
          have hd : (z % 2 == 0) = false := by simpa using ht
          clear ht
          go_wp2_with (first
            | (go_at_call 11; refine (Life_any _ 1 n I (by omega) (by omega) (by omega) (by omega)).mono ?_; rintro e w5 ⟨rfl, hb⟩; have P1 := Lib.hid (HP.out.next hb); clear hb)
            | (go_at_call 10; refine (Peek_s P1.out.two (n + 4 + I) z HZ.out.symm).mono ?_; rintro e w6 ⟨rfl, rfl⟩))
          go_roundw
          case rel => exact ⟨k + 1, (k : Int) + 1, 0, by omega, by go_num, by go_num, rfl, Or.inl ⟨rfl, by omega, fun j hj => by
            by_cases he : j = k
            · subst he; rw [← HI.out]; exact HT.out
            · exact HO.out j (by omega)⟩, P1.out⟩
          case measure => simp [intOf]; omega
      · have hkn : (k : Int) = n := by omega
        have HO : Hid (∀ j : Nat, (j : Int) < n → takenB n zs (nodeAt n from' j) = true) := Lib.hid (fun j hj => hodd j (by omega))
        have hst : (k : Int) = n := hkn
        clear hodd hlt
        have hlt : decide ((k : Int) < n) = false := by simp; omega
        have HK := Lib.hid hkn
        clear hkn hst
        have q2 : Hid (takenB n zs 0 = takenB n zs 0) := rfl
        go_wp2_with (first
          | (go_at_call 12; refine (new_any _ 1 n from' (by omega) (by omega) n0 (by omega)).mono ?_; rintro e w5 ⟨C, rfl, ha⟩; rw [HA.out] at ha; have T0 := Lib.hid (Trio.made HP.out ha); clear ha HP)
          | (go_at_call 13; refine (run_none (lf := 0) HS.out a0 a1 T0.out.cx T0.out.cy HO.out (T0.out.alloc _).pair.room.mem (T0.out.alloc _).box (by simp) (by omega) (by omega)).mono ?_; rintro e w6 ⟨rfl, nd, lf, hd⟩; rw [← HK.out]; have T1 := Lib.hid ((T0.out.alloc _).did hd); clear hd; obtain ⟨e0, e1, e2, e3, e4, e5, e6, f2⟩ := row7 T1.out.box; have q3 : w6.cell? ⟨w2.heap.size, 0, none⟩ = some (.int .i64 1) := T1.out.pair.room.lay.at 0 rfl; have q4 : w6.cell? ⟨w2.heap.size, 1, none⟩ = some (.int .i64 n) := T1.out.pair.room.lay.at 1 rfl)
          | (go_at_call 15; refine (Same_s T1.out.pair.room.mem T1.out.pair.two zs.length true rfl rfl (by have := HS.out.len; omega) (by simp)).mono ?_; rintro e w7 ⟨rfl, hb⟩; have T2 := Lib.hid (T1.out.next hb); clear hb; have q5 : w7.cell? ⟨w2.heap.size, 0, none⟩ = some (.int .i64 1) := T2.out.pair.room.lay.at 0 rfl; have q6 : w7.cell? ⟨w2.heap.size, 1, none⟩ = some (.int .i64 n) := T2.out.pair.room.lay.at 1 rfl)
          | (go_at_call 17; refine (free_any _ X Y 1 n zs HS.out T2.out.pair.room.mem).mono ?_; rintro e w8 ⟨fa, fc, rfl, hla, hb⟩; have T3 := Lib.hid (T2.out.next hb); have HLA := Lib.hid hla; clear hb hla)
          | (go_at_call 16; refine (contains_any _ _ fa (freeL n zs) _ fc 0 rfl (by have := freeTo_length n zs n.toNat; unfold freeL; omega) HLA.out).mono ?_; rintro e w9 ⟨rfl, rfl⟩; rw [decide_eq_false (show ¬ (0 : Int) ∈ freeL n zs by unfold freeL; rw [mem_freeTo]; omega)]))
        go_returns
        exact ⟨rfl, T3.out.pair.room.below⟩
    · have hin := nodeAt_in (k := q) a0 a1 (by omega) (by omega)
      obtain ⟨I, hI⟩ : ∃ I, I = nodeAt n from' q := ⟨_, rfl⟩
      rw [← hI] at hin hfree ⊢
      obtain ⟨i0, i1⟩ := hin
      obtain ⟨z, hz⟩ : ∃ z, z = lifeIn n zs I := ⟨_, rfl⟩
      have hup := up_range HS.out hfree
      have hwr := up_of_free HS.out hfree
      rw [← hz] at hup hwr
      obtain ⟨z0, z1⟩ := hup
      have HWR := Lib.hid hwr
      have HZ := Lib.hid hz
      have HI := Lib.hid hI
      have HO := Lib.hid hodd
      have HF := Lib.hid hfree
      have H2 : Hid (Sound 1 n (putLife n zs I (z + 1))) := Lib.hid (HS.out.put _ _ z0 z1)
      have HL2 : Hid ((putLife n zs I (z + 1)).length = zs.length) := setAt_length _ _ _
      have HT : Hid (takenB n (putLife n zs I (z + 1)) I = true) := by
        have : z % 2 ≠ 1 := by unfold takenB at hfree; rw [← hz] at hfree; simpa using hfree
        unfold Hid takenB
        rw [lifeIn_put_same HS.out i0 i1]
        simp
        omega
      have hg : (I == 0) = false := by simp; omega
      have hgt : decide (0 < I) = true := by simp; omega
      clear hz hI hodd hfree hwr
      by_cases hlt : ((q + 1 : Nat) : Int) < n
      all_goals
        go_wp2_with (first
          | (go_at_call 12; refine (new_any _ 1 n from' (by omega) (by omega) n0 (by omega)).mono ?_; rintro e w5 ⟨C, rfl, ha⟩; rw [HA.out] at ha; have T0 := Lib.hid (Trio.made HP.out ha); clear ha HP)
          | (go_at_call 13; refine (run_hit' (lf := 0) HS.out a0 a1 T0.out.cx T0.out.cy q (by omega) HO.out I ((q : Int) + 2) (z + 1) HI.out rfl (by rw [← HZ.out]) HF.out (T0.out.alloc _).pair.room.mem (T0.out.alloc _).box (by simp) (by omega) (by omega)).mono ?_; rintro e w6 ⟨rfl, lf, hd⟩; have T1 := Lib.hid ((T0.out.alloc _).did hd); clear hd; have q3 : w6.cell? ⟨w2.heap.size, 0, none⟩ = some (.int .i64 1) := T1.out.pair.room.lay.at 0 rfl; have q4 : w6.cell? ⟨w2.heap.size, 1, none⟩ = some (.int .i64 n) := T1.out.pair.room.lay.at 1 rfl)
          | (go_at_call 11; refine (Life_any _ 1 n I (by omega) (by omega) (by omega) (by omega)).mono ?_; rintro e w7 ⟨rfl, hb⟩; have T2 := Lib.hid (T1.out.next hb); clear hb)
          | (go_at_call 14; refine (Add_s T2.out.pair.two (n + 4 + I) 1 z HZ.out.symm).mono ?_; rintro e w8 ⟨rfl, hm, ha⟩; rw [HWR.out] at hm; have T3 : Hid (Trio w w8 w2.heap.size X Y X2 Y2 1 n (putLife n zs I (z + 1)) (putLife n zs I (z + 1)) C ⟨I, I, 0, true, lf⟩) := Lib.hid (T2.out.act2 hm ha); clear hm ha; obtain ⟨e0, e1, e2, e3, e4, e5, e6, f2⟩ := row7 T3.out.box)
          | (go_at_call 15; refine (Same_s T3.out.pair.room.mem T3.out.pair.two zs.length true HL2.out HL2.out (by have := HS.out.len; omega) (by simp)).mono ?_; rintro e w9 ⟨rfl, hb⟩; have T4 := Lib.hid (T3.out.next hb); clear hb; have q5 : w9.cell? ⟨w2.heap.size, 0, none⟩ = some (.int .i64 1) := T4.out.pair.room.lay.at 0 rfl; have q6 : w9.cell? ⟨w2.heap.size, 1, none⟩ = some (.int .i64 n) := T4.out.pair.room.lay.at 1 rfl)
          | (go_at_call 17; refine (free_any _ X Y 1 n _ H2.out T4.out.pair.room.mem).mono ?_; rintro e w10 ⟨fa, fc, rfl, hla, hb⟩; have T5 := Lib.hid (T4.out.next hb); have HLA := Lib.hid hla; clear hb hla)
          | (go_at_call 16; refine (contains_any _ _ fa (freeL n (putLife n zs I (z + 1))) _ fc I rfl (by have := freeTo_length n (putLife n zs I (z + 1)) n.toNat; unfold freeL; omega) HLA.out).mono ?_; rintro e w11 ⟨rfl, rfl⟩; rw [decide_eq_false (show ¬ I ∈ freeL n (putLife n zs I (z + 1)) by unfold freeL; rw [mem_freeTo]; rintro ⟨_, _, h3⟩; rw [HT.out] at h3; cases h3)]))
        go_returns
        exact ⟨rfl, T5.out.pair.room.below⟩

set_option maxRecDepth 100000 in
set_option maxHeartbeats 4000000 in
theorem takes_low (w : World) (from' many : Int) (a : Option Addr) (ws : List Int) (N cap : Nat) (hN : ws.length = N) (hl : (N : Int) ≤ 40) (hw : Words w a ws) (hr : ∀ x ∈ ws, 0 ≤ x ∧ x < 18446744073709551616) (m0 : 0 ≤ many) (m1 : many < 256) (f0 : from' < 1) :
    Calls Try.prog 3 #[.slice a N cap, .int .i64 from', .int .u8 many] w fun e w' => e = .returned (.bool true) ∧ Below w.heap.size w w' := by
  have n0 : 1 ≤ 1 + many % 40 := by omega
  have n1 : 1 + many % 40 ≤ 40 := by omega
  have HW := Lib.hid hw
  have HN := Lib.hid hN
  have HRG := Lib.hid hr
  clear hw hN hr
  go_enter Try.func3, Try.ntmps3
  go_wp2_with (go_at_call 7; refine (awake_any _).mono ?_; rintro e w1 ⟨rfl, hb⟩; have HB := Lib.hid hb; clear hb)
  generalize 1 + many % 40 = n at *
  have HA : Hid (startAt n from' = (1 : Int)) := by unfold Hid startAt; rw [if_neg (by omega)]
  have d1 : decide (from' < 1) = true := by simp; omega
  refine (memory_any _ 1 n a ws N cap HN.out (by omega) (by omega) (by omega) n0 (by omega) (HW.out.later HB.out) HRG.out).mono ?_
  rintro e w2 ⟨X, Y, zs, rfl, hnn, hs, hlv⟩
  have R0 : Hid (Room w (w2.alloc (.cells (layCells 1 n) 26)) w2.heap.size X Y 1 n zs) := Lib.hid (Room.made HB.out hnn)
  have HS := Lib.hid hs
  clear hnn hs hlv
  go_wp2_with (first
    | (go_at_call 9; refine (Copy_s R0.out.mem zs.length rfl (by have := HS.out.len; omega) (by have := HS.out.len; omega)).mono ?_; rintro e w3 ⟨X2, Y2, rfl, hn2⟩; have P0 := Lib.hid (Pair.made R0.out hn2); clear hn2 R0))
  have a0 : 1 ≤ (1 : Int) := by omega
  have a1 : (1 : Int) ≤ n := by omega
  go_loopw [12, 13, 14] (fun s g i wr => ∃ (k : Nat) (steps got : Int), (k : Int) ≤ n ∧ i = .int .i64 k ∧ s = .int .i64 steps ∧ g = .int .i64 got ∧ Sought n (1 : Int) zs k steps got ∧ Pair w wr w2.heap.size X Y X2 Y2 1 n zs zs) (fun _ _ i _ => n.toNat - (intOf i).toNat)
  case atStart => exact ⟨0, 0, 0, by omega, rfl, rfl, rfl, Or.inl ⟨rfl, rfl, fun j hj => absurd hj (by omega)⟩, P0.out⟩
  case round =>
    clear P0
    obtain ⟨k, steps, got, hk, rfl, rfl, rfl, hsg, hp⟩ := hrel
    have HP := Lib.hid hp
    clear hp
    have q0 : wr.cell? ⟨w2.heap.size, 0, none⟩ = some (.int .i64 1) := HP.out.room.lay.at 0 rfl
    have q1 : wr.cell? ⟨w2.heap.size, 1, none⟩ = some (.int .i64 n) := HP.out.room.lay.at 1 rfl
    rcases hsg with ⟨rfl, rfl, hodd⟩ | ⟨q, rfl, rfl, rfl, hodd, hfree⟩
    · by_cases hlt : (k : Int) < n
      · have HO := Lib.hid hodd
        clear hodd
        obtain ⟨I, hI⟩ : ∃ I, I = nodeAt n (1 : Int) k := ⟨_, rfl⟩
        have hin := nodeAt_in (k := k) a0 a1 (by omega) hlt
        rw [← hI] at hin
        obtain ⟨i0, i1⟩ := hin
        have hmod : wrap64 ((k : Int) % n + 1) = I := by
          have h := mod_node (k := k) a0 a1 (by omega) hlt
          rw [← hI] at h
          have e : (k : Int) = (1 : Int) - 1 + (k : Int) := by omega
          rw [e, h, IntWalk.wrap64_in _ (by omega)]
        have HI := Lib.hid hI
        clear hI
        obtain ⟨z, hz⟩ : ∃ z, z = lifeIn n zs I := ⟨_, rfl⟩
        have z0 : 0 ≤ z := by rw [hz]; exact (HS.out.word _).1
        have HZ := Lib.hid hz
        clear hz
        by_cases ht : z % 2 = 0
        · have HT : Hid (takenB n zs I = false) := by unfold Hid takenB; rw [← HZ.out]; simp; omega
          have hd : (z % 2 == 0) = true := by simpa using ht
          clear ht
          go_wp2_with (first
            | (go_at_call 11; refine (Life_any _ 1 n I (by omega) (by omega) (by omega) (by omega)).mono ?_; rintro e w5 ⟨rfl, hb⟩; have P1 := Lib.hid (HP.out.next hb); clear hb)
            | (go_at_call 10; refine (Peek_s P1.out.two (n + 4 + I) z HZ.out.symm).mono ?_; rintro e w6 ⟨rfl, rfl⟩))
          go_roundw
          case rel => exact ⟨k + 1, (k : Int) + 2, I, by omega, by go_num, by go_num, rfl, Or.inr ⟨k, rfl, HI.out, rfl, HO.out, by rw [← HI.out]; exact HT.out⟩, P1.out⟩
          case measure => simp [intOf]; omega
        · have HT : Hid (takenB n zs I = true) := by unfold Hid takenB; rw [← HZ.out]; simp; omega
          have hd : (z % 2 == 0) = false := by simpa using ht
          clear ht
          go_wp2_with (first
            | (go_at_call 11; refine (Life_any _ 1 n I (by omega) (by omega) (by omega) (by omega)).mono ?_; rintro e w5 ⟨rfl, hb⟩; have P1 := Lib.hid (HP.out.next hb); clear hb)
            | (go_at_call 10; refine (Peek_s P1.out.two (n + 4 + I) z HZ.out.symm).mono ?_; rintro e w6 ⟨rfl, rfl⟩))
          go_roundw
          case rel => exact ⟨k + 1, (k : Int) + 1, 0, by omega, by go_num, by go_num, rfl, Or.inl ⟨rfl, by omega, fun j hj => by
            by_cases he : j = k
            · subst he; rw [← HI.out]; exact HT.out
            · exact HO.out j (by omega)⟩, P1.out⟩
          case measure => simp [intOf]; omega
      · have hkn : (k : Int) = n := by omega
        have HO : Hid (∀ j : Nat, (j : Int) < n → takenB n zs (nodeAt n (1 : Int) j) = true) := Lib.hid (fun j hj => hodd j (by omega))
        have hst : (k : Int) = n := hkn
        clear hodd hlt
        have hlt : decide ((k : Int) < n) = false := by simp; omega
        have HK := Lib.hid hkn
        clear hkn hst
        have q2 : Hid (takenB n zs 0 = takenB n zs 0) := rfl
        go_wp2_with (first
          | (go_at_call 12; refine (new_any _ 1 n from' (by omega) (by omega) n0 (by omega)).mono ?_; rintro e w5 ⟨C, rfl, ha⟩; rw [HA.out] at ha; have T0 := Lib.hid (Trio.made HP.out ha); clear ha HP)
          | (go_at_call 13; refine (run_none (lf := 0) HS.out a0 a1 T0.out.cx T0.out.cy HO.out (T0.out.alloc _).pair.room.mem (T0.out.alloc _).box (by simp) (by omega) (by omega)).mono ?_; rintro e w6 ⟨rfl, nd, lf, hd⟩; rw [← HK.out]; have T1 := Lib.hid ((T0.out.alloc _).did hd); clear hd; obtain ⟨e0, e1, e2, e3, e4, e5, e6, f2⟩ := row7 T1.out.box; have q3 : w6.cell? ⟨w2.heap.size, 0, none⟩ = some (.int .i64 1) := T1.out.pair.room.lay.at 0 rfl; have q4 : w6.cell? ⟨w2.heap.size, 1, none⟩ = some (.int .i64 n) := T1.out.pair.room.lay.at 1 rfl)
          | (go_at_call 15; refine (Same_s T1.out.pair.room.mem T1.out.pair.two zs.length true rfl rfl (by have := HS.out.len; omega) (by simp)).mono ?_; rintro e w7 ⟨rfl, hb⟩; have T2 := Lib.hid (T1.out.next hb); clear hb; have q5 : w7.cell? ⟨w2.heap.size, 0, none⟩ = some (.int .i64 1) := T2.out.pair.room.lay.at 0 rfl; have q6 : w7.cell? ⟨w2.heap.size, 1, none⟩ = some (.int .i64 n) := T2.out.pair.room.lay.at 1 rfl)
          | (go_at_call 17; refine (free_any _ X Y 1 n zs HS.out T2.out.pair.room.mem).mono ?_; rintro e w8 ⟨fa, fc, rfl, hla, hb⟩; have T3 := Lib.hid (T2.out.next hb); have HLA := Lib.hid hla; clear hb hla)
          | (go_at_call 16; refine (contains_any _ _ fa (freeL n zs) _ fc 0 rfl (by have := freeTo_length n zs n.toNat; unfold freeL; omega) HLA.out).mono ?_; rintro e w9 ⟨rfl, rfl⟩; rw [decide_eq_false (show ¬ (0 : Int) ∈ freeL n zs by unfold freeL; rw [mem_freeTo]; omega)]))
        go_returns
        exact ⟨rfl, T3.out.pair.room.below⟩
    · have hin := nodeAt_in (k := q) a0 a1 (by omega) (by omega)
      obtain ⟨I, hI⟩ : ∃ I, I = nodeAt n (1 : Int) q := ⟨_, rfl⟩
      rw [← hI] at hin hfree ⊢
      obtain ⟨i0, i1⟩ := hin
      obtain ⟨z, hz⟩ : ∃ z, z = lifeIn n zs I := ⟨_, rfl⟩
      have hup := up_range HS.out hfree
      have hwr := up_of_free HS.out hfree
      rw [← hz] at hup hwr
      obtain ⟨z0, z1⟩ := hup
      have HWR := Lib.hid hwr
      have HZ := Lib.hid hz
      have HI := Lib.hid hI
      have HO := Lib.hid hodd
      have HF := Lib.hid hfree
      have H2 : Hid (Sound 1 n (putLife n zs I (z + 1))) := Lib.hid (HS.out.put _ _ z0 z1)
      have HL2 : Hid ((putLife n zs I (z + 1)).length = zs.length) := setAt_length _ _ _
      have HT : Hid (takenB n (putLife n zs I (z + 1)) I = true) := by
        have : z % 2 ≠ 1 := by unfold takenB at hfree; rw [← hz] at hfree; simpa using hfree
        unfold Hid takenB
        rw [lifeIn_put_same HS.out i0 i1]
        simp
        omega
      have hg : (I == 0) = false := by simp; omega
      have hgt : decide (0 < I) = true := by simp; omega
      clear hz hI hodd hfree hwr
      by_cases hlt : ((q + 1 : Nat) : Int) < n
      all_goals
        go_wp2_with (first
          | (go_at_call 12; refine (new_any _ 1 n from' (by omega) (by omega) n0 (by omega)).mono ?_; rintro e w5 ⟨C, rfl, ha⟩; rw [HA.out] at ha; have T0 := Lib.hid (Trio.made HP.out ha); clear ha HP)
          | (go_at_call 13; refine (run_hit' (lf := 0) HS.out a0 a1 T0.out.cx T0.out.cy q (by omega) HO.out I ((q : Int) + 2) (z + 1) HI.out rfl (by rw [← HZ.out]) HF.out (T0.out.alloc _).pair.room.mem (T0.out.alloc _).box (by simp) (by omega) (by omega)).mono ?_; rintro e w6 ⟨rfl, lf, hd⟩; have T1 := Lib.hid ((T0.out.alloc _).did hd); clear hd; have q3 : w6.cell? ⟨w2.heap.size, 0, none⟩ = some (.int .i64 1) := T1.out.pair.room.lay.at 0 rfl; have q4 : w6.cell? ⟨w2.heap.size, 1, none⟩ = some (.int .i64 n) := T1.out.pair.room.lay.at 1 rfl)
          | (go_at_call 11; refine (Life_any _ 1 n I (by omega) (by omega) (by omega) (by omega)).mono ?_; rintro e w7 ⟨rfl, hb⟩; have T2 := Lib.hid (T1.out.next hb); clear hb)
          | (go_at_call 14; refine (Add_s T2.out.pair.two (n + 4 + I) 1 z HZ.out.symm).mono ?_; rintro e w8 ⟨rfl, hm, ha⟩; rw [HWR.out] at hm; have T3 : Hid (Trio w w8 w2.heap.size X Y X2 Y2 1 n (putLife n zs I (z + 1)) (putLife n zs I (z + 1)) C ⟨I, I, 0, true, lf⟩) := Lib.hid (T2.out.act2 hm ha); clear hm ha; obtain ⟨e0, e1, e2, e3, e4, e5, e6, f2⟩ := row7 T3.out.box)
          | (go_at_call 15; refine (Same_s T3.out.pair.room.mem T3.out.pair.two zs.length true HL2.out HL2.out (by have := HS.out.len; omega) (by simp)).mono ?_; rintro e w9 ⟨rfl, hb⟩; have T4 := Lib.hid (T3.out.next hb); clear hb; have q5 : w9.cell? ⟨w2.heap.size, 0, none⟩ = some (.int .i64 1) := T4.out.pair.room.lay.at 0 rfl; have q6 : w9.cell? ⟨w2.heap.size, 1, none⟩ = some (.int .i64 n) := T4.out.pair.room.lay.at 1 rfl)
          | (go_at_call 17; refine (free_any _ X Y 1 n _ H2.out T4.out.pair.room.mem).mono ?_; rintro e w10 ⟨fa, fc, rfl, hla, hb⟩; have T5 := Lib.hid (T4.out.next hb); have HLA := Lib.hid hla; clear hb hla)
          | (go_at_call 16; refine (contains_any _ _ fa (freeL n (putLife n zs I (z + 1))) _ fc I rfl (by have := freeTo_length n (putLife n zs I (z + 1)) n.toNat; unfold freeL; omega) HLA.out).mono ?_; rintro e w11 ⟨rfl, rfl⟩; rw [decide_eq_false (show ¬ I ∈ freeL n (putLife n zs I (z + 1)) by unfold freeL; rw [mem_freeTo]; rintro ⟨_, _, h3⟩; rw [HT.out] at h3; cases h3)]))
        go_returns
        exact ⟨rfl, T5.out.pair.room.below⟩

set_option maxRecDepth 100000 in
set_option maxHeartbeats 4000000 in
theorem takes_high (w : World) (from' many : Int) (a : Option Addr) (ws : List Int) (N cap : Nat) (hN : ws.length = N) (hl : (N : Int) ≤ 40) (hw : Words w a ws) (hr : ∀ x ∈ ws, 0 ≤ x ∧ x < 18446744073709551616) (m0 : 0 ≤ many) (m1 : many < 256) (f0 : 1 ≤ from') (f1 : 1 + many % 40 < from') :
    Calls Try.prog 3 #[.slice a N cap, .int .i64 from', .int .u8 many] w fun e w' => e = .returned (.bool true) ∧ Below w.heap.size w w' := by
  have n0 : 1 ≤ 1 + many % 40 := by omega
  have n1 : 1 + many % 40 ≤ 40 := by omega
  have HW := Lib.hid hw
  have HN := Lib.hid hN
  have HRG := Lib.hid hr
  clear hw hN hr
  go_enter Try.func3, Try.ntmps3
  go_wp2_with (go_at_call 7; refine (awake_any _).mono ?_; rintro e w1 ⟨rfl, hb⟩; have HB := Lib.hid hb; clear hb)
  generalize 1 + many % 40 = n at *
  have HA : Hid (startAt n from' = (1 : Int)) := by unfold Hid startAt; rw [if_neg (by omega)]
  have d1 : decide (from' < 1) = false := by simp; omega
  have d2 : decide (n < from') = true := by simp; omega
  refine (memory_any _ 1 n a ws N cap HN.out (by omega) (by omega) (by omega) n0 (by omega) (HW.out.later HB.out) HRG.out).mono ?_
  rintro e w2 ⟨X, Y, zs, rfl, hnn, hs, hlv⟩
  have R0 : Hid (Room w (w2.alloc (.cells (layCells 1 n) 26)) w2.heap.size X Y 1 n zs) := Lib.hid (Room.made HB.out hnn)
  have HS := Lib.hid hs
  clear hnn hs hlv
  go_wp2_with (first
    | (go_at_call 9; refine (Copy_s R0.out.mem zs.length rfl (by have := HS.out.len; omega) (by have := HS.out.len; omega)).mono ?_; rintro e w3 ⟨X2, Y2, rfl, hn2⟩; have P0 := Lib.hid (Pair.made R0.out hn2); clear hn2 R0))
  have a0 : 1 ≤ (1 : Int) := by omega
  have a1 : (1 : Int) ≤ n := by omega
  go_loopw [12, 13, 14] (fun s g i wr => ∃ (k : Nat) (steps got : Int), (k : Int) ≤ n ∧ i = .int .i64 k ∧ s = .int .i64 steps ∧ g = .int .i64 got ∧ Sought n (1 : Int) zs k steps got ∧ Pair w wr w2.heap.size X Y X2 Y2 1 n zs zs) (fun _ _ i _ => n.toNat - (intOf i).toNat)
  case atStart => exact ⟨0, 0, 0, by omega, rfl, rfl, rfl, Or.inl ⟨rfl, rfl, fun j hj => absurd hj (by omega)⟩, P0.out⟩
  case round =>
    clear P0
    obtain ⟨k, steps, got, hk, rfl, rfl, rfl, hsg, hp⟩ := hrel
    have HP := Lib.hid hp
    clear hp
    have q0 : wr.cell? ⟨w2.heap.size, 0, none⟩ = some (.int .i64 1) := HP.out.room.lay.at 0 rfl
    have q1 : wr.cell? ⟨w2.heap.size, 1, none⟩ = some (.int .i64 n) := HP.out.room.lay.at 1 rfl
    rcases hsg with ⟨rfl, rfl, hodd⟩ | ⟨q, rfl, rfl, rfl, hodd, hfree⟩
    · by_cases hlt : (k : Int) < n
      · have HO := Lib.hid hodd
        clear hodd
        obtain ⟨I, hI⟩ : ∃ I, I = nodeAt n (1 : Int) k := ⟨_, rfl⟩
        have hin := nodeAt_in (k := k) a0 a1 (by omega) hlt
        rw [← hI] at hin
        obtain ⟨i0, i1⟩ := hin
        have hmod : wrap64 ((k : Int) % n + 1) = I := by
          have h := mod_node (k := k) a0 a1 (by omega) hlt
          rw [← hI] at h
          have e : (k : Int) = (1 : Int) - 1 + (k : Int) := by omega
          rw [e, h, IntWalk.wrap64_in _ (by omega)]
        have HI := Lib.hid hI
        clear hI
        obtain ⟨z, hz⟩ : ∃ z, z = lifeIn n zs I := ⟨_, rfl⟩
        have z0 : 0 ≤ z := by rw [hz]; exact (HS.out.word _).1
        have HZ := Lib.hid hz
        clear hz
        by_cases ht : z % 2 = 0
        · have HT : Hid (takenB n zs I = false) := by unfold Hid takenB; rw [← HZ.out]; simp; omega
          have hd : (z % 2 == 0) = true := by simpa using ht
          clear ht
          go_wp2_with (first
            | (go_at_call 11; refine (Life_any _ 1 n I (by omega) (by omega) (by omega) (by omega)).mono ?_; rintro e w5 ⟨rfl, hb⟩; have P1 := Lib.hid (HP.out.next hb); clear hb)
            | (go_at_call 10; refine (Peek_s P1.out.two (n + 4 + I) z HZ.out.symm).mono ?_; rintro e w6 ⟨rfl, rfl⟩))
          go_roundw
          case rel => exact ⟨k + 1, (k : Int) + 2, I, by omega, by go_num, by go_num, rfl, Or.inr ⟨k, rfl, HI.out, rfl, HO.out, by rw [← HI.out]; exact HT.out⟩, P1.out⟩
          case measure => simp [intOf]; omega
        · have HT : Hid (takenB n zs I = true) := by unfold Hid takenB; rw [← HZ.out]; simp; omega
          have hd : (z % 2 == 0) = false := by simpa using ht
          clear ht
          go_wp2_with (first
            | (go_at_call 11; refine (Life_any _ 1 n I (by omega) (by omega) (by omega) (by omega)).mono ?_; rintro e w5 ⟨rfl, hb⟩; have P1 := Lib.hid (HP.out.next hb); clear hb)
            | (go_at_call 10; refine (Peek_s P1.out.two (n + 4 + I) z HZ.out.symm).mono ?_; rintro e w6 ⟨rfl, rfl⟩))
          go_roundw
          case rel => exact ⟨k + 1, (k : Int) + 1, 0, by omega, by go_num, by go_num, rfl, Or.inl ⟨rfl, by omega, fun j hj => by
            by_cases he : j = k
            · subst he; rw [← HI.out]; exact HT.out
            · exact HO.out j (by omega)⟩, P1.out⟩
          case measure => simp [intOf]; omega
      · have hkn : (k : Int) = n := by omega
        have HO : Hid (∀ j : Nat, (j : Int) < n → takenB n zs (nodeAt n (1 : Int) j) = true) := Lib.hid (fun j hj => hodd j (by omega))
        have hst : (k : Int) = n := hkn
        clear hodd hlt
        have hlt : decide ((k : Int) < n) = false := by simp; omega
        have HK := Lib.hid hkn
        clear hkn hst
        have q2 : Hid (takenB n zs 0 = takenB n zs 0) := rfl
        go_wp2_with (first
          | (go_at_call 12; refine (new_any _ 1 n from' (by omega) (by omega) n0 (by omega)).mono ?_; rintro e w5 ⟨C, rfl, ha⟩; rw [HA.out] at ha; have T0 := Lib.hid (Trio.made HP.out ha); clear ha HP)
          | (go_at_call 13; refine (run_none (lf := 0) HS.out a0 a1 T0.out.cx T0.out.cy HO.out (T0.out.alloc _).pair.room.mem (T0.out.alloc _).box (by simp) (by omega) (by omega)).mono ?_; rintro e w6 ⟨rfl, nd, lf, hd⟩; rw [← HK.out]; have T1 := Lib.hid ((T0.out.alloc _).did hd); clear hd; obtain ⟨e0, e1, e2, e3, e4, e5, e6, f2⟩ := row7 T1.out.box; have q3 : w6.cell? ⟨w2.heap.size, 0, none⟩ = some (.int .i64 1) := T1.out.pair.room.lay.at 0 rfl; have q4 : w6.cell? ⟨w2.heap.size, 1, none⟩ = some (.int .i64 n) := T1.out.pair.room.lay.at 1 rfl)
          | (go_at_call 15; refine (Same_s T1.out.pair.room.mem T1.out.pair.two zs.length true rfl rfl (by have := HS.out.len; omega) (by simp)).mono ?_; rintro e w7 ⟨rfl, hb⟩; have T2 := Lib.hid (T1.out.next hb); clear hb; have q5 : w7.cell? ⟨w2.heap.size, 0, none⟩ = some (.int .i64 1) := T2.out.pair.room.lay.at 0 rfl; have q6 : w7.cell? ⟨w2.heap.size, 1, none⟩ = some (.int .i64 n) := T2.out.pair.room.lay.at 1 rfl)
          | (go_at_call 17; refine (free_any _ X Y 1 n zs HS.out T2.out.pair.room.mem).mono ?_; rintro e w8 ⟨fa, fc, rfl, hla, hb⟩; have T3 := Lib.hid (T2.out.next hb); have HLA := Lib.hid hla; clear hb hla)
          | (go_at_call 16; refine (contains_any _ _ fa (freeL n zs) _ fc 0 rfl (by have := freeTo_length n zs n.toNat; unfold freeL; omega) HLA.out).mono ?_; rintro e w9 ⟨rfl, rfl⟩; rw [decide_eq_false (show ¬ (0 : Int) ∈ freeL n zs by unfold freeL; rw [mem_freeTo]; omega)]))
        go_returns
        exact ⟨rfl, T3.out.pair.room.below⟩
    · have hin := nodeAt_in (k := q) a0 a1 (by omega) (by omega)
      obtain ⟨I, hI⟩ : ∃ I, I = nodeAt n (1 : Int) q := ⟨_, rfl⟩
      rw [← hI] at hin hfree ⊢
      obtain ⟨i0, i1⟩ := hin
      obtain ⟨z, hz⟩ : ∃ z, z = lifeIn n zs I := ⟨_, rfl⟩
      have hup := up_range HS.out hfree
      have hwr := up_of_free HS.out hfree
      rw [← hz] at hup hwr
      obtain ⟨z0, z1⟩ := hup
      have HWR := Lib.hid hwr
      have HZ := Lib.hid hz
      have HI := Lib.hid hI
      have HO := Lib.hid hodd
      have HF := Lib.hid hfree
      have H2 : Hid (Sound 1 n (putLife n zs I (z + 1))) := Lib.hid (HS.out.put _ _ z0 z1)
      have HL2 : Hid ((putLife n zs I (z + 1)).length = zs.length) := setAt_length _ _ _
      have HT : Hid (takenB n (putLife n zs I (z + 1)) I = true) := by
        have : z % 2 ≠ 1 := by unfold takenB at hfree; rw [← hz] at hfree; simpa using hfree
        unfold Hid takenB
        rw [lifeIn_put_same HS.out i0 i1]
        simp
        omega
      have hg : (I == 0) = false := by simp; omega
      have hgt : decide (0 < I) = true := by simp; omega
      clear hz hI hodd hfree hwr
      by_cases hlt : ((q + 1 : Nat) : Int) < n
      all_goals
        go_wp2_with (first
          | (go_at_call 12; refine (new_any _ 1 n from' (by omega) (by omega) n0 (by omega)).mono ?_; rintro e w5 ⟨C, rfl, ha⟩; rw [HA.out] at ha; have T0 := Lib.hid (Trio.made HP.out ha); clear ha HP)
          | (go_at_call 13; refine (run_hit' (lf := 0) HS.out a0 a1 T0.out.cx T0.out.cy q (by omega) HO.out I ((q : Int) + 2) (z + 1) HI.out rfl (by rw [← HZ.out]) HF.out (T0.out.alloc _).pair.room.mem (T0.out.alloc _).box (by simp) (by omega) (by omega)).mono ?_; rintro e w6 ⟨rfl, lf, hd⟩; have T1 := Lib.hid ((T0.out.alloc _).did hd); clear hd; have q3 : w6.cell? ⟨w2.heap.size, 0, none⟩ = some (.int .i64 1) := T1.out.pair.room.lay.at 0 rfl; have q4 : w6.cell? ⟨w2.heap.size, 1, none⟩ = some (.int .i64 n) := T1.out.pair.room.lay.at 1 rfl)
          | (go_at_call 11; refine (Life_any _ 1 n I (by omega) (by omega) (by omega) (by omega)).mono ?_; rintro e w7 ⟨rfl, hb⟩; have T2 := Lib.hid (T1.out.next hb); clear hb)
          | (go_at_call 14; refine (Add_s T2.out.pair.two (n + 4 + I) 1 z HZ.out.symm).mono ?_; rintro e w8 ⟨rfl, hm, ha⟩; rw [HWR.out] at hm; have T3 : Hid (Trio w w8 w2.heap.size X Y X2 Y2 1 n (putLife n zs I (z + 1)) (putLife n zs I (z + 1)) C ⟨I, I, 0, true, lf⟩) := Lib.hid (T2.out.act2 hm ha); clear hm ha; obtain ⟨e0, e1, e2, e3, e4, e5, e6, f2⟩ := row7 T3.out.box)
          | (go_at_call 15; refine (Same_s T3.out.pair.room.mem T3.out.pair.two zs.length true HL2.out HL2.out (by have := HS.out.len; omega) (by simp)).mono ?_; rintro e w9 ⟨rfl, hb⟩; have T4 := Lib.hid (T3.out.next hb); clear hb; have q5 : w9.cell? ⟨w2.heap.size, 0, none⟩ = some (.int .i64 1) := T4.out.pair.room.lay.at 0 rfl; have q6 : w9.cell? ⟨w2.heap.size, 1, none⟩ = some (.int .i64 n) := T4.out.pair.room.lay.at 1 rfl)
          | (go_at_call 17; refine (free_any _ X Y 1 n _ H2.out T4.out.pair.room.mem).mono ?_; rintro e w10 ⟨fa, fc, rfl, hla, hb⟩; have T5 := Lib.hid (T4.out.next hb); have HLA := Lib.hid hla; clear hb hla)
          | (go_at_call 16; refine (contains_any _ _ fa (freeL n (putLife n zs I (z + 1))) _ fc I rfl (by have := freeTo_length n (putLife n zs I (z + 1)) n.toNat; unfold freeL; omega) HLA.out).mono ?_; rintro e w11 ⟨rfl, rfl⟩; rw [decide_eq_false (show ¬ I ∈ freeL n (putLife n zs I (z + 1)) by unfold freeL; rw [mem_freeTo]; rintro ⟨_, _, h3⟩; rw [HT.out] at h3; cases h3)]))
        go_returns
        exact ⟨rfl, T5.out.pair.room.below⟩

theorem takes_any (w : World) (from' many : Int) (a : Option Addr) (ws : List Int) (N cap : Nat) (hN : ws.length = N) (hw : Words w a ws) (hr : ∀ x ∈ ws, 0 ≤ x ∧ x < 18446744073709551616) (m0 : 0 ≤ many) (m1 : many < 256) :
    Calls Try.prog 3 #[.slice a N cap, .int .i64 from', .int .u8 many] w fun e w' => e = .returned (.bool true) ∧ Below w.heap.size w w' := by
  by_cases hl : (N : Int) ≤ 40
  · by_cases h0 : 1 ≤ from'
    · by_cases h1 : from' ≤ 1 + many % 40
      · exact takes_in w from' many a ws N cap hN hl hw hr m0 m1 h0 h1
      · exact takes_high w from' many a ws N cap hN hl hw hr m0 m1 h0 (by omega)
    · exact takes_low w from' many a ws N cap hN hl hw hr m0 m1 (by omega)
  · exact takes_long w from' many a N cap (by omega)

end Go.Proofs.Ytglkpajnhdamkaa.life
