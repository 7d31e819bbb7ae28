/- The law WordGoes answers true at any word and any changes. -/
import Derived.Test.YtcblbbenaeiecaaDoorBox
import Derived.Test.YtcblbbenaeiecaaDoorEqw
import Derived.Deep.RegionHeld3
namespace Go.Proofs.YtcblbbenaeiecaaDoor.word
open Go.RowKit

set_option maxRecDepth 100000 in
set_option maxHeartbeats 1000000 in
theorem goes_long (w : World) (k n c v : Int) (m : Bool) (a : Option Addr) (len cap : Nat) (h : 300 < (len : Int)) (ht : Table w) :
    Calls Tryd.prog 7 #[.agg #[.int .i64 k, .int .i64 n, .bool m, .int .i64 c, .int .i64 v], .slice a len cap] w fun e w' => e = .returned (.bool true) ∧ Below w.heap.size w w' := by
  have ho0 := (Old.refl ht).alloc (.cells #[.int .i64 k, .int .i64 n, .bool m, .int .i64 c, .int .i64 v] 23)
  have hr0 := Row5.new w 23 (.int .i64 k) (.int .i64 n) (.bool m) (.int .i64 c) (.int .i64 v)
  go_enter Tryd.func7, Tryd.ntmps7
  go_wp2_with (first | (go_at_call 8; refine (awake_any _ ho0.table).mono ?_; rintro e w1 ⟨rfl, hb1⟩; have ho1 := ho0.next hb1; have hr1 := hr0.below hb1; obtain ⟨d0, d1, d2, d3, d4, hz1⟩ := hr1))
  go_returns
  exact ⟨rfl, ho1.below⟩

set_option maxRecDepth 100000 in
set_option maxHeartbeats 1000000 in
theorem goes_unfit (w : World) (k n c v : Int) (m : Bool) (a : Option Addr) (len cap : Nat) (h : (len : Int) ≤ 300) (kr : -9223372036854775808 ≤ k ∧ k ≤ 9223372036854775807) (nr : -9223372036854775808 ≤ n ∧ n ≤ 9223372036854775807) (cr : -9223372036854775808 ≤ c ∧ c ≤ 9223372036854775807) (vr : -9223372036854775808 ≤ v ∧ v ≤ 9223372036854775807)
    (H : Hid (¬ (0 ≤ k ∧ k < 1024 ∧ 0 ≤ n ∧ n < 512 ∧ 0 ≤ c ∧ c < 32 ∧ 0 ≤ v ∧ v < 262144))) (ht : Table w) :
    Calls Tryd.prog 7 #[.agg #[.int .i64 k, .int .i64 n, .bool m, .int .i64 c, .int .i64 v], .slice a len cap] w fun e w' => e = .returned (.bool true) ∧ Below w.heap.size w w' := by
  obtain ⟨m0, m1⟩ := mark_range m
  have ho0 := (Old.refl ht).alloc (.cells #[.int .i64 k, .int .i64 n, .bool m, .int .i64 c, .int .i64 v] 23)
  have hr0 := Row5.new w 23 (.int .i64 k) (.int .i64 n) (.bool m) (.int .i64 c) (.int .i64 v)
  go_enter Tryd.func7, Tryd.ntmps7
  go_wp2_with (first | (go_at_call 8; refine (awake_any _ ho0.table).mono ?_; rintro e w1 ⟨rfl, hb1⟩; have ho1 := ho0.next hb1; have hr1 := hr0.below hb1; obtain ⟨d0, d1, d2, d3, d4, hz1⟩ := hr1) | (go_at_call 11; refine (fields_any _ k n m c v).mono ?_; rintro e w2 ⟨rfl, hb2⟩; have ho2 := ho1.next hb2; have hr2 := (Row5.mk d0 d1 d2 d3 d4 hz1).below hb2) | (go_at_call 10; refine (fit_no _ k n _ c v kr nr cr vr m0 m1 H.out).mono ?_; rintro e w3 ⟨rfl, hb3⟩; have ho3 := ho2.next hb3))
  go_returns
  exact ⟨rfl, ho3.below⟩

/-- The law's own block holds a word, the argument's the first one; nothing that was there has changed. -/
structure St (W w : World) (X : Nat) (k n c v : Int) (m : Bool) (n' c' v' : Int) (m' : Bool) : Prop where
  box : Box w X k n' c' v' m'
  orig : Row5 w W.heap.size (.int .i64 k) (.int .i64 n) (.bool m) (.int .i64 c) (.int .i64 v)
  old : Old W w
  lt : W.heap.size < X
theorem St.next {W w w' : World} {X : Nat} {k n c v n' c' v' : Int} {m m' : Bool} (h : St W w X k n c v m n' c' v' m') (hb : Below w.heap.size w w') : St W w' X k n c v m n' c' v' m' :=
  ⟨h.box.below hb, h.orig.below hb, h.old.next hb, h.lt⟩
theorem St.put {W w : World} {X : Nat} {k n c v n' c' v' : Int} {m m' : Bool} (h : St W w X k n c v m n' c' v' m') (ht : Table W) (n2 c2 v2 : Int) (m2 : Bool) : St W (put5 w X k n2 c2 v2 m2) X k n c v m n2 c2 v2 m2 := by
  have hne : W.heap.size ≠ X := Nat.ne_of_lt h.lt
  have hb := put5_below h.old.below (Nat.le_of_lt h.lt) k n2 c2 v2 m2
  have e := put5_other (w := w) hne k n2 c2 v2 m2
  have hc : ∀ o, (put5 w X k n2 c2 v2 m2).cell? ⟨W.heap.size, o, none⟩ = w.cell? ⟨W.heap.size, o, none⟩ := fun o => World.cell?_of_block e
  have hz : W.heap.size < (put5 w X k n2 c2 v2 m2).heap.size := Nat.lt_trans h.lt (h.box.put k n2 c2 v2 m2).lt
  exact ⟨h.box.put k n2 c2 v2 m2, ⟨(hc 0).trans h.orig.c0, (hc 1).trans h.orig.c1, (hc 2).trans h.orig.c2, (hc 3).trans h.orig.c3, (hc 4).trans h.orig.c4, hz⟩, ⟨hb, ht.below hb⟩, h.lt⟩
/-- The same beside its five cells, for a region that draws its order. -/
theorem St.cells {W w : World} {X : Nat} {k n c v n' c' v' : Int} {m m' : Bool} (h : St W w X k n c v m n' c' v' m') :
    w.cell? ⟨X, 0, none⟩ = some (.int .i64 k) ∧ w.cell? ⟨X, 1, none⟩ = some (.int .i64 n') ∧ w.cell? ⟨X, 2, none⟩ = some (.bool m') ∧ w.cell? ⟨X, 3, none⟩ = some (.int .i64 c') ∧ w.cell? ⟨X, 4, none⟩ = some (.int .i64 v') ∧ St W w X k n c v m n' c' v' m' :=
  ⟨h.box.row.c0, h.box.row.c1, h.box.row.c2, h.box.row.c3, h.box.row.c4, h⟩
theorem St.keep {W w w' : World} {X : Nat} {k n c v n' c' v' : Int} {m m' : Bool}
    (h : w.cell? ⟨X, 0, none⟩ = some (.int .i64 k) ∧ w.cell? ⟨X, 1, none⟩ = some (.int .i64 n') ∧ w.cell? ⟨X, 2, none⟩ = some (.bool m') ∧ w.cell? ⟨X, 3, none⟩ = some (.int .i64 c') ∧ w.cell? ⟨X, 4, none⟩ = some (.int .i64 v') ∧ St W w X k n c v m n' c' v' m') (hb : Below w.heap.size w w') :
    w'.cell? ⟨X, 0, none⟩ = some (.int .i64 k) ∧ w'.cell? ⟨X, 1, none⟩ = some (.int .i64 n') ∧ w'.cell? ⟨X, 2, none⟩ = some (.bool m') ∧ w'.cell? ⟨X, 3, none⟩ = some (.int .i64 c') ∧ w'.cell? ⟨X, 4, none⟩ = some (.int .i64 v') ∧ St W w' X k n c v m n' c' v' m' :=
  (h.2.2.2.2.2.next hb).cells

theorem nextVer_range (v : Int) (h0 : 0 ≤ v) (h1 : v < 262144) : 0 ≤ nextVer v ∧ nextVer v < 262144 := by
  unfold nextVer
  split <;> omega
theorem nextVer_step (v v' : Int) (j : Nat) (h : v' = (v + j) % 262144) : nextVer v' = (v + (j + 1 : Nat)) % 262144 := by
  unfold nextVer
  split <;> omega

/-- What holds at the head of round j. -/
def Goes (W wr : World) (X : Nat) (k n c v : Int) (m : Bool) (j : Nat) : Prop :=
  ∃ (n' c' v' : Int) (m' : Bool), 0 ≤ n' ∧ n' < 512 ∧ 0 ≤ c' ∧ c' < 32 ∧ v' = (v + j) % 262144 ∧ St W wr X k n c v m n' c' v' m'

set_option maxRecDepth 100000 in
set_option maxHeartbeats 1000000 in
theorem goes_some (w : World) (k n c v : Int) (m : Bool) (a : Addr) (len cap : Nat) (zs : Nat → Int) (h : (len : Int) ≤ 300) (k0 : 0 ≤ k) (k1 : k < 1024) (n0 : 0 ≤ n) (n1 : n < 512) (c0 : 0 ≤ c) (c1 : c < 32) (v0 : 0 ≤ v) (v1 : v < 262144)
    (hz : ∀ i, i < len → w.cell? (a.add i) = some (.int .u8 (zs i)) ∧ 0 ≤ zs i ∧ zs i < 256) (ht : Table w) :
    Calls Tryd.prog 7 #[.agg #[.int .i64 k, .int .i64 n, .bool m, .int .i64 c, .int .i64 v], .slice (some a) len cap] w fun e w' => e = .returned (.bool true) ∧ Below w.heap.size w w' := by
  obtain ⟨m0, m1⟩ := mark_range m
  have HZ := Lib.hid hz
  clear hz
  have ho0 := (Old.refl ht).alloc (.cells #[.int .i64 k, .int .i64 n, .bool m, .int .i64 c, .int .i64 v] 23)
  have hr0 := Row5.new w 23 (.int .i64 k) (.int .i64 n) (.bool m) (.int .i64 c) (.int .i64 v)
  go_enter Tryd.func7, Tryd.ntmps7
  go_wp2_with (first | (go_at_call 8; refine (awake_any _ ho0.table).mono ?_; rintro e w1 ⟨rfl, hb1⟩; have ho1 := ho0.next hb1; have hr1 := hr0.below hb1; obtain ⟨d0, d1, d2, d3, d4, hz1⟩ := hr1) | (go_at_call 11; refine (fields_any _ k n m c v).mono ?_; rintro e w2 ⟨rfl, hb2⟩; have ho2 := ho1.next hb2; have hr2 := (Row5.mk d0 d1 d2 d3 d4 hz1).below hb2) | (go_at_call 10; refine (fit_yes _ k n _ c v k0 k1 n0 n1 m0 m1 c0 c1 v0 v1).mono ?_; rintro e w3 ⟨rfl, hb3⟩; have ho3 := ho2.next hb3; have hr3 := hr2.below hb3; obtain ⟨e0, e1, e2, e3, e4, hz3⟩ := hr3))
  have hstart : Goes w (w3.alloc (.cells #[.int .i64 k, .int .i64 n, .bool m, .int .i64 c, .int .i64 v] 23)) w3.heap.size k n c v m 0 :=
    ⟨n, c, v, m, n0, n1, c0, c1, by simp; omega, Box.new _ _ _ _ _ _, (Row5.mk e0 e1 e2 e3 e4 hz3).alloc _, ho3.alloc _, hz3⟩
  clear ho0 ho1 ho2 ho3 hb1 hb2 hb3 hr0 hr2 d0 d1 d2 d3 d4 hz1 e0 e1 e2 e3 e4 hz3
  go_loopw [24] (fun i wr => ∃ j : Nat, j ≤ len ∧ i = .int .i64 j ∧ Goes w wr w3.heap.size k n c v m j) (fun i _ => len - (intOf i).toNat)
  case atStart => exact ⟨0, Nat.zero_le _, rfl, hstart⟩
  case round =>
    clear hstart
    obtain ⟨j, hj, rfl, n', c', v', m', n0', n1', c0', c1', hv', hst⟩ := hrel
    have HV := Lib.hid (nextVer_step v v' j hv')
    have HV0 := Lib.hid hv'
    have v0' : 0 ≤ v' := by omega
    have v1' : v' < 262144 := by omega
    have v2' : v' ≤ 262143 := by omega
    obtain ⟨nv0, nv1⟩ := nextVer_range v' v0' v1'
    obtain ⟨u0, u1⟩ := mark_range m'
    clear hv'
    by_cases hlt : j < len
    · obtain ⟨hc0, z0, z1⟩ := HZ.out j hlt
      have hcell : wr.cell? (a.add j) = some (.int .u8 (zs j)) := (hst.old.below.cell (World.block_lt_of_cell? w _ hc0)).trans hc0
      clear hc0
      generalize zs j = z at *
      obtain ⟨f0, f1, f2, f3, f4, hx⟩ := hst.box.row
      have hfree := hst.box.free
      by_cases h3 : z % 3 = 0
      · have t0 : (z % 3 == 0) = true := by simp [h3]
        have q0 : 0 ≤ z := z0
        have q1 : z < 512 := by omega
        have r0 := c0'
        have r1 := c1'
        clear h3
        go_wp2_with (first | (go_at_call 16; refine (link_any _ k n' m' c' v' z v0' v2').mono ?_; rintro e w4 ⟨rfl, hb4⟩; have hst4' := hst.next hb4; obtain ⟨g0, g1, g2, g3, g4, hx4⟩ := hst4'.box.row; have hfree4 := hst4'.box.free; have hst4 := hst4'.put ht z c' (nextVer v') m') | (go_at_call 9; refine (put_fit _ k z c' (nextVer v') m' k0 k1 q0 q1 r0 r1 nv0 nv1 hst4.old.table).mono ?_; rintro e w5 ⟨rfl, hb5⟩; have hst5 := hst4.next hb5))
        have hw5 := (hst5.next (Below.refl _ _).drew).cells
        clear hst hst4 hst4' hst5 hb4 hb5 f0 f1 f2 f3 f4 hx hfree g0 g1 g2 g3 g4 hx4 hfree4
        go_region_held3 (fun wx => wx.cell? ⟨w3.heap.size, 0, none⟩ = some (.int .i64 k) ∧ wx.cell? ⟨w3.heap.size, 1, none⟩ = some (.int .i64 z) ∧ wx.cell? ⟨w3.heap.size, 2, none⟩ = some (.bool m') ∧ wx.cell? ⟨w3.heap.size, 3, none⟩ = some (.int .i64 c') ∧ wx.cell? ⟨w3.heap.size, 4, none⟩ = some (.int .i64 (nextVer v')) ∧ St w wx w3.heap.size k n c v m z c' (nextVer v') m')
          (first | exact hw5 | (refine St.keep ?_ hb6; assumption))
          (first | (go_at_call 13; refine (get_num _ k z c' (nextVer v') m' k0 k1 q0 q1 r0 r1 nv0 nv1 ?_).mono ?_; (go_split_ands; refine Old.table (W := w) (St.old (X := w3.heap.size) (k := k) (n := n) (c := c) (v := v) (m := m) (n' := z) (c' := c') (v' := nextVer v') (m' := m') ?_); assumption); rintro e w6 ⟨rfl, hb6⟩))
        have hst6 : St w w6 w3.heap.size k n c v m z c' (nextVer v') m' := by go_split_ands; assumption
        go_wp2
        go_roundw
        case rel => exact ⟨j + 1, by omega, by go_num, z, c', nextVer v', m', q0, q1, r0, r1, HV.out, hst6⟩
        case measure => simp [intOf]; omega
      by_cases h4 : z % 3 = 1
      · have t0 : (z % 3 == 0) = false := by simp [h3]
        have t1 : (z % 3 == 1) = true := by simp [h4]
        have q0 := n0'
        have q1 := n1'
        have r0 := c0'
        have r1 := c1'
        clear h3 h4
        go_wp2_with (first | (go_at_call 17; refine (marked_any _ k n' m' c' v' v0' v2').mono ?_; rintro e w4 ⟨rfl, hb4⟩; have hst4' := hst.next hb4; obtain ⟨g0, g1, g2, g3, g4, hx4⟩ := hst4'.box.row; have hfree4 := hst4'.box.free; have hst4 := hst4'.put ht n' c' (nextVer v') true) | (go_at_call 9; refine (put_fit _ k n' c' (nextVer v') true k0 k1 q0 q1 r0 r1 nv0 nv1 hst4.old.table).mono ?_; rintro e w5 ⟨rfl, hb5⟩; have hst5 := hst4.next hb5))
        have hw5 := (hst5.next (Below.refl _ _).drew).cells
        clear hst hst4 hst4' hst5 hb4 hb5 f0 f1 f2 f3 f4 hx hfree g0 g1 g2 g3 g4 hx4 hfree4
        go_region_held3 (fun wx => wx.cell? ⟨w3.heap.size, 0, none⟩ = some (.int .i64 k) ∧ wx.cell? ⟨w3.heap.size, 1, none⟩ = some (.int .i64 n') ∧ wx.cell? ⟨w3.heap.size, 2, none⟩ = some (.bool true) ∧ wx.cell? ⟨w3.heap.size, 3, none⟩ = some (.int .i64 c') ∧ wx.cell? ⟨w3.heap.size, 4, none⟩ = some (.int .i64 (nextVer v')) ∧ St w wx w3.heap.size k n c v m n' c' (nextVer v') true)
          (first | exact hw5 | (refine St.keep ?_ hb6; assumption))
          (first | (go_at_call 13; refine (get_num _ k n' c' (nextVer v') true k0 k1 q0 q1 r0 r1 nv0 nv1 ?_).mono ?_; (go_split_ands; refine Old.table (W := w) (St.old (X := w3.heap.size) (k := k) (n := n) (c := c) (v := v) (m := m) (n' := n') (c' := c') (v' := nextVer v') (m' := true) ?_); assumption); rintro e w6 ⟨rfl, hb6⟩))
        have hst6 : St w w6 w3.heap.size k n c v m n' c' (nextVer v') true := by go_split_ands; assumption
        go_wp2
        go_roundw
        case rel => exact ⟨j + 1, by omega, by go_num, n', c', nextVer v', true, q0, q1, r0, r1, HV.out, hst6⟩
        case measure => simp [intOf]; omega
      · have t0 : (z % 3 == 0) = false := by simp [h3]
        have t1 : (z % 3 == 1) = false := by simp [h4]
        have h5 : z % 3 = 2 := by omega
        have t2 : (z % 3 == 2) = true := by simp [h5]
        clear h5
        have q0 := n0'
        have q1 := n1'
        have r0 : (0 : Int) ≤ 0 := by omega
        have r1 : (0 : Int) < 32 := by omega
        have s0 : 0 ≤ z % 31 := by omega
        have s1 : z % 31 ≤ 30 := by omega
        clear h3 h4
        go_wp2_with (first | (go_at_call 18; refine (claimed_any _ k n' m' c' v' (z % 31) n' m' s0 s1).mono ?_; rintro e w7 ⟨rfl, hb3⟩; have hst3 := hst.next hb3) | (go_at_call 19; refine (free_any _ k n' m' (z % 31 + 1) v' v0' v2').mono ?_; rintro e w4 ⟨rfl, hb4⟩; have hst4' := hst3.next hb4; obtain ⟨g0, g1, g2, g3, g4, hx4⟩ := hst4'.box.row; have hfree4 := hst4'.box.free; have hst4 := hst4'.put ht n' 0 (nextVer v') m') | (go_at_call 9; refine (put_fit _ k n' 0 (nextVer v') m' k0 k1 q0 q1 r0 r1 nv0 nv1 hst4.old.table).mono ?_; rintro e w5 ⟨rfl, hb5⟩; have hst5 := hst4.next hb5))
        have hw5 := (hst5.next (Below.refl _ _).drew).cells
        clear hst hst3 hb3 hst4 hst4' hst5 hb4 hb5 f0 f1 f2 f3 f4 hx hfree g0 g1 g2 g3 g4 hx4 hfree4
        go_region_held3 (fun wx => wx.cell? ⟨w3.heap.size, 0, none⟩ = some (.int .i64 k) ∧ wx.cell? ⟨w3.heap.size, 1, none⟩ = some (.int .i64 n') ∧ wx.cell? ⟨w3.heap.size, 2, none⟩ = some (.bool m') ∧ wx.cell? ⟨w3.heap.size, 3, none⟩ = some (.int .i64 0) ∧ wx.cell? ⟨w3.heap.size, 4, none⟩ = some (.int .i64 (nextVer v')) ∧ St w wx w3.heap.size k n c v m n' 0 (nextVer v') m')
          (first | exact hw5 | (refine St.keep ?_ hb6; assumption))
          (first | (go_at_call 13; refine (get_num _ k n' 0 (nextVer v') m' k0 k1 q0 q1 r0 r1 nv0 nv1 ?_).mono ?_; (go_split_ands; refine Old.table (W := w) (St.old (X := w3.heap.size) (k := k) (n := n) (c := c) (v := v) (m := m) (n' := n') (c' := 0) (v' := nextVer v') (m' := m') ?_); assumption); rintro e w6 ⟨rfl, hb6⟩))
        have hst6 : St w w6 w3.heap.size k n c v m n' 0 (nextVer v') m' := by go_split_ands; assumption
        go_wp2
        go_roundw
        case rel => exact ⟨j + 1, by omega, by go_num, n', 0, nextVer v', m', q0, q1, r0, r1, HV.out, hst6⟩
        case measure => simp [intOf]; omega
    · have he : (v' == (v + (len : Int)) % 262144) = true := by
        have h0 := HV0.out
        have h1 : j = len := by omega
        rw [h0, h1]; simp
      have hlen : ¬ ((j : Int) < (len : Int)) := by omega
      obtain ⟨f0, f1, f2, f3, f4, hx⟩ := hst.box.row
      obtain ⟨g0, g1, g2, g3, g4, hy⟩ := hst.orig
      go_wp2
      go_returns
      exact ⟨rfl, hst.old.below⟩
set_option maxRecDepth 100000 in
set_option maxHeartbeats 1000000 in
theorem goes_none (w : World) (k n c v : Int) (m : Bool) (k0 : 0 ≤ k) (k1 : k < 1024) (n0 : 0 ≤ n) (n1 : n < 512) (c0 : 0 ≤ c) (c1 : c < 32) (v0 : 0 ≤ v) (v1 : v < 262144)
    (ht : Table w) :
    Calls Tryd.prog 7 #[.agg #[.int .i64 k, .int .i64 n, .bool m, .int .i64 c, .int .i64 v], .slice none 0 0] w fun e w' => e = .returned (.bool true) ∧ Below w.heap.size w w' := by
  obtain ⟨m0, m1⟩ := mark_range m
  have ho0 := (Old.refl ht).alloc (.cells #[.int .i64 k, .int .i64 n, .bool m, .int .i64 c, .int .i64 v] 23)
  have hr0 := Row5.new w 23 (.int .i64 k) (.int .i64 n) (.bool m) (.int .i64 c) (.int .i64 v)
  go_enter Tryd.func7, Tryd.ntmps7
  go_wp2_with (first | (go_at_call 8; refine (awake_any _ ho0.table).mono ?_; rintro e w1 ⟨rfl, hb1⟩; have ho1 := ho0.next hb1; have hr1 := hr0.below hb1; obtain ⟨d0, d1, d2, d3, d4, hz1⟩ := hr1) | (go_at_call 11; refine (fields_any _ k n m c v).mono ?_; rintro e w2 ⟨rfl, hb2⟩; have ho2 := ho1.next hb2; have hr2 := (Row5.mk d0 d1 d2 d3 d4 hz1).below hb2) | (go_at_call 10; refine (fit_yes _ k n _ c v k0 k1 n0 n1 m0 m1 c0 c1 v0 v1).mono ?_; rintro e w3 ⟨rfl, hb3⟩; have ho3 := ho2.next hb3; have hr3 := hr2.below hb3; obtain ⟨e0, e1, e2, e3, e4, hz3⟩ := hr3))
  have he : (v == v % 262144) = true := by
    have h1 : v % 262144 = v := by omega
    rw [h1]; simp
  refine wp_loop_rounds 1 ?_
  rw [rounds_succ]
  go_wp2
  go_returns
  exact ⟨rfl, (ho3.alloc _).below⟩

/-- WHAT THE LAW ANSWERS, at any word and any list that came in. -/
theorem goes_any (w : World) (k n c v : Int) (m : Bool) (a : Addr) (len cap : Nat) (zs : Nat → Int) (kr : -9223372036854775808 ≤ k ∧ k ≤ 9223372036854775807) (nr : -9223372036854775808 ≤ n ∧ n ≤ 9223372036854775807) (cr : -9223372036854775808 ≤ c ∧ c ≤ 9223372036854775807) (vr : -9223372036854775808 ≤ v ∧ v ≤ 9223372036854775807)
    (hz : ∀ i, i < len → w.cell? (a.add i) = some (.int .u8 (zs i)) ∧ 0 ≤ zs i ∧ zs i < 256) (ht : Table w) :
    Calls Tryd.prog 7 #[.agg #[.int .i64 k, .int .i64 n, .bool m, .int .i64 c, .int .i64 v], .slice (some a) len cap] w fun e w' => e = .returned (.bool true) ∧ Below w.heap.size w w' := by
  by_cases hl : 300 < (len : Int)
  · exact goes_long w k n c v m (some a) len cap hl ht
  by_cases h : 0 ≤ k ∧ k < 1024 ∧ 0 ≤ n ∧ n < 512 ∧ 0 ≤ c ∧ c < 32 ∧ 0 ≤ v ∧ v < 262144
  · obtain ⟨k0, k1, n0, n1, c0, c1, v0, v1⟩ := h
    exact goes_some w k n c v m a len cap zs (by omega) k0 k1 n0 n1 c0 c1 v0 v1 hz ht
  · exact goes_unfit w k n c v m (some a) len cap (by omega) kr nr cr vr h ht
theorem goes_nil (w : World) (k n c v : Int) (m : Bool) (kr : -9223372036854775808 ≤ k ∧ k ≤ 9223372036854775807) (nr : -9223372036854775808 ≤ n ∧ n ≤ 9223372036854775807) (cr : -9223372036854775808 ≤ c ∧ c ≤ 9223372036854775807) (vr : -9223372036854775808 ≤ v ∧ v ≤ 9223372036854775807) (ht : Table w) :
    Calls Tryd.prog 7 #[.agg #[.int .i64 k, .int .i64 n, .bool m, .int .i64 c, .int .i64 v], .slice none 0 0] w fun e w' => e = .returned (.bool true) ∧ Below w.heap.size w w' := by
  by_cases h : 0 ≤ k ∧ k < 1024 ∧ 0 ≤ n ∧ n < 512 ∧ 0 ≤ c ∧ c < 32 ∧ 0 ≤ v ∧ v < 262144
  · obtain ⟨k0, k1, n0, n1, c0, c1, v0, v1⟩ := h
    exact goes_none w k n c v m k0 k1 n0 n1 c0 c1 v0 v1 ht
  · exact goes_unfit w k n c v m none 0 0 (by omega) kr nr cr vr h ht
end Go.Proofs.YtcblbbenaeiecaaDoor.word
