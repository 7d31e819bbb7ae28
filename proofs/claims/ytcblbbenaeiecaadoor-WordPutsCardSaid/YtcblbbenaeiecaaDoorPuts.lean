/- The law WordPuts answers true at every word. -/
import Derived.Test.YtcblbbenaeiecaaDoorRight
import Derived.Deep.RegionHeld3
namespace Go.Proofs.YtcblbbenaeiecaaDoor.word
open Go.RowKit

/-- The five cells of a word that lies in a block. -/
structure Word5 (w : World) (b : Nat) (k n c v : Int) (m : Bool) : Prop where
  c0 : w.cell? ⟨b, 0, none⟩ = some (.int .i64 k)
  c1 : w.cell? ⟨b, 1, none⟩ = some (.int .i64 n)
  c2 : w.cell? ⟨b, 2, none⟩ = some (.bool m)
  c3 : w.cell? ⟨b, 3, none⟩ = some (.int .i64 c)
  c4 : w.cell? ⟨b, 4, none⟩ = some (.int .i64 v)
theorem Word5.below {w w' : World} {b : Nat} {k n c v : Int} {m : Bool} (h : Word5 w b k n c v m) (hb : Below w.heap.size w w') (hz : b < w.heap.size) : Word5 w' b k n c v m :=
  ⟨(hb.cell hz).trans h.c0, (hb.cell hz).trans h.c1, (hb.cell hz).trans h.c2, (hb.cell hz).trans h.c3, (hb.cell hz).trans h.c4⟩

/-- What is carried from call to call: nothing that was there has changed, the table stands, the word's own block is there. -/
structure Kept (W w : World) (b : Nat) : Prop where
  below : Below W.heap.size W w
  table : Table w
  size : b < w.heap.size
  base : W.heap.size ≤ b
theorem Kept.next {W w w' : World} {b : Nat} (h : Kept W w b) (hb : Below w.heap.size w w') : Kept W w' b :=
  ⟨h.below.trans (hb.mono (Nat.le_trans h.base (Nat.le_of_lt h.size))), h.table.below hb, Nat.lt_of_lt_of_le h.size hb.size, h.base⟩
theorem Kept.first {W : World} (ht : Table W) (o : Obj) : Kept W (W.alloc o) W.heap.size :=
  ⟨(Below.refl _ _).alloc (Nat.le_refl _) o, ht.alloc o, by simp, Nat.le_refl _⟩

/-- The same in one line, for a region that draws its order. -/
theorem keepS {W w w' : World} {b : Nat} {k n c v : Int} {m : Bool} (h : w.cell? ⟨b, 0, none⟩ = some (.int .i64 k) ∧ w.cell? ⟨b, 1, none⟩ = some (.int .i64 n) ∧ w.cell? ⟨b, 2, none⟩ = some (.bool m) ∧ w.cell? ⟨b, 3, none⟩ = some (.int .i64 c) ∧ w.cell? ⟨b, 4, none⟩ = some (.int .i64 v) ∧ Kept W w b) (hb : Below w.heap.size w w') :
    w'.cell? ⟨b, 0, none⟩ = some (.int .i64 k) ∧ w'.cell? ⟨b, 1, none⟩ = some (.int .i64 n) ∧ w'.cell? ⟨b, 2, none⟩ = some (.bool m) ∧ w'.cell? ⟨b, 3, none⟩ = some (.int .i64 c) ∧ w'.cell? ⟨b, 4, none⟩ = some (.int .i64 v) ∧ Kept W w' b := by
  obtain ⟨h0, h1, h2, h3, h4, hk⟩ := h
  exact ⟨(hb.cell hk.size).trans h0, (hb.cell hk.size).trans h1, (hb.cell hk.size).trans h2, (hb.cell hk.size).trans h3, (hb.cell hk.size).trans h4, hk.next hb⟩

set_option maxRecDepth 100000 in
set_option maxHeartbeats 1000000 in
theorem puts_unfit (w : World) (k n c v : Int) (m : Bool) (kr : -9223372036854775808 ≤ k ∧ k ≤ 9223372036854775807) (nr : -9223372036854775808 ≤ n ∧ n ≤ 9223372036854775807) (cr : -9223372036854775808 ≤ c ∧ c ≤ 9223372036854775807) (vr : -9223372036854775808 ≤ v ∧ v ≤ 9223372036854775807)
    (h : ¬ (0 ≤ k ∧ k < 1024 ∧ 0 ≤ n ∧ n < 512 ∧ 0 ≤ c ∧ c < 32 ∧ 0 ≤ v ∧ v < 262144)) (ht : Table w) :
    Calls Tryd.prog 3 #[.agg #[.int .i64 k, .int .i64 n, .bool m, .int .i64 c, .int .i64 v]] w fun e w' => e = .returned (.bool true) ∧ Below w.heap.size w w' := by
  obtain ⟨m0, m1⟩ := mark_range m
  have H := Lib.hid h
  clear h
  have hk0 := Kept.first ht (.cells #[.int .i64 k, .int .i64 n, .bool m, .int .i64 c, .int .i64 v] 23)
  go_enter Tryd.func3, Tryd.ntmps3
  go_wp2_with (first | (go_at_call 8; refine (awake_any _ hk0.table).mono ?_; rintro e w1 ⟨rfl, hb1⟩; have hk1 := hk0.next hb1; obtain ⟨hc1, hf1⟩ := bcell hb1; have hz1 := hk1.size) | (go_at_call 9; refine (put_unfit _ k n c v m kr nr cr vr H.out hk1.table).mono ?_; rintro e w2 ⟨rfl, hb2⟩; have hk2 := hk1.next hb2; obtain ⟨hc2, hf2⟩ := bcell hb2; have hz2 := hk2.size) | (go_at_call 11; refine (fields_any _ k n m c v).mono ?_; rintro e w3 ⟨rfl, hb3⟩; have hk3 := hk2.next hb3) | (go_at_call 10; refine (fit_no _ k n _ c v kr nr cr vr m0 m1 H.out).mono ?_; rintro e w4 ⟨rfl, hb4⟩; have hk4 := hk3.next hb4))
  all_goals
    go_returns
    exact ⟨rfl, hk4.below⟩

set_option maxRecDepth 100000 in
set_option maxHeartbeats 1000000 in
theorem puts_fit (w : World) (k n c v : Int) (m : Bool) (k0 : 0 ≤ k) (k1 : k < 1024) (n0 : 0 ≤ n) (n1 : n < 512) (c0 : 0 ≤ c) (c1 : c < 32) (v0 : 0 ≤ v) (v1 : v < 262144) (ht : Table w) :
    Calls Tryd.prog 3 #[.agg #[.int .i64 k, .int .i64 n, .bool m, .int .i64 c, .int .i64 v]] w fun e w' => e = .returned (.bool true) ∧ Below w.heap.size w w' := by
  obtain ⟨m0, m1⟩ := mark_range m
  have hk0 := Kept.first ht (.cells #[.int .i64 k, .int .i64 n, .bool m, .int .i64 c, .int .i64 v] 23)
  obtain ⟨x0, x1⟩ := num_lt k n (mk m) c v k0 k1 n0 n1 m0 m1 c0 c1 v0 v1
  have hu : IntKind.u64.wrap (num k n (mk m) c v) = num k n (mk m) c v := by rw [IntKind.wrap_u64]; omega
  go_enter Tryd.func3, Tryd.ntmps3
  go_wp2_with (first | (go_at_call 8; refine (awake_any _ hk0.table).mono ?_; rintro e w1 ⟨rfl, hb1⟩; have hk1 := hk0.next hb1; obtain ⟨hc1, hf1⟩ := bcell hb1; have hz1 := hk1.size) | (go_at_call 9; refine (put_fit _ k n c v m k0 k1 n0 n1 c0 c1 v0 v1 hk1.table).mono ?_; rintro e w2 ⟨rfl, hb2⟩; have hk2 := hk1.next hb2; obtain ⟨hc2, hf2⟩ := bcell hb2; have hz2 := hk2.size) | (go_at_call 11; refine (fields_any _ k n m c v).mono ?_; rintro e w3 ⟨rfl, hb3⟩; have hk3 := hk2.next hb3; obtain ⟨hc3, hf3⟩ := bcell hb3; have hz3 := hk3.size) | (go_at_call 10; refine (fit_yes _ k n _ c v k0 k1 n0 n1 m0 m1 c0 c1 v0 v1).mono ?_; rintro e w4 ⟨rfl, hb4⟩; have hk4 := hk3.next hb4; obtain ⟨hc4, hf4⟩ := bcell hb4; have hz4 := hk4.size))
  have hw4 : w4.drew.cell? ⟨w.heap.size, 0, none⟩ = some (.int .i64 k) ∧ w4.drew.cell? ⟨w.heap.size, 1, none⟩ = some (.int .i64 n) ∧ w4.drew.cell? ⟨w.heap.size, 2, none⟩ = some (.bool m) ∧ w4.drew.cell? ⟨w.heap.size, 3, none⟩ = some (.int .i64 c) ∧ w4.drew.cell? ⟨w.heap.size, 4, none⟩ = some (.int .i64 v) ∧ Kept w w4.drew w.heap.size := by
    have hs : (w.alloc (.cells #[.int .i64 k, .int .i64 n, .bool m, .int .i64 c, .int .i64 v] 23)).cell? ⟨w.heap.size, 0, none⟩ = some (.int .i64 k) ∧ (w.alloc (.cells #[.int .i64 k, .int .i64 n, .bool m, .int .i64 c, .int .i64 v] 23)).cell? ⟨w.heap.size, 1, none⟩ = some (.int .i64 n) ∧ (w.alloc (.cells #[.int .i64 k, .int .i64 n, .bool m, .int .i64 c, .int .i64 v] 23)).cell? ⟨w.heap.size, 2, none⟩ = some (.bool m) ∧ (w.alloc (.cells #[.int .i64 k, .int .i64 n, .bool m, .int .i64 c, .int .i64 v] 23)).cell? ⟨w.heap.size, 3, none⟩ = some (.int .i64 c) ∧ (w.alloc (.cells #[.int .i64 k, .int .i64 n, .bool m, .int .i64 c, .int .i64 v] 23)).cell? ⟨w.heap.size, 4, none⟩ = some (.int .i64 v) ∧ Kept w (w.alloc (.cells #[.int .i64 k, .int .i64 n, .bool m, .int .i64 c, .int .i64 v] 23)) w.heap.size := ⟨by go_simp, by go_simp, by go_simp, by go_simp, by go_simp, hk0⟩
    exact keepS (keepS (keepS (keepS (keepS hs hb1) hb2) hb3) hb4) (Below.refl _ _).drew
  clear hc1 hf1 hc2 hf2 hc3 hf3 hc4 hf4 hz1 hz2 hz3 hz4 hb1 hb2 hb3 hb4 hk0 hk1 hk2 hk3 hk4
  go_region_held3 (fun w' => w'.cell? ⟨w.heap.size, 0, none⟩ = some (.int .i64 k) ∧ w'.cell? ⟨w.heap.size, 1, none⟩ = some (.int .i64 n) ∧ w'.cell? ⟨w.heap.size, 2, none⟩ = some (.bool m) ∧ w'.cell? ⟨w.heap.size, 3, none⟩ = some (.int .i64 c) ∧ w'.cell? ⟨w.heap.size, 4, none⟩ = some (.int .i64 v) ∧ Kept w w' w.heap.size)
    (first | exact hw4 | (refine keepS ?_ hb8; assumption) | (refine keepS ?_ hb7; assumption) | (refine keepS ?_ hb6; assumption) | (refine keepS ?_ hb5; assumption))
    (first | (go_at_call 11; refine (fields_any _ k n m c v).mono ?_; rintro e w5 ⟨rfl, hb5⟩) | (go_at_call 12; refine (number_any _ k n _ c v k0 k1 n0 n1 m0 m1 c0 c1 v0 v1).mono ?_; rintro e w6 ⟨rfl, hb6⟩) | (go_at_call 13; refine (get_num _ k n c v m k0 k1 n0 n1 c0 c1 v0 v1 ?_).mono ?_; (go_split_ands; refine Kept.table (W := w) (b := w.heap.size) ?_; assumption); rintro e w7 ⟨rfl, hb7⟩) | (go_at_call 14; refine (right_num _ k n c v m k0 k1 n0 n1 c0 c1 v0 v1 ?_).mono ?_; (go_split_ands; refine Kept.table (W := w) (b := w.heap.size) ?_; assumption); rintro e w8 ⟨rfl, hb8⟩))
  go_wp2
  go_returns
  refine ⟨rfl, ?_⟩
  have hk8 : Kept w w8 w.heap.size := by go_split_ands; assumption
  exact hk8.below

/-- WHAT THE LAW ANSWERS, at every word. -/
theorem puts_any (w : World) (k n c v : Int) (m : Bool) (kr : -9223372036854775808 ≤ k ∧ k ≤ 9223372036854775807) (nr : -9223372036854775808 ≤ n ∧ n ≤ 9223372036854775807) (cr : -9223372036854775808 ≤ c ∧ c ≤ 9223372036854775807) (vr : -9223372036854775808 ≤ v ∧ v ≤ 9223372036854775807) (ht : Table w) :
    Calls Tryd.prog 3 #[.agg #[.int .i64 k, .int .i64 n, .bool m, .int .i64 c, .int .i64 v]] w fun e w' => e = .returned (.bool true) ∧ Below w.heap.size w w' := by
  by_cases h : 0 ≤ k ∧ k < 1024 ∧ 0 ≤ n ∧ n < 512 ∧ 0 ≤ c ∧ c < 32 ∧ 0 ≤ v ∧ v < 262144
  · obtain ⟨k0, k1, n0, n1, c0, c1, v0, v1⟩ := h
    exact puts_fit w k n c v m k0 k1 n0 n1 c0 c1 v0 v1 ht
  · exact puts_unfit w k n c v m kr nr cr vr h ht

end Go.Proofs.YtcblbbenaeiecaaDoor.word
