/- desc.Get: the descriptor of any bits; the two highest ones are gone over. -/
import Derived.Test.YtckplpojlhdmhaaDoorDPut
import Derived.StillTailTactics
namespace Go.Proofs.YtckplpojlhdmhaaDoor.desc
open Go.RowKit

theorem wi1 : IntKind.i64.wrap 1 = 1 := by decide
theorem wi2 : IntKind.i64.wrap 2 = 2 := by decide
theorem wi3 : IntKind.i64.wrap 3 = 3 := by decide
theorem wi4 : IntKind.i64.wrap 4 = 4 := by decide
theorem wi5 : IntKind.i64.wrap 5 = 5 := by decide
theorem wi6 : IntKind.i64.wrap 6 = 6 := by decide
theorem wi7 : IntKind.i64.wrap 7 = 7 := by decide
theorem wi9 : IntKind.i64.wrap 9 = 9 := by decide
theorem wi10 : IntKind.i64.wrap 10 = 10 := by decide
theorem wi12 : IntKind.i64.wrap 12 = 12 := by decide
theorem wi18 : IntKind.i64.wrap 18 = 18 := by decide
theorem wu1 : IntKind.u64.wrap 1 = 1 := by decide
theorem wu2 : IntKind.u64.wrap 2 = 2 := by decide
theorem wu4 : IntKind.u64.wrap 4 = 4 := by decide
theorem wu7 : IntKind.u64.wrap 7 = 7 := by decide
theorem wu8 : IntKind.u64.wrap 8 = 8 := by decide
theorem wu511 : IntKind.u64.wrap 511 = 511 := by decide
theorem wu512 : IntKind.u64.wrap 512 = 512 := by decide
theorem wu1023 : IntKind.u64.wrap 1023 = 1023 := by decide
theorem wu1024 : IntKind.u64.wrap 1024 = 1024 := by decide
theorem wu4095 : IntKind.u64.wrap 4095 = 4095 := by decide
theorem wu4096 : IntKind.u64.wrap 4096 = 4096 := by decide
theorem wu262143 : IntKind.u64.wrap 262143 = 262143 := by decide
theorem wu262144 : IntKind.u64.wrap 262144 = 262144 := by decide
attribute [local go_sem] wi1 wi2 wi3 wi4 wi5 wi6 wi7 wi9 wi10 wi12 wi18 wu1 wu2 wu4 wu7 wu8 wu511 wu512 wu1023 wu1024 wu4095 wu4096 wu262143 wu262144

/-- The row of numbers that is filled from round to round, the table of beginnings beside it; nothing that was there has changed. -/
structure Fill (W w : World) (b B : Nat) (r0 r1 r2 r3 r4 r5 r6 : Int) : Prop where
  begs : Begs w B
  c0 : w.cell? ⟨b, 0, none⟩ = some (.int .i64 r0)
  c1 : w.cell? ⟨b, 1, none⟩ = some (.int .i64 r1)
  c2 : w.cell? ⟨b, 2, none⟩ = some (.int .i64 r2)
  c3 : w.cell? ⟨b, 3, none⟩ = some (.int .i64 r3)
  c4 : w.cell? ⟨b, 4, none⟩ = some (.int .i64 r4)
  c5 : w.cell? ⟨b, 5, none⟩ = some (.int .i64 r5)
  c6 : w.cell? ⟨b, 6, none⟩ = some (.int .i64 r6)
  free : ∀ o, w.frozen? ⟨b, o, none⟩ = false
  lt : b < w.heap.size
  base : W.heap.size ≤ b
  ne : B ≠ b
  res : w.cell? ⟨W.heap.size, 0, none⟩ = some (.int .i64 0) ∧ w.cell? ⟨W.heap.size, 1, none⟩ = some (.int .i64 0) ∧ w.cell? ⟨W.heap.size, 2, none⟩ = some (.int .i64 0) ∧ w.cell? ⟨W.heap.size, 3, none⟩ = some (.int .i64 0) ∧ w.cell? ⟨W.heap.size, 4, none⟩ = some (.bool false) ∧ w.cell? ⟨W.heap.size, 5, none⟩ = some (.int .i64 0) ∧ w.cell? ⟨W.heap.size, 6, none⟩ = some (.int .i64 0) ∧ (∀ o, w.frozen? ⟨W.heap.size, o, none⟩ = false) ∧ W.heap.size < w.heap.size
  up : W.heap.size ≠ b
  below : Below W.heap.size W w
theorem cell_away {w : World} {b d : Nat} (hd : d ≠ b) (i : Nat) (z : Value) (o : Nat) : (w.setCell ⟨b, i, none⟩ z).cell? ⟨d, o, none⟩ = w.cell? ⟨d, o, none⟩ :=
  World.cell?_of_block (Below.heap_setCell _ _ _ _ hd)
theorem Begs.away {w : World} {B b : Nat} (h : Begs w B) (hd : B ≠ b) (i : Nat) (z : Value) : Begs (w.setCell ⟨b, i, none⟩ z) B :=
  ⟨(cell_away hd i z 0).trans h.c0, (cell_away hd i z 1).trans h.c1, (cell_away hd i z 2).trans h.c2, (cell_away hd i z 3).trans h.c3, (cell_away hd i z 4).trans h.c4, (cell_away hd i z 5).trans h.c5, (cell_away hd i z 6).trans h.c6, (cell_away hd i z 7).trans h.c7, by simpa using h.size⟩
theorem Begs.drew {w : World} {B : Nat} (h : Begs w B) : Begs w.drew B := ⟨h.c0, h.c1, h.c2, h.c3, h.c4, h.c5, h.c6, h.c7, h.size⟩
theorem Fill.drew {W w : World} {b B : Nat} {r0 r1 r2 r3 r4 r5 r6 : Int} (h : Fill W w b B r0 r1 r2 r3 r4 r5 r6) : Fill W w.drew b B r0 r1 r2 r3 r4 r5 r6 :=
  ⟨h.begs.drew, h.c0, h.c1, h.c2, h.c3, h.c4, h.c5, h.c6, h.free, h.lt, h.base, h.ne, h.res, h.up, h.below.drew⟩
theorem Fill.put0 {W w : World} {b B : Nat} {r0 r1 r2 r3 r4 r5 r6 : Int} (h : Fill W w b B r0 r1 r2 r3 r4 r5 r6) (z : Int) : Fill W (w.setCell ⟨b, 0, none⟩ (.int .i64 z)) b B z r1 r2 r3 r4 r5 r6 := by
  obtain ⟨hg, k0, k1, k2, k3, k4, k5, k6, hf, hl, hba, hne, ⟨q0, q1, q2, q3, q4, q5, q6, qf, ql⟩, hup, hb⟩ := h
  refine ⟨hg.away hne _ _, by go_simp, by go_simp, by go_simp, by go_simp, by go_simp, by go_simp, by go_simp, fun o => (World.frozen?_setCell _ _ _ _).trans (hf o), by simpa using hl, hba, hne, ⟨(cell_away hup _ _ _).trans q0, (cell_away hup _ _ _).trans q1, (cell_away hup _ _ _).trans q2, (cell_away hup _ _ _).trans q3, (cell_away hup _ _ _).trans q4, (cell_away hup _ _ _).trans q5, (cell_away hup _ _ _).trans q6, fun o => (World.frozen?_setCell _ _ _ _).trans (qf o), by simpa using ql⟩, hup, hb.setCell hba _⟩
theorem Fill.put1 {W w : World} {b B : Nat} {r0 r1 r2 r3 r4 r5 r6 : Int} (h : Fill W w b B r0 r1 r2 r3 r4 r5 r6) (z : Int) : Fill W (w.setCell ⟨b, 1, none⟩ (.int .i64 z)) b B r0 z r2 r3 r4 r5 r6 := by
  obtain ⟨hg, k0, k1, k2, k3, k4, k5, k6, hf, hl, hba, hne, ⟨q0, q1, q2, q3, q4, q5, q6, qf, ql⟩, hup, hb⟩ := h
  refine ⟨hg.away hne _ _, by go_simp, by go_simp, by go_simp, by go_simp, by go_simp, by go_simp, by go_simp, fun o => (World.frozen?_setCell _ _ _ _).trans (hf o), by simpa using hl, hba, hne, ⟨(cell_away hup _ _ _).trans q0, (cell_away hup _ _ _).trans q1, (cell_away hup _ _ _).trans q2, (cell_away hup _ _ _).trans q3, (cell_away hup _ _ _).trans q4, (cell_away hup _ _ _).trans q5, (cell_away hup _ _ _).trans q6, fun o => (World.frozen?_setCell _ _ _ _).trans (qf o), by simpa using ql⟩, hup, hb.setCell hba _⟩
theorem Fill.put2 {W w : World} {b B : Nat} {r0 r1 r2 r3 r4 r5 r6 : Int} (h : Fill W w b B r0 r1 r2 r3 r4 r5 r6) (z : Int) : Fill W (w.setCell ⟨b, 2, none⟩ (.int .i64 z)) b B r0 r1 z r3 r4 r5 r6 := by
  obtain ⟨hg, k0, k1, k2, k3, k4, k5, k6, hf, hl, hba, hne, ⟨q0, q1, q2, q3, q4, q5, q6, qf, ql⟩, hup, hb⟩ := h
  refine ⟨hg.away hne _ _, by go_simp, by go_simp, by go_simp, by go_simp, by go_simp, by go_simp, by go_simp, fun o => (World.frozen?_setCell _ _ _ _).trans (hf o), by simpa using hl, hba, hne, ⟨(cell_away hup _ _ _).trans q0, (cell_away hup _ _ _).trans q1, (cell_away hup _ _ _).trans q2, (cell_away hup _ _ _).trans q3, (cell_away hup _ _ _).trans q4, (cell_away hup _ _ _).trans q5, (cell_away hup _ _ _).trans q6, fun o => (World.frozen?_setCell _ _ _ _).trans (qf o), by simpa using ql⟩, hup, hb.setCell hba _⟩
theorem Fill.put3 {W w : World} {b B : Nat} {r0 r1 r2 r3 r4 r5 r6 : Int} (h : Fill W w b B r0 r1 r2 r3 r4 r5 r6) (z : Int) : Fill W (w.setCell ⟨b, 3, none⟩ (.int .i64 z)) b B r0 r1 r2 z r4 r5 r6 := by
  obtain ⟨hg, k0, k1, k2, k3, k4, k5, k6, hf, hl, hba, hne, ⟨q0, q1, q2, q3, q4, q5, q6, qf, ql⟩, hup, hb⟩ := h
  refine ⟨hg.away hne _ _, by go_simp, by go_simp, by go_simp, by go_simp, by go_simp, by go_simp, by go_simp, fun o => (World.frozen?_setCell _ _ _ _).trans (hf o), by simpa using hl, hba, hne, ⟨(cell_away hup _ _ _).trans q0, (cell_away hup _ _ _).trans q1, (cell_away hup _ _ _).trans q2, (cell_away hup _ _ _).trans q3, (cell_away hup _ _ _).trans q4, (cell_away hup _ _ _).trans q5, (cell_away hup _ _ _).trans q6, fun o => (World.frozen?_setCell _ _ _ _).trans (qf o), by simpa using ql⟩, hup, hb.setCell hba _⟩
theorem Fill.put4 {W w : World} {b B : Nat} {r0 r1 r2 r3 r4 r5 r6 : Int} (h : Fill W w b B r0 r1 r2 r3 r4 r5 r6) (z : Int) : Fill W (w.setCell ⟨b, 4, none⟩ (.int .i64 z)) b B r0 r1 r2 r3 z r5 r6 := by
  obtain ⟨hg, k0, k1, k2, k3, k4, k5, k6, hf, hl, hba, hne, ⟨q0, q1, q2, q3, q4, q5, q6, qf, ql⟩, hup, hb⟩ := h
  refine ⟨hg.away hne _ _, by go_simp, by go_simp, by go_simp, by go_simp, by go_simp, by go_simp, by go_simp, fun o => (World.frozen?_setCell _ _ _ _).trans (hf o), by simpa using hl, hba, hne, ⟨(cell_away hup _ _ _).trans q0, (cell_away hup _ _ _).trans q1, (cell_away hup _ _ _).trans q2, (cell_away hup _ _ _).trans q3, (cell_away hup _ _ _).trans q4, (cell_away hup _ _ _).trans q5, (cell_away hup _ _ _).trans q6, fun o => (World.frozen?_setCell _ _ _ _).trans (qf o), by simpa using ql⟩, hup, hb.setCell hba _⟩
theorem Fill.put5 {W w : World} {b B : Nat} {r0 r1 r2 r3 r4 r5 r6 : Int} (h : Fill W w b B r0 r1 r2 r3 r4 r5 r6) (z : Int) : Fill W (w.setCell ⟨b, 5, none⟩ (.int .i64 z)) b B r0 r1 r2 r3 r4 z r6 := by
  obtain ⟨hg, k0, k1, k2, k3, k4, k5, k6, hf, hl, hba, hne, ⟨q0, q1, q2, q3, q4, q5, q6, qf, ql⟩, hup, hb⟩ := h
  refine ⟨hg.away hne _ _, by go_simp, by go_simp, by go_simp, by go_simp, by go_simp, by go_simp, by go_simp, fun o => (World.frozen?_setCell _ _ _ _).trans (hf o), by simpa using hl, hba, hne, ⟨(cell_away hup _ _ _).trans q0, (cell_away hup _ _ _).trans q1, (cell_away hup _ _ _).trans q2, (cell_away hup _ _ _).trans q3, (cell_away hup _ _ _).trans q4, (cell_away hup _ _ _).trans q5, (cell_away hup _ _ _).trans q6, fun o => (World.frozen?_setCell _ _ _ _).trans (qf o), by simpa using ql⟩, hup, hb.setCell hba _⟩
theorem Fill.put6 {W w : World} {b B : Nat} {r0 r1 r2 r3 r4 r5 r6 : Int} (h : Fill W w b B r0 r1 r2 r3 r4 r5 r6) (z : Int) : Fill W (w.setCell ⟨b, 6, none⟩ (.int .i64 z)) b B r0 r1 r2 r3 r4 r5 z := by
  obtain ⟨hg, k0, k1, k2, k3, k4, k5, k6, hf, hl, hba, hne, ⟨q0, q1, q2, q3, q4, q5, q6, qf, ql⟩, hup, hb⟩ := h
  refine ⟨hg.away hne _ _, by go_simp, by go_simp, by go_simp, by go_simp, by go_simp, by go_simp, by go_simp, fun o => (World.frozen?_setCell _ _ _ _).trans (hf o), by simpa using hl, hba, hne, ⟨(cell_away hup _ _ _).trans q0, (cell_away hup _ _ _).trans q1, (cell_away hup _ _ _).trans q2, (cell_away hup _ _ _).trans q3, (cell_away hup _ _ _).trans q4, (cell_away hup _ _ _).trans q5, (cell_away hup _ _ _).trans q6, fun o => (World.frozen?_setCell _ _ _ _).trans (qf o), by simpa using ql⟩, hup, hb.setCell hba _⟩

set_option maxRecDepth 100000 in
set_option maxHeartbeats 4000000 in
theorem get_raw (w : World) (y : Int) (y0 : 0 ≤ y) (y1 : y < 18446744073709551616) (ht : Table w) :
    Calls Tryd.prog 12 #[.int .u64 y] w fun e w' => e = .returned (.agg #[.int .i64 (y % 4096), .int .i64 (y / 4096 % 512), .int .i64 (y / 2097152 % 262144), .int .i64 (y / 549755813888 % 512), .bool (y / 281474976710656 % 2 == 1), .int .i64 (y / 562949953421312 % 8), .int .i64 (y / 4503599627370496 % 1024)]) ∧ Below w.heap.size w w' := by
  have e0 : bits .and .u64 y 4095 = y % 4096 := word.and_mask 12 y y0 y1 (by omega)
  have e1 : bits .and .u64 (y / 4096) 511 = y / 4096 % 512 := word.and_mask 9 _ (by omega) (by omega) (by omega)
  have e2 : bits .and .u64 (y / 2097152) 262143 = y / 2097152 % 262144 := word.and_mask 18 _ (by omega) (by omega) (by omega)
  have e3 : bits .and .u64 (y / 549755813888) 511 = y / 549755813888 % 512 := word.and_mask 9 _ (by omega) (by omega) (by omega)
  have e4 : bits .and .u64 (y / 281474976710656) 1 = y / 281474976710656 % 2 := word.and_mask 1 _ (by omega) (by omega) (by omega)
  have e5 : bits .and .u64 (y / 562949953421312) 7 = y / 562949953421312 % 8 := word.and_mask 3 _ (by omega) (by omega) (by omega)
  have e6 : bits .and .u64 (y / 4503599627370496) 1023 = y / 4503599627370496 % 1024 := word.and_mask 10 _ (by omega) (by omega) (by omega)
  have ht0 := (ht.alloc (.cells #[.int .i64 0, .int .i64 0, .int .i64 0, .int .i64 0, .bool false, .int .i64 0, .int .i64 0] 23)).alloc (.cells #[.int .i64 0, .int .i64 0, .int .i64 0, .int .i64 0, .int .i64 0, .int .i64 0, .int .i64 0] 47)
  go_enter Tryd.func12, Tryd.ntmps12
  go_wp2_with (first | (go_at_call 19; refine (begins_any _ ht0).mono ?_; rintro e w1 ⟨rfl, hg1, hb1⟩))
  have hg3 : Begs w1 (w.heap.size + 1 + 1 + 1) := by simpa using hg1
  obtain ⟨hc1, hf1⟩ := bcell hb1
  have hz1 : w.heap.size < w1.heap.size := by have := hb1.size; simp at this; omega
  have hy1 : w.heap.size + 1 < w1.heap.size := by have := hb1.size; simp at this; omega
  have h0 : Fill w w1 (w.heap.size + 1) (w.heap.size + 1 + 1 + 1) 0 0 0 0 0 0 0 :=
    ⟨hg3, by go_simp, by go_simp, by go_simp, by go_simp, by go_simp, by go_simp, by go_simp, fun o => (hf1 _ _ (by simp)).trans (by go_simp), hy1, by omega, by omega, ⟨by go_simp, by go_simp, by go_simp, by go_simp, by go_simp, by go_simp, by go_simp, fun o => (hf1 _ _ (by simp; omega)).trans (by go_simp), hz1⟩, by omega, (((Below.refl _ _).alloc (Nat.le_refl _) _).alloc (by simp) _).trans (hb1.mono (by simp; omega))⟩
  clear hc1 hf1 hz1 hy1 hb1 hg1 hg3 ht0
  refine wp_loop_rounds 8 ?_
  obtain ⟨⟨c0, c1, c2, c3, c4, c5, c6, c7, hz2⟩, k0, k1, k2, k3, k4, k5, k6, hfr, hlt, -, -, -, -, -⟩ := id h0
  rw [rounds_succ]
  go_wp2
  go_still_tail 22, (by kernel_rfl)
  go_wp2
  have h1 := (h0.put0 (y % 4096)).drew
  generalize (w1.setCell ⟨w.heap.size + 1, 0, none⟩ (.int .i64 (y % 4096))).drew = u1 at h1 ⊢
  clear h0 c0 c1 c2 c3 c4 c5 c6 c7 hz2 k0 k1 k2 k3 k4 k5 k6 hfr hlt
  obtain ⟨⟨c0, c1, c2, c3, c4, c5, c6, c7, hz2⟩, k0, k1, k2, k3, k4, k5, k6, hfr, hlt, -, -, -, -, -⟩ := id h1
  rw [rounds_succ]
  go_wp2
  go_still_tail 22, (by kernel_rfl)
  go_wp2
  have h2 := (h1.put1 (y / 4096 % 512)).drew
  generalize (u1.setCell ⟨w.heap.size + 1, 1, none⟩ (.int .i64 (y / 4096 % 512))).drew = u2 at h2 ⊢
  clear h1 c0 c1 c2 c3 c4 c5 c6 c7 hz2 k0 k1 k2 k3 k4 k5 k6 hfr hlt
  obtain ⟨⟨c0, c1, c2, c3, c4, c5, c6, c7, hz2⟩, k0, k1, k2, k3, k4, k5, k6, hfr, hlt, -, -, -, -, -⟩ := id h2
  rw [rounds_succ]
  go_wp2
  go_still_tail 22, (by kernel_rfl)
  go_wp2
  have h3 := (h2.put2 (y / 2097152 % 262144)).drew
  generalize (u2.setCell ⟨w.heap.size + 1, 2, none⟩ (.int .i64 (y / 2097152 % 262144))).drew = u3 at h3 ⊢
  clear h2 c0 c1 c2 c3 c4 c5 c6 c7 hz2 k0 k1 k2 k3 k4 k5 k6 hfr hlt
  obtain ⟨⟨c0, c1, c2, c3, c4, c5, c6, c7, hz2⟩, k0, k1, k2, k3, k4, k5, k6, hfr, hlt, -, -, -, -, -⟩ := id h3
  rw [rounds_succ]
  go_wp2
  go_still_tail 22, (by kernel_rfl)
  go_wp2
  have h4 := (h3.put3 (y / 549755813888 % 512)).drew
  generalize (u3.setCell ⟨w.heap.size + 1, 3, none⟩ (.int .i64 (y / 549755813888 % 512))).drew = u4 at h4 ⊢
  clear h3 c0 c1 c2 c3 c4 c5 c6 c7 hz2 k0 k1 k2 k3 k4 k5 k6 hfr hlt
  obtain ⟨⟨c0, c1, c2, c3, c4, c5, c6, c7, hz2⟩, k0, k1, k2, k3, k4, k5, k6, hfr, hlt, -, -, -, -, -⟩ := id h4
  rw [rounds_succ]
  go_wp2
  go_still_tail 22, (by kernel_rfl)
  go_wp2
  have h5 := (h4.put4 (y / 281474976710656 % 2)).drew
  generalize (u4.setCell ⟨w.heap.size + 1, 4, none⟩ (.int .i64 (y / 281474976710656 % 2))).drew = u5 at h5 ⊢
  clear h4 c0 c1 c2 c3 c4 c5 c6 c7 hz2 k0 k1 k2 k3 k4 k5 k6 hfr hlt
  obtain ⟨⟨c0, c1, c2, c3, c4, c5, c6, c7, hz2⟩, k0, k1, k2, k3, k4, k5, k6, hfr, hlt, -, -, -, -, -⟩ := id h5
  rw [rounds_succ]
  go_wp2
  go_still_tail 22, (by kernel_rfl)
  go_wp2
  have h6 := (h5.put5 (y / 562949953421312 % 8)).drew
  generalize (u5.setCell ⟨w.heap.size + 1, 5, none⟩ (.int .i64 (y / 562949953421312 % 8))).drew = u6 at h6 ⊢
  clear h5 c0 c1 c2 c3 c4 c5 c6 c7 hz2 k0 k1 k2 k3 k4 k5 k6 hfr hlt
  obtain ⟨⟨c0, c1, c2, c3, c4, c5, c6, c7, hz2⟩, k0, k1, k2, k3, k4, k5, k6, hfr, hlt, -, -, -, -, -⟩ := id h6
  rw [rounds_succ]
  go_wp2
  go_still_tail 22, (by kernel_rfl)
  go_wp2
  have h7 := (h6.put6 (y / 4503599627370496 % 1024)).drew
  generalize (u6.setCell ⟨w.heap.size + 1, 6, none⟩ (.int .i64 (y / 4503599627370496 % 1024))).drew = u7 at h7 ⊢
  clear h6 c0 c1 c2 c3 c4 c5 c6 c7 hz2 k0 k1 k2 k3 k4 k5 k6 hfr hlt
  obtain ⟨-, k0, k1, k2, k3, k4, k5, k6, hfr, hlt, -, -, ⟨q0, q1, q2, q3, q4, q5, q6, qf, ql⟩, -, hb⟩ := h7
  rw [rounds_succ]
  go_wp2
  refine bodyPost_ret (v := .agg #[.int .i64 (y % 4096), .int .i64 (y / 4096 % 512), .int .i64 (y / 2097152 % 262144), .int .i64 (y / 549755813888 % 512), .bool (y / 281474976710656 % 2 == 1), .int .i64 (y / 562949953421312 % 8), .int .i64 (y / 4503599627370496 % 1024)]) (by simp [results, Tryd.results12, go_sem, q0, q1, q2, q3, q4, q5, q6]) rfl ⟨rfl, by go_grown⟩
end Go.Proofs.YtckplpojlhdmhaaDoor.desc
