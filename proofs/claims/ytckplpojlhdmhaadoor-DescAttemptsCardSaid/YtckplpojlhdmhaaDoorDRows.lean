/- Get of a descriptor's own bits, Put of what Get makes; the law's example; rows of seven cells carried from world to world. -/
import Derived.Test.YtckplpojlhdmhaaDoorDSmall
namespace Go.Proofs.YtckplpojlhdmhaaDoor.desc
open Go.RowKit

/-- The descriptor of any bits. -/
theorem get_any (w : World) (y : Int) (y0 : 0 ≤ y) (y1 : y < 18446744073709551616) (ht : Table w) :
    Calls Tryd.prog 12 #[.int .u64 y] w fun e w' => e = .returned (.agg #[.int .i64 (y % 4096), .int .i64 (fa y), .int .i64 (fv y), .int .i64 (fn y), .bool (fm y), .int .i64 (fs y), .int .i64 (fx y)]) ∧ Below w.heap.size w w' :=
  get_raw w y y0 y1 ht

/-- Get of a descriptor's own bits is that descriptor. -/
theorem get_num (w : World) (t a v n : Int) (m : Bool) (s x : Int) (t0 : 0 ≤ t) (t1 : t < 4096) (a0 : 0 ≤ a) (a1 : a < 512) (v0 : 0 ≤ v) (v1 : v < 262144) (n0 : 0 ≤ n) (n1 : n < 512) (s0 : 0 ≤ s) (s1 : s < 8) (x0 : 0 ≤ x) (x1 : x < 1024) (ht : Table w) :
    Calls Tryd.prog 12 #[.int .u64 (num t a v n (mk m) s x)] w fun e w' => e = .returned (.agg #[.int .i64 t, .int .i64 a, .int .i64 v, .int .i64 n, .bool m, .int .i64 s, .int .i64 x]) ∧ Below w.heap.size w w' := by
  obtain ⟨m0, m1⟩ := mark_range m
  obtain ⟨y0, y1⟩ := num_lt t a v n (mk m) s x t0 t1 a0 a1 v0 v1 n0 n1 m0 m1 s0 s1 x0 x1
  obtain ⟨e0, e1, e2, e3, e4, e5, e6⟩ := get_of_num t a v n s x m t0 t1 a0 a1 v0 v1 n0 n1 s0 s1 x0 x1
  exact (get_any w _ y0 (by omega) ht).mono fun e w' ⟨he, hb⟩ => ⟨by rw [he, e0, e1, e2, e3, e4, e5, e6], hb⟩

/-- Put of what Get makes of any bits. -/
theorem put_get (w : World) (y : Int) (ht : Table w) :
    Calls Tryd.prog 9 #[.agg #[.int .i64 (y % 4096), .int .i64 (fa y), .int .i64 (fv y), .int .i64 (fn y), .bool (fm y), .int .i64 (fs y), .int .i64 (fx y)]] w fun e w' => e = .returned (.tuple #[.int .u64 (y % 4611686018427387904), .int .i64 0]) ∧ Below w.heap.size w w' := by
  have h := num_get y
  exact (put_fit w (y % 4096) (fa y) (fv y) (fn y) (fs y) (fx y) (fm y) (by omega) (by omega) (fa_r y).1 (fa_r y).2 (fv_r y).1 (fv_r y).2 (fn_r y).1 (fn_r y).2 (fs_r y).1 (fs_r y).2 (fx_r y).1 (fx_r y).2 ht).mono fun e w' ⟨he, hb⟩ => ⟨by rw [he, h], hb⟩

theorem put_awake (w : World) (ht : Table w) :
    Calls Tryd.prog 9 #[.agg #[.int .i64 1, .int .i64 0, .int .i64 0, .int .i64 0, .bool false, .int .i64 1, .int .i64 0]] w fun e w' => e = .returned (.tuple #[.int .u64 562949953421313, .int .i64 0]) ∧ Below w.heap.size w w' :=
  (put_fit w 1 0 0 0 1 0 false (by omega) (by omega) (by omega) (by omega) (by omega) (by omega) (by omega) (by omega) (by omega) (by omega) (by omega) (by omega) ht).mono fun _ _ ⟨he, hb⟩ => ⟨he.trans (tuple2 (u64_eq (by decide)) rfl), hb⟩
theorem get_awake (w : World) (ht : Table w) :
    Calls Tryd.prog 12 #[.int .u64 562949953421313] w fun e w' => e = .returned (.agg #[.int .i64 1, .int .i64 0, .int .i64 0, .int .i64 0, .bool false, .int .i64 1, .int .i64 0]) ∧ Below w.heap.size w w' := by
  have h := get_num w 1 0 0 0 false 1 0 (by omega) (by omega) (by omega) (by omega) (by omega) (by omega) (by omega) (by omega) (by omega) (by omega) (by omega) (by omega) ht
  have e : num 1 0 0 0 (mk false) 1 0 = 562949953421313 := by decide
  rw [e] at h
  exact h
theorem pend_awake (w : World) :
    Calls Tryd.prog 16 #[.agg #[.int .i64 1, .int .i64 0, .int .i64 0, .int .i64 0, .bool false, .int .i64 1, .int .i64 0]] w fun e w' => e = .returned (.bool true) ∧ Below w.heap.size w w' :=
  (pending_any w 1 0 0 0 false 1 0).mono fun _ _ ⟨he, hb⟩ => ⟨he.trans (ret_bool (by decide)), hb⟩

set_option maxHeartbeats 400000 in
theorem awake_any (w : World) (ht : Table w) :
    Calls Tryd.prog 8 #[] w fun e w' => e = .returned (.bool true) ∧ Below w.heap.size w w' := by
  go_enter Tryd.func8, Tryd.ntmps8
  go_wp2_with (first | (go_at_call 9; refine (put_awake _ ht).mono ?_; rintro e w1 ⟨rfl, hb1⟩; have ht1 := ht.below hb1) | (go_at_call 12; refine (get_awake _ ht1).mono ?_; rintro e w2 ⟨rfl, hb2⟩) | (go_at_call 16; refine (pend_awake _).mono ?_; rintro e w3 ⟨rfl, hb3⟩))
  go_returns
  exact ⟨rfl, (hb1.trans (hb2.mono hb1.size)).trans (hb3.mono (Nat.le_trans hb1.size hb2.size))⟩

/-- Seven cells of a block: a descriptor that lies there. -/
structure Row7 (w : World) (b : Nat) (t a v n : Int) (m : Bool) (s x : Int) : Prop where
  c0 : w.cell? ⟨b, 0, none⟩ = some (.int .i64 t)
  c1 : w.cell? ⟨b, 1, none⟩ = some (.int .i64 a)
  c2 : w.cell? ⟨b, 2, none⟩ = some (.int .i64 v)
  c3 : w.cell? ⟨b, 3, none⟩ = some (.int .i64 n)
  c4 : w.cell? ⟨b, 4, none⟩ = some (.bool m)
  c5 : w.cell? ⟨b, 5, none⟩ = some (.int .i64 s)
  c6 : w.cell? ⟨b, 6, none⟩ = some (.int .i64 x)
  size : b < w.heap.size
theorem Row7.below {w w' : World} {b : Nat} {t a v n : Int} {m : Bool} {s x : Int} (h : Row7 w b t a v n m s x) (hb : Below w.heap.size w w') : Row7 w' b t a v n m s x :=
  ⟨(hb.cell h.size).trans h.c0, (hb.cell h.size).trans h.c1, (hb.cell h.size).trans h.c2, (hb.cell h.size).trans h.c3, (hb.cell h.size).trans h.c4, (hb.cell h.size).trans h.c5, (hb.cell h.size).trans h.c6, Nat.lt_of_lt_of_le h.size hb.size⟩
theorem Row7.alloc {w : World} {b : Nat} {t a v n : Int} {m : Bool} {s x : Int} (h : Row7 w b t a v n m s x) (o : Obj) : Row7 (w.alloc o) b t a v n m s x := h.below ((Below.refl _ _).alloc (Nat.le_refl _) o)
theorem Row7.drew {w : World} {b : Nat} {t a v n : Int} {m : Bool} {s x : Int} (h : Row7 w b t a v n m s x) : Row7 w.drew b t a v n m s x := ⟨h.c0, h.c1, h.c2, h.c3, h.c4, h.c5, h.c6, h.size⟩
theorem Row7.new (w : World) (t a v n : Int) (m : Bool) (s x : Int) : Row7 (w.alloc (.cells #[.int .i64 t, .int .i64 a, .int .i64 v, .int .i64 n, .bool m, .int .i64 s, .int .i64 x] 23)) w.heap.size t a v n m s x :=
  ⟨by go_simp, by go_simp, by go_simp, by go_simp, by go_simp, by go_simp, by go_simp, by simp⟩

/-- Nothing that was there has changed; the table stands. -/
structure Old (W w : World) : Prop where
  below : Below W.heap.size W w
  table : Table w
theorem Old.refl {W : World} (ht : Table W) : Old W W := ⟨Below.refl _ _, ht⟩
theorem Old.next {W w w' : World} (h : Old W w) (hb : Below w.heap.size w w') : Old W w' := ⟨h.below.trans (hb.mono h.below.size), h.table.below hb⟩
theorem Old.alloc {W w : World} (h : Old W w) (o : Obj) : Old W (w.alloc o) := h.next ((Below.refl _ _).alloc (Nat.le_refl _) o)
theorem Old.drew {W w : World} (h : Old W w) : Old W w.drew := h.next (Below.refl _ _).drew

/-- A descriptor in a block of the call's own, and that nothing that was there has changed: what is carried over calls. -/
structure Kept (W w : World) (b : Nat) (t a v n : Int) (m : Bool) (s x : Int) : Prop where
  row : Row7 w b t a v n m s x
  old : Old W w
theorem Kept.next {W w w' : World} {b : Nat} {t a v n : Int} {m : Bool} {s x : Int} (h : Kept W w b t a v n m s x) (hb : Below w.heap.size w w') : Kept W w' b t a v n m s x := ⟨h.row.below hb, h.old.next hb⟩
theorem Kept.first {W : World} (ht : Table W) (t a v n : Int) (m : Bool) (s x : Int) : Kept W (W.alloc (.cells #[.int .i64 t, .int .i64 a, .int .i64 v, .int .i64 n, .bool m, .int .i64 s, .int .i64 x] 23)) W.heap.size t a v n m s x := ⟨Row7.new .., (Old.refl ht).alloc _⟩
/-- The same beside its seven cells, for a region that draws its order. -/
theorem Kept.cells {W w : World} {b : Nat} {t a v n : Int} {m : Bool} {s x : Int} (h : Kept W w b t a v n m s x) :
    w.cell? ⟨b, 0, none⟩ = some (.int .i64 t) ∧ w.cell? ⟨b, 1, none⟩ = some (.int .i64 a) ∧ w.cell? ⟨b, 2, none⟩ = some (.int .i64 v) ∧ w.cell? ⟨b, 3, none⟩ = some (.int .i64 n) ∧ w.cell? ⟨b, 4, none⟩ = some (.bool m) ∧ w.cell? ⟨b, 5, none⟩ = some (.int .i64 s) ∧ w.cell? ⟨b, 6, none⟩ = some (.int .i64 x) ∧ Kept W w b t a v n m s x :=
  ⟨h.row.c0, h.row.c1, h.row.c2, h.row.c3, h.row.c4, h.row.c5, h.row.c6, h⟩
theorem Kept.keep {W w w' : World} {b : Nat} {t a v n : Int} {m : Bool} {s x : Int}
    (h : w.cell? ⟨b, 0, none⟩ = some (.int .i64 t) ∧ w.cell? ⟨b, 1, none⟩ = some (.int .i64 a) ∧ w.cell? ⟨b, 2, none⟩ = some (.int .i64 v) ∧ w.cell? ⟨b, 3, none⟩ = some (.int .i64 n) ∧ w.cell? ⟨b, 4, none⟩ = some (.bool m) ∧ w.cell? ⟨b, 5, none⟩ = some (.int .i64 s) ∧ w.cell? ⟨b, 6, none⟩ = some (.int .i64 x) ∧ Kept W w b t a v n m s x) (hb : Below w.heap.size w w') :
    w'.cell? ⟨b, 0, none⟩ = some (.int .i64 t) ∧ w'.cell? ⟨b, 1, none⟩ = some (.int .i64 a) ∧ w'.cell? ⟨b, 2, none⟩ = some (.int .i64 v) ∧ w'.cell? ⟨b, 3, none⟩ = some (.int .i64 n) ∧ w'.cell? ⟨b, 4, none⟩ = some (.bool m) ∧ w'.cell? ⟨b, 5, none⟩ = some (.int .i64 s) ∧ w'.cell? ⟨b, 6, none⟩ = some (.int .i64 x) ∧ Kept W w' b t a v n m s x :=
  (h.2.2.2.2.2.2.2.next hb).cells
end Go.Proofs.YtckplpojlhdmhaaDoor.desc
