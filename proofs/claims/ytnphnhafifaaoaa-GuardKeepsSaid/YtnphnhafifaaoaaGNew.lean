/- A new machine that scans; one that drops, run alone. -/
import Derived.Test.YtnphnhafifaaoaaGRun
import Derived.Test.YtnphnhafifaaoaaG3
import Derived.Test.YtnphnhafifaaoaaL2
namespace Go.Proofs.Ytnphnhafifaaoaa.guard
open Go.RowKit mem life

/-- A new machine that scans for these. -/
structure NewSc (w : World) (C : Nat) (t n : Int) (L : List Int) (nv : Value) (w' : World) : Prop where
  box : Box w' C (scCells t n (.slice none 0 0) (.slice none 0 0) nv 0 (.map none) (.pointer none)) 49
  nums : Nums w' w.heap.size nv L
  below : Below w.heap.size w w'
  c : w.heap.size ≤ C
def Scans (w : World) (t n : Int) (L : List Int) (e : Ending) (w' : World) : Prop := ∃ C nv, e = .returned (.pointer (some ⟨C, 0, none⟩)) ∧ NewSc w C t n L nv w'
theorem NewSc.made {w w1 : World} {C : Nat} {t n : Int} {L : List Int} {nv : Value} (hb : Below w.heap.size w w1) (hC : w1.heap.size = C) (hn : Nums w1 w.heap.size nv L) : NewSc w C t n L nv (w1.alloc (.cells (scCells t n (.slice none 0 0) (.slice none 0 0) nv 0 (.map none) (.pointer none)) 49)) := by
  subst hC
  exact ⟨Box.new _ _ _, hn.below ((Below.refl _ _).alloc (Nat.le_refl _) _), hb.alloc hb.size _, hb.size⟩
set_option maxHeartbeats 1000000 in
theorem New_some (w : World) (t n : Int) (g z c : Nat) (L : List Int) (hz : L.length = z) (z0 : 0 < z) (z1 : z ≤ 1000) (h : IntRow w g L) :
    Calls Try.prog 16 #[.agg #[.int .i64 t, .int .i64 n], .slice (some ⟨g, 0, none⟩) z c] w (Scans w t n L) := by
  have H := Lib.hid h
  have HZ := Lib.hid hz
  have B0 : Hid (Box (w.alloc (.cells #[.int .i64 t, .int .i64 n] 28)) w.heap.size #[.int .i64 t, .int .i64 n] 28 ∧ Below w.heap.size w (w.alloc (.cells #[.int .i64 t, .int .i64 n] 28))) := Lib.hid ⟨Box.new _ _ _, (Below.refl _ _).alloc (Nat.le_refl _) _⟩
  clear h hz
  go_enter Try.func16, Try.ntmps16
  go_wp2
  go_region_held3 (fun wx => wx.cell? ⟨w.heap.size, 0, none⟩ = some (.int .i64 t) ∧ wx.cell? ⟨w.heap.size, 1, none⟩ = some (.int .i64 n)) (first | exact ⟨(B2.out.alloc _).at 0 rfl, (B2.out.alloc _).at 1 rfl⟩ | exact ⟨B2.out.at 0 rfl, B2.out.at 1 rfl⟩ | go_keep) (first
    | (go_at_call 35; refine (clone_ints _ g z c L HZ.out z0 z1 (IntRow.below (H.out.below B0.out.2) (Below.refl _ _).drew)).mono ?_; rintro e w1 ⟨g', c', rfl, hr⟩; have HR := Lib.hid hr; have B2 := Lib.hid (B0.out.1.drew.below hr.below); have B3 : Hid (Below w.heap.size w w1) := Lib.hid (past B0.out.2.drew hr.below); clear hr))
  all_goals
    go_wp2
    go_returns
    have hg := HR.out.g0
    simp at hg
    refine ⟨_, _, rfl, NewSc.made B3.out rfl (Or.inr ⟨by rw [HZ.out]; exact z0, g', c', ?_, by omega, HR.out.row, HR.out.c0, HR.out.c1⟩)⟩
    rfl
set_option maxHeartbeats 1000000 in
theorem New_none (w : World) (t n : Int) :
    Calls Try.prog 16 #[.agg #[.int .i64 t, .int .i64 n], .slice none 0 0] w (Scans w t n []) := by
  have B0 : Hid (Box (w.alloc (.cells #[.int .i64 t, .int .i64 n] 28)) w.heap.size #[.int .i64 t, .int .i64 n] 28 ∧ Below w.heap.size w (w.alloc (.cells #[.int .i64 t, .int .i64 n] 28))) := Lib.hid ⟨Box.new _ _ _, (Below.refl _ _).alloc (Nat.le_refl _) _⟩
  go_enter Try.func16, Try.ntmps16
  go_wp2
  go_region_held3 (fun wx => wx.cell? ⟨w.heap.size, 0, none⟩ = some (.int .i64 t) ∧ wx.cell? ⟨w.heap.size, 1, none⟩ = some (.int .i64 n)) (first | go_keep | exact ⟨(B0.out.1.drew.alloc _).at 0 rfl, (B0.out.1.drew.alloc _).at 1 rfl⟩) (first
    | (go_at_call 35; refine (clone_ints_nil _).mono ?_; rintro e w1 ⟨rfl, rfl⟩))
  all_goals
    go_wp2
    go_returns
    exact ⟨_, _, rfl, NewSc.made B0.out.2.drew (by simp) (Or.inl ⟨rfl, rfl⟩)⟩
theorem New_any (w : World) (lo : Nat) (t n : Int) (v : Value) (L : List Int) (h : Nums w lo v L) (hl : L.length ≤ 1000) :
    Calls Try.prog 16 #[.agg #[.int .i64 t, .int .i64 n], v] w (Scans w t n L) := by
  rcases h with ⟨rfl, rfl⟩ | ⟨h0, g, c, rfl, _, hrow, hc0, hc1⟩
  · exact New_none w t n
  · exact New_some w t n g _ c L rfl h0 hl hrow
theorem NewSc.start {w w' : World} {X Y C : Nat} {t n : Int} {zs L : List Int} {nv : Value} (h : NewSc w C t n L nv w') (hm : MemS w' X Y t n zs) : Looking w' X Y C t n zs L [] w' := by
  have hsc : Sc w' w' X Y C t n zs (.slice none 0 0) (.slice none 0 0) nv 0 (.map none) (.pointer none) := ⟨hm, h.box, Apart3.refl _⟩
  exact ⟨nv, _, ints_of hsc, hsc, h.nums.low (Nat.zero_le _), Or.inl ⟨rfl, rfl⟩⟩

/-- A machine that drops: its four cells. -/
abbrev clCells (t n k s : Int) : Array Value := #[.int .i64 t, .int .i64 n, .int .i64 k, .int .i64 s]
set_option maxHeartbeats 1000000 in
theorem Drop_any (w : World) (t n k : Int) :
    Calls Try.prog 21 #[.agg #[.int .i64 t, .int .i64 n], .int .i64 k] w fun e w' => ∃ C, e = .returned (.pointer (some ⟨C, 0, none⟩)) ∧ Box w' C (clCells t n k 0) 79 ∧ Below w.heap.size w w' ∧ w.heap.size ≤ C := by
  go_enter Try.func21, Try.ntmps21
  go_wp2
  go_returns
  exact ⟨_, rfl, new_block _ _ _ (by simp), by go_grown, by simp⟩
/-- What its walk carries. -/
structure Cl (W w : World) (X Y C : Nat) (t n : Int) (zs : List Int) (k s : Int) : Prop where
  mem : MemS w X Y t n zs
  box : Box w C (clCells t n k s) 79
  apart : Apart3 X Y C W w
section
variable {W w w' : World} {X Y C : Nat} {t n k s : Int} {zs zs' : List Int}
theorem Cl.unlike (h : Cl W w X Y C t n zs k s) : C ≠ X ∧ C ≠ Y := MemS_unlike h.mem h.box (by decide) (by decide)
theorem Cl.next (h : Cl W w X Y C t n zs k s) (hb : Below w.heap.size w w') : Cl W w' X Y C t n zs k s :=
  ⟨h.mem.below hb, h.box.below hb, h.apart.trans (Apart3.of (Apart.ofBelow hb))⟩
theorem Cl.drew (h : Cl W w X Y C t n zs k s) : Cl W w.drew X Y C t n zs k s := h.next ((Below.refl _ _).drew)
theorem Cl.act (h : Cl W w X Y C t n zs k s) (hm : MemS w' X Y t n zs') (ha : Apart X Y w w') : Cl W w' X Y C t n zs' k s :=
  ⟨hm, h.box.apart ha h.unlike.1 h.unlike.2, h.apart.trans (Apart3.of ha)⟩
theorem Cl.put {s' : Int} (h : Cl W w X Y C t n zs k s) (v : Value) (hv : v = .int .i64 s') : Cl W (w.setCell ⟨C, 3, none⟩ v) X Y C t n zs k s' := by
  subst hv
  exact ⟨h.mem.other h.unlike.1 h.unlike.2 3 _, h.box.put 3 _, h.apart.put 3 _⟩
set_option maxHeartbeats 2000000 in
theorem next_any (hs : Sound t n zs) (h : Cl W w X Y C t n zs k s) (k0 : 0 ≤ k) (k1 : k < t) (s0 : 0 ≤ s) (s1 : s ≤ 1) :
    Calls Try.prog 78 #[.pointer (some ⟨C, 0, none⟩)] w fun e w' => e = .returned (.int .i64 (slotA n (2 * k + s))) ∧ Below w.heap.size w w' := by
  have HR := Lib.hid (rightB_yes ⟨hs.t0, hs.t1, hs.n0, hs.n1⟩)
  have c0 : w.cell? ⟨C, 0, none⟩ = some (.int .i64 t) := h.box.at 0 rfl
  have c1 : w.cell? ⟨C, 1, none⟩ = some (.int .i64 n) := h.box.at 1 rfl
  have c2 : w.cell? ⟨C, 2, none⟩ = some (.int .i64 k) := h.box.at 2 rfl
  have c3 : w.cell? ⟨C, 3, none⟩ = some (.int .i64 s) := h.box.at 3 rfl
  have t1 := hs.t1
  have n0 := hs.n0
  have n1 := hs.n1
  have q0 : decide (k < 0) = false := decide_eq_false (by omega)
  have q1 : decide (t ≤ k) = false := decide_eq_false (by omega)
  have HB : Hid (Box w C (clCells t n k s) 79) := Lib.hid h.box
  clear hs h
  go_enter Try.func78, Try.ntmps78
  go_wp2
  go_region_held3 (fun wx => wx.cell? ⟨C, 0, none⟩ = some (.int .i64 t) ∧ wx.cell? ⟨C, 1, none⟩ = some (.int .i64 n) ∧ wx.cell? ⟨C, 2, none⟩ = some (.int .i64 k) ∧ wx.cell? ⟨C, 3, none⟩ = some (.int .i64 s)) (first | exact ⟨B1.out.at 0 rfl, B1.out.at 1 rfl, B1.out.at 2 rfl, B1.out.at 3 rfl⟩ | go_keep) (first
    | (go_at_call 46; refine (Right_any _ t n).mono ?_; rintro e w1 ⟨rfl, hb1⟩; rw [HR.out]; have B1 := Lib.hid (HB.out.drew.below hb1); have B2 : Hid (Below w.heap.size w w1) := Lib.hid (past ((Below.refl _ _).drew) hb1); clear hb1))
  all_goals
    have d0 : w1.cell? ⟨C, 0, none⟩ = some (.int .i64 t) := B1.out.at 0 rfl
    have d1 : w1.cell? ⟨C, 1, none⟩ = some (.int .i64 n) := B1.out.at 1 rfl
    have d2 : w1.cell? ⟨C, 2, none⟩ = some (.int .i64 k) := B1.out.at 2 rfl
    have d3 : w1.cell? ⟨C, 3, none⟩ = some (.int .i64 s) := B1.out.at 3 rfl
    go_wp2
    go_region_held3 (fun wx => wx.cell? ⟨C, 0, none⟩ = some (.int .i64 t) ∧ wx.cell? ⟨C, 1, none⟩ = some (.int .i64 n) ∧ wx.cell? ⟨C, 2, none⟩ = some (.int .i64 k) ∧ wx.cell? ⟨C, 3, none⟩ = some (.int .i64 s)) (first | exact ⟨B4.out.at 0 rfl, B4.out.at 1 rfl, B4.out.at 2 rfl, B4.out.at 3 rfl⟩ | go_keep) (first
      | (go_at_call 10; refine (Slot_any _ t n k s (by omega) (by omega) k0 (by omega) s0 (by omega)).mono ?_; rintro e w2 ⟨rfl, hb1⟩; have B4 := Lib.hid (B1.out.drew.below hb1); have B3 : Hid (Below w.heap.size w w2) := Lib.hid (past B2.out.drew hb1); clear hb1))
    all_goals
      go_wp2
      go_returns
      exact ⟨ret_int (by unfold slotA; omega), B3.out⟩
set_option maxHeartbeats 2000000 in
theorem drop_step (hs : Sound t n zs) (h : Cl W w X Y C t n zs k s) (k0 : 0 ≤ k) (k1 : k < t) (s0 : 0 ≤ s) (s1 : s ≤ 1) :
    Calls Try.prog 77 #[.pointer (some ⟨C, 0, none⟩), .pointer (some ⟨X, 0, none⟩)] w fun e w' => e = .returned (.bool (s + 1 == 2)) ∧ Cl W w' X Y C t n (setAt zs (slotA n (2 * k + s)) 0) k (s + 1) := by
  have HS := Lib.hid hs
  have H0 := Lib.hid h
  have c3 : w.cell? ⟨C, 3, none⟩ = some (.int .i64 s) := h.box.at 3 rfl
  clear hs h
  go_enter Try.func77, Try.ntmps77
  go_wp2_with (first
    | (go_at_call 9; refine (Store_s H1.out.mem (slotA n (2 * k + s)) 0).mono ?_; rintro e w2 ⟨rfl, hm2, ha2⟩; have H2 := Lib.hid (H1.out.act hm2 ha2); clear hm2 ha2; have d3 : w2.cell? ⟨C, 3, none⟩ = some (.int .i64 s) := H2.out.box.at 3 rfl; have df := H2.out.box.free)
    | (go_at_call 78; refine (next_any HS.out H0.out k0 k1 s0 s1).mono ?_; rintro e w1 ⟨rfl, hb⟩; have H1 := Lib.hid (H0.out.next hb); clear hb))
  go_returns
  exact ⟨rfl, H2.out.put _ rfl⟩
/-- The words, a thread's slots being 0. -/
def dropped (n : Int) (zs : List Int) (k : Int) : List Int := setAt (setAt zs (slotA n (2 * k)) 0) (slotA n (2 * k + 1)) 0
theorem sound_set {a x : Int} (h : Sound t n zs) (x0 : 0 ≤ x) (x1 : x < 18446744073709551616) : Sound t n (setAt zs a x) := by
  have := h.put (a - (n + 4)) x x0 x1
  unfold putLife at this
  rwa [show n + 4 + (a - (n + 4)) = a by omega] at this
theorem drop_run (hs : Sound t n zs) (h : Cl W w X Y C t n zs k 0) (k0 : 0 ≤ k) (k1 : k < t) (most : Int) (m0 : 2 ≤ most) (m1 : most ≤ 100000) (g : Nat) (hc : w.cell? ⟨g, 0, none⟩ = some (.iface 52 (.pointer (some ⟨C, 0, none⟩)))) :
    Calls Try.prog 17 #[.pointer (some ⟨X, 0, none⟩), .int .i64 most, .slice (some ⟨g, 0, none⟩) 1 1] w fun e w' => e = .returned (.tuple #[.int .i64 2, .bool true]) ∧ ∃ s, Cl W w' X Y C t n (dropped n zs k) k s := by
  have hs1 : Sound t n (setAt zs (slotA n (2 * k)) 0) := sound_set hs (by omega) (by omega)
  refine (run_drop w X C most 2 (fun j wr => (j = 0 ∧ Cl W wr X Y C t n zs k 0) ∨ (j = 1 ∧ Cl W wr X Y C t n (setAt zs (slotA n (2 * k)) 0) k 1) ∨ (j = 2 ∧ ∃ s, Cl W wr X Y C t n (dropped n zs k) k s)) (by omega) m0 m1 (Or.inl ⟨rfl, h⟩) g hc ?_).mono ?_
  · intro j wr hj hr
    rcases hr with ⟨rfl, hr⟩ | ⟨rfl, hr⟩ | ⟨rfl, _⟩
    · refine (drop_step hs hr k0 k1 (by omega) (by omega)).mono ?_
      rintro e w' ⟨rfl, hp⟩
      rw [show 2 * k + 0 = 2 * k by omega] at hp
      exact ⟨rfl, Or.inr (Or.inl ⟨rfl, hp⟩)⟩
    · refine (drop_step hs1 hr k0 k1 (by omega) (by omega)).mono ?_
      rintro e w' ⟨rfl, hp⟩
      exact ⟨rfl, Or.inr (Or.inr ⟨rfl, _, hp⟩)⟩
    · omega
  · rintro e w' ⟨rfl, ⟨h, _⟩ | ⟨h, _⟩ | ⟨_, hp⟩⟩
    · omega
    · omega
    · exact ⟨rfl, hp⟩
end
end Go.Proofs.Ytnphnhafifaaoaa.guard
