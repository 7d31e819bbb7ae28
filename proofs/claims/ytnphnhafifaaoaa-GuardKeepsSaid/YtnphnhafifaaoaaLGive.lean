/- A machine that gives nodes back: how it is made, what its steps do. -/
import Derived.Test.YtnphnhafifaaoaaLRunG
import Derived.Test.YtnphnhafifaaoaaL2
import Derived.Deep.RegionHeld3
namespace Go.Proofs.Ytnphnhafifaaoaa.life
open Go.RowKit mem

/-- Its three cells. -/
abbrev giCells (t n : Int) (v : Value) : Array Value := #[.int .i64 t, .int .i64 n, v]
structure Row3 (w : World) (C : Nat) (t n : Int) (v : Value) : Prop where
  c0 : w.cell? ⟨C, 0, none⟩ = some (.int .i64 t)
  c1 : w.cell? ⟨C, 1, none⟩ = some (.int .i64 n)
  c2 : w.cell? ⟨C, 2, none⟩ = some v
  f : ∀ i, w.frozen? ⟨C, i, none⟩ = false
theorem row3 {w : World} {C : Nat} {t n : Int} {v : Value} (h : Box w C (giCells t n v) 89) : Row3 w C t n v := ⟨h.at 0 rfl, h.at 1 rfl, h.at 2 rfl, h.free⟩
/-- What a step leaves. -/
structure GDid (w : World) (X Y C : Nat) (t n : Int) (zs : List Int) (v : Value) (w' : World) : Prop where
  mem : MemS w' X Y t n zs
  box : Box w' C (giCells t n v) 89
  apart : Apart3 X Y C w w'

theorem beq_nat (m : Nat) : ((m : Int) == 0) = (m == 0) := by
  by_cases h : m = 0
  · subst h; rfl
  · have h1 : ((m : Int) == 0) = false := by simp; omega
    have h2 : (m == 0) = false := by simp; omega
    rw [h1, h2]
section
variable {w : World} {X Y C : Nat} {t n : Int} {zs : List Int}
set_option maxHeartbeats 1000000 in
theorem give_none (a : Option Addr) (c : Nat) (hm : MemS w X Y t n zs) (hb : Box w C (giCells t n (.slice a 0 c)) 89) (cx : C ≠ X) (cy : C ≠ Y) :
    Calls Try.prog 42 #[.pointer (some ⟨C, 0, none⟩), .pointer (some ⟨X, 0, none⟩)] w fun e w' => e = .returned (.bool true) ∧ GDid w X Y C t n zs (.slice a 0 c) w' := by
  obtain ⟨c0, c1, c2, f⟩ := row3 hb
  have HM := Lib.hid hm
  have HB := Lib.hid hb
  clear hm hb
  go_enter Try.func42, Try.ntmps42
  go_wp2_with (go_at_call 51; refine (Load_s HM.out 0 _ rfl).mono ?_; rintro e w1 ⟨rfl, hm1, ha1⟩; have M1 := Lib.hid hm1; have A1 := Lib.hid ha1; clear hm1 ha1)
  go_returns
  exact ⟨rfl, M1.out, HB.out.apart A1.out cx cy, Apart3.of A1.out⟩

set_option maxHeartbeats 1000000 in
theorem give_one (hs : Sound t n zs) (g k m c : Nat) (i : Int) (hm : MemS w X Y t n zs) (hb : Box w C (giCells t n (.slice (some ⟨g, k, none⟩) (m + 1) c)) 89) (cx : C ≠ X) (cy : C ≠ Y) (gx : g ≠ X) (gy : g ≠ Y)
    (hc : w.cell? ⟨g, k, none⟩ = some (.int .i64 i)) (i0 : 1 ≤ i) (i1 : i ≤ n) (hmc : m + 1 ≤ c) (m1 : m ≤ 1000) (_c1 : c ≤ maxLen) :
    Calls Try.prog 42 #[.pointer (some ⟨C, 0, none⟩), .pointer (some ⟨X, 0, none⟩)] w fun e w' => e = .returned (.bool (m == 0)) ∧ ∃ v', GDid w X Y C t n (putLife n zs i (IntKind.u64.wrap (lifeIn n zs i + 1))) v' w' ∧ (m = 0 → ∃ a c', v' = .slice a 0 c') ∧ (0 < m → ∃ c', v' = .slice (some ⟨g, k + 1, none⟩) m c' ∧ m ≤ c' ∧ c' ≤ c) := by
  obtain ⟨c0, c1, c2, f⟩ := row3 hb
  have HM := Lib.hid hm
  have HB := Lib.hid hb
  have HS := Lib.hid hs
  have glt := World.block_lt_of_cell? w _ hc
  have HG := Lib.hid glt
  have hb0 : (0 : Int) < ((m + 1 : Nat) : Int) := by omega
  clear hm hb hs
  go_enter Try.func42, Try.ntmps42
  go_wp2
  go_region_held3 (fun wx => wx.cell? ⟨C, 0, none⟩ = some (.int .i64 t) ∧ wx.cell? ⟨C, 1, none⟩ = some (.int .i64 n) ∧ wx.cell? ⟨C, 2, none⟩ = some (.slice (some ⟨g, k, none⟩) (m + 1) c) ∧ wx.cell? ⟨g, k, none⟩ = some (.int .i64 i)) (go_keep) (first
    | (go_at_call 45; refine (lifeOf_in HS.out i i0 i1).mono ?_; rintro e w1 ⟨rfl, hb1⟩; have M1 := Lib.hid (HM.out.drew.below hb1); have B1 := Lib.hid (HB.out.drew.below hb1); have A1 : Hid (Apart3 X Y C w w1) := Lib.hid (Apart3.of ((Apart.refl w).drew.trans (Apart.ofBelow hb1))); have g1 : w1.cell? ⟨g, k, none⟩ = some (.int .i64 i) := (hb1.cell (p := ⟨g, k, none⟩) HG.out).trans hc; clear hb1; obtain ⟨d0, d1, d2, f1⟩ := row3 B1.out; have G1 := Lib.hid (World.block_lt_of_cell? w1 _ g1))
    | (go_at_call 14; refine (Add_s M1.out (n + 4 + i) 1 (lifeIn n zs i) rfl).mono ?_; rintro e w2 ⟨rfl, hm2, ha2⟩; have M2 := Lib.hid hm2; have B2 := Lib.hid (B1.out.apart ha2 cx cy); have A2 : Hid (Apart3 X Y C w w2) := Lib.hid (A1.out.trans (Apart3.of ha2)); have g2 : w2.cell? ⟨g, k, none⟩ = some (.int .i64 i) := (ha2.cell (b := g) (i := k) G1.out gx gy).trans g1; clear hm2 ha2; obtain ⟨e0, e1, e2, f2⟩ := row3 B2.out))
  all_goals
    go_wp2
    all_goals
      go_returns
      refine ⟨ret_bool (beq_nat m), _, ⟨M2.out.other cx cy _ _, B2.out.put 2 _, A2.out.put 2 _⟩, fun h => ⟨_, _, by rw [h]⟩, fun h => ?_⟩
      first | exact ⟨_, rfl, by omega, by omega⟩ | (exfalso; omega)

/-- Behind j nodes that were given back. -/
def giveTo (n : Int) (zs L : List Int) : Nat → List Int
  | 0 => zs
  | j + 1 => putLife n (giveTo n zs L j) (L.getD j 0) (IntKind.u64.wrap (lifeIn n (giveTo n zs L j) (L.getD j 0) + 1))
theorem wrap_word (x : Int) : 0 ≤ IntKind.u64.wrap x ∧ IntKind.u64.wrap x < 18446744073709551616 := by
  rw [IntKind.wrap_u64]
  omega
theorem giveTo_sound (hs : Sound t n zs) (L : List Int) : ∀ j, Sound t n (giveTo n zs L j)
  | 0 => hs
  | j + 1 => (giveTo_sound hs L j).put _ _ (wrap_word _).1 (wrap_word _).2

/-- How far the machine has come. -/
def Gave (w : World) (X Y C : Nat) (t n : Int) (zs L : List Int) (g j : Nat) (wr : World) : Prop :=
  ∃ v, GDid w X Y C t n (giveTo n zs L j) v wr ∧ (j = L.length → ∃ a c, v = .slice a 0 c) ∧ (j < L.length → ∃ c, v = .slice (some ⟨g, j, none⟩) (L.length - j) c ∧ L.length - j ≤ c ∧ c ≤ maxLen) ∧ IntRow wr g L
theorem gave_step (hs : Sound t n zs) (L : List Int) (hL : ∀ x ∈ L, 1 ≤ x ∧ x ≤ n) (l1 : L.length ≤ 1000) (cx : C ≠ X) (cy : C ≠ Y) (g : Nat) (gx : g ≠ X) (gy : g ≠ Y) (gc : g ≠ C)
    (j : Nat) (wr : World) (hj : j < L.length) (h : Gave w X Y C t n zs L g j wr) :
    Calls Try.prog 42 #[.pointer (some ⟨C, 0, none⟩), .pointer (some ⟨X, 0, none⟩)] wr fun e w' => e = .returned (.bool (decide (j + 1 = L.length))) ∧ Gave w X Y C t n zs L g (j + 1) w' := by
  obtain ⟨v, hd, _, hv, hr⟩ := h
  obtain ⟨c, rfl, c0, c1⟩ := hv hj
  have hin := hL (L.getD j 0) (by rw [List.getD_eq_getElem?_getD, List.getElem?_eq_getElem hj]; exact List.getElem_mem _)
  obtain ⟨m, hm⟩ : ∃ m, L.length - j = m + 1 := ⟨L.length - j - 1, by omega⟩
  have hb := hd.box
  rw [hm] at hb c0
  refine (give_one (giveTo_sound hs L j) g j m c (L.getD j 0) hd.mem hb cx cy gx gy (hr.cell hj) hin.1 hin.2 c0 (by omega) c1).mono ?_
  rintro e w' ⟨rfl, v', hd', h0, h1⟩
  refine ⟨ret_bool ?_, v', ⟨hd'.mem, hd'.box, hd.apart.trans hd'.apart⟩, fun h => h0 (by omega), fun h => ?_, hr.moved (hd'.apart.block g hr.lt gx gy gc)⟩
  · by_cases he : m = 0
    · rw [decide_eq_true (by omega)]; simp [he]
    · rw [decide_eq_false (by omega)]; simp [he]
  · have hpos : 0 < m := by omega
    have h2 := h1 hpos
    have e : L.length - (j + 1) = m := by clear h0 h1 h2; omega
    obtain ⟨c', rfl, a, b⟩ := h2
    rw [e]
    exact ⟨c', rfl, a, Nat.le_trans b c1⟩
/-- Some nodes are given back, in so many steps. -/
theorem give_run (hs : Sound t n zs) (L : List Int) (hL : ∀ x ∈ L, 1 ≤ x ∧ x ≤ n) (l0 : 0 < L.length) (l1 : L.length ≤ 1000) (cx : C ≠ X) (cy : C ≠ Y) (g : Nat) (gx : g ≠ X) (gy : g ≠ Y) (gc : g ≠ C) (c : Nat) (c0 : L.length ≤ c) (c1 : c ≤ maxLen)
    (hm : MemS w X Y t n zs) (hb : Box w C (giCells t n (.slice (some ⟨g, 0, none⟩) L.length c)) 89) (hr : IntRow w g L) (most : Int) (r : Nat) (hc : w.cell? ⟨r, 0, none⟩ = some (.iface 47 (.pointer (some ⟨C, 0, none⟩)))) (m0 : (L.length : Int) ≤ most) (m1 : most ≤ 100000) :
    Calls Try.prog 17 #[.pointer (some ⟨X, 0, none⟩), .int .i64 most, .slice (some ⟨r, 0, none⟩) 1 1] w fun e w' => e = .returned (.tuple #[.int .i64 L.length, .bool true]) ∧ ∃ v, GDid w X Y C t n (giveTo n zs L L.length) v w' := by
  have h0 : Gave w X Y C t n zs L g 0 w := ⟨_, ⟨hm, hb, Apart3.refl w⟩, fun h => by omega, fun _ => ⟨c, rfl, by omega, c1⟩, hr⟩
  refine (run_give w X C most L.length _ l0 m0 m1 h0 r hc (fun j wr hj hp => gave_step hs L hL l1 cx cy g gx gy gc j wr hj hp)).mono ?_
  rintro e w' ⟨rfl, v, hd, _⟩
  exact ⟨rfl, v, hd⟩
/-- None is given back: one step. -/
theorem give_run_none (cx : C ≠ X) (cy : C ≠ Y) (a : Option Addr) (c : Nat) (hm : MemS w X Y t n zs) (hb : Box w C (giCells t n (.slice a 0 c)) 89) (most : Int) (r : Nat) (hc : w.cell? ⟨r, 0, none⟩ = some (.iface 47 (.pointer (some ⟨C, 0, none⟩)))) (m0 : 1 ≤ most) (m1 : most ≤ 100000) :
    Calls Try.prog 17 #[.pointer (some ⟨X, 0, none⟩), .int .i64 most, .slice (some ⟨r, 0, none⟩) 1 1] w fun e w' => e = .returned (.tuple #[.int .i64 1, .bool true]) ∧ GDid w X Y C t n zs (.slice a 0 c) w' := by
  refine (run_give w X C most 1 (fun _ wr => GDid w X Y C t n zs (.slice a 0 c) wr) (by omega) m0 m1 ⟨hm, hb, Apart3.refl w⟩ r hc (fun j wr hj hp => ?_)).mono ?_
  · refine (give_none a c hp.mem hp.box cx cy).mono ?_
    rintro e w' ⟨rfl, hd⟩
    exact ⟨ret_bool (by symm; apply decide_eq_true; omega), hd.mem, hd.box, hp.apart.trans hd.apart⟩
  · rintro e w' ⟨rfl, hd⟩
    exact ⟨rfl, hd⟩
end
end Go.Proofs.Ytnphnhafifaaoaa.life
