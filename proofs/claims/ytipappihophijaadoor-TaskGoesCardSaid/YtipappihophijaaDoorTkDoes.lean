/- What a task does, and where it goes. -/
import Derived.Test.YtipappihophijaaDoorTkPut
import Derived.Deep.RegionHeld3
namespace Go.Proofs.YtipappihophijaaDoor.task
open Go.RowKit

/-- Is a shape a set? Does a task link, mark, pop? -/
def setS (s : Int) : Bool := (s == 1) || (s == 2)
def linksB (k : Int) : Bool := (k == 1) || (k == 4)
def marksB (s k : Int) : Bool := setS s && (k == 2) || (s == 3) && (k == 5)
def popsB (s k : Int) : Bool := (s == 4) && (k == 5)
/-- Where it goes. -/
def headI (s y : Int) : Int := if s = 2 then y % 4 else 0
def keyI (s k y : Int) : Int := if setS s = true then y else if s = 3 ∧ k = 4 then 1024 else -1

set_option maxHeartbeats 1000000 in
theorem ofSet_any (w : World) (s k y : Int) :
    Calls Tryd.prog 14 #[.agg #[.int .i64 s, .int .i64 k, .int .i64 y]] w fun e w' => e = .returned (.bool (setS s)) ∧ Below w.heap.size w w' := by
  go_enter Tryd.func14, Tryd.ntmps14
  go_wp2
  all_goals
    go_returns
    refine ⟨ret_bool ?_, by go_grown⟩
    simp [setS]
    try omega

set_option maxHeartbeats 1000000 in
theorem links_any (w : World) (s k y : Int) :
    Calls Tryd.prog 8 #[.agg #[.int .i64 s, .int .i64 k, .int .i64 y]] w fun e w' => e = .returned (.bool (linksB k)) ∧ Below w.heap.size w w' := by
  go_enter Tryd.func8, Tryd.ntmps8
  go_wp2
  all_goals
    go_returns
    refine ⟨ret_bool ?_, by go_grown⟩
    simp [linksB]
    try omega

set_option maxHeartbeats 1000000 in
theorem pops_any (w : World) (s k y : Int) :
    Calls Tryd.prog 10 #[.agg #[.int .i64 s, .int .i64 k, .int .i64 y]] w fun e w' => e = .returned (.bool (popsB s k)) ∧ Below w.heap.size w w' := by
  go_enter Tryd.func10, Tryd.ntmps10
  go_wp2
  all_goals
    go_returns
    refine ⟨ret_bool ?_, by go_grown⟩
    simp [popsB]
    try omega

set_option maxRecDepth 100000 in
set_option maxHeartbeats 1000000 in
theorem marks_any (w : World) (s k y : Int) :
    Calls Tryd.prog 9 #[.agg #[.int .i64 s, .int .i64 k, .int .i64 y]] w fun e w' => e = .returned (.bool (marksB s k)) ∧ Below w.heap.size w w' := by
  unfold marksB
  cases hs : setS s
  all_goals
    go_enter Tryd.func9, Tryd.ntmps9
    go_wp2_with (first | (go_at_call 14; refine (ofSet_any _ _ _ _).mono ?_; rintro e w1 ⟨rfl, hb1⟩; have ho1 : Below w.heap.size w w1 := ((Below.refl _ _).alloc (Nat.le_refl _) _).trans (hb1.mono (by simp)); obtain ⟨hc1, hf1⟩ := bcell hb1; have hz1 : w.heap.size < w1.heap.size := (by have := hb1.size; simp at this; omega)))
    all_goals
      go_returns
      refine ⟨ret_bool ?_, ho1⟩
      simp
      try omega

set_option maxHeartbeats 1000000 in
theorem head_any (w : World) (s k y : Int) (y0 : 0 ≤ y) (y1 : y ≤ 999) :
    Calls Tryd.prog 12 #[.agg #[.int .i64 s, .int .i64 k, .int .i64 y]] w fun e w' => e = .returned (.int .i64 (headI s y)) ∧ Below w.heap.size w w' := by
  unfold headI
  by_cases hs : s = 2
  · subst hs
    go_enter Tryd.func12, Tryd.ntmps12
    go_wp2
    go_returns
    exact ⟨rfl, by go_grown⟩
  · rw [if_neg hs]
    have hs2 : (s == 2) = false := by simpa using hs
    go_enter Tryd.func12, Tryd.ntmps12
    go_wp2
    go_returns
    exact ⟨rfl, by go_grown⟩

set_option maxRecDepth 100000 in
set_option maxHeartbeats 1000000 in
theorem searched_any (w : World) (s k y : Int) :
    Calls Tryd.prog 13 #[.agg #[.int .i64 s, .int .i64 k, .int .i64 y]] w fun e w' => e = .returned (.int .i64 (keyI s k y)) ∧ Below w.heap.size w w' := by
  unfold keyI
  cases hs : setS s
  all_goals
    go_enter Tryd.func13, Tryd.ntmps13
    go_wp2_with (first | (go_at_call 14; refine (ofSet_any _ _ _ _).mono ?_; rintro e w1 ⟨rfl, hb1⟩; have ho1 : Below w.heap.size w w1 := ((Below.refl _ _).alloc (Nat.le_refl _) _).trans (hb1.mono (by simp)); obtain ⟨hc1, hf1⟩ := bcell hb1; have hz1 : w.heap.size < w1.heap.size := (by have := hb1.size; simp at this; omega)))
    all_goals
      go_returns
      refine ⟨?_, ho1⟩
      try simp only [beq_iff_eq, beq_eq_false_iff_ne, ne_eq] at *
      simp
      try omega

/-- A task in its block, two numbers in the next one, of the call's own. -/
structure Pl (W w : World) (s k y : Int) : Prop where
  c0 : w.cell? ⟨W.heap.size, 0, none⟩ = some (.int .i64 s)
  c1 : w.cell? ⟨W.heap.size, 1, none⟩ = some (.int .i64 k)
  c2 : w.cell? ⟨W.heap.size, 2, none⟩ = some (.int .i64 y)
  p0 : w.cell? ⟨W.heap.size + 1, 0, none⟩ = some (.int .i64 0)
  p1 : w.cell? ⟨W.heap.size + 1, 1, none⟩ = some (.int .i64 0)
  fz : ∀ o, w.frozen? ⟨W.heap.size + 1, o, none⟩ = false
  lt : W.heap.size + 1 < w.heap.size
  below : Below W.heap.size W w
theorem Pl.new (W : World) (s k y : Int) (t u : TypeId) : Pl W ((W.alloc (.cells #[.int .i64 s, .int .i64 k, .int .i64 y] t)).alloc (.cells #[.int .i64 0, .int .i64 0] u)) s k y :=
  ⟨by go_simp, by go_simp, by go_simp, by go_simp, by go_simp, fun o => by go_simp, by simp, ((Below.refl _ _).alloc (Nat.le_refl _) _).alloc (by simp) _⟩
theorem Pl.drew {W w : World} {s k y : Int} (h : Pl W w s k y) : Pl W w.drew s k y := ⟨h.c0, h.c1, h.c2, h.p0, h.p1, h.fz, h.lt, h.below.drew⟩
theorem Pl.next {W w w' : World} {s k y : Int} (h : Pl W w s k y) (hb : Below w.heap.size w w') : Pl W w' s k y := by
  have h1 : W.heap.size < w.heap.size := Nat.lt_of_succ_lt h.lt
  exact ⟨(hb.cell h1).trans h.c0, (hb.cell h1).trans h.c1, (hb.cell h1).trans h.c2, (hb.cell h.lt).trans h.p0, (hb.cell h.lt).trans h.p1, fun o => (hb.frozen (p := ⟨_, o, none⟩) h.lt).trans (h.fz o), Nat.lt_of_lt_of_le h.lt hb.size, h.below.trans (hb.mono h.below.size)⟩

set_option maxRecDepth 100000 in
set_option maxHeartbeats 1000000 in
theorem place_any (w : World) (s k y : Int) (y0 : 0 ≤ y) (y1 : y ≤ 999) :
    Calls Tryd.prog 7 #[.agg #[.int .i64 s, .int .i64 k, .int .i64 y]] w fun e w' => e = .returned (.agg #[.int .i64 (headI s y), .int .i64 (keyI s k y)]) ∧ Below w.heap.size w w' := by
  have Y := Lib.hid (And.intro y0 y1)
  have H0 := Lib.hid (Pl.new w s k y 25 30)
  clear y0 y1
  go_enter Tryd.func7, Tryd.ntmps7
  go_wp2
  go_region_held3 (fun wx => wx.cell? ⟨w.heap.size, 0, none⟩ = some (.int .i64 s) ∧ wx.cell? ⟨w.heap.size, 1, none⟩ = some (.int .i64 k) ∧ wx.cell? ⟨w.heap.size, 2, none⟩ = some (.int .i64 y)) (first | exact ⟨H2.out.c0, H2.out.c1, H2.out.c2⟩ | exact ⟨H1.out.c0, H1.out.c1, H1.out.c2⟩ | go_keep) (first
    | (go_at_call 13; refine (searched_any _ _ _ _).mono ?_; rintro e w2 ⟨rfl, hb2⟩; have H2 := Lib.hid (H1.out.next hb2); clear hb2; obtain ⟨-, -, -, e0, e1, ef, el, -⟩ := id H2.out)
    | (go_at_call 12; refine (head_any _ _ _ _ Y.out.1 Y.out.2).mono ?_; rintro e w1 ⟨rfl, hb1⟩; have H1 := Lib.hid (H0.out.drew.next hb1); clear hb1))
  all_goals
    go_wp2
    have q0 : ((w2.setCell ⟨w.heap.size + 1, 0, none⟩ (.int .i64 (headI s y))).setCell ⟨w.heap.size + 1, 1, none⟩ (.int .i64 (keyI s k y))).cell? ⟨w.heap.size + 1, 0, none⟩ = some (.int .i64 (headI s y)) := by go_simp
    have q1 : ((w2.setCell ⟨w.heap.size + 1, 0, none⟩ (.int .i64 (headI s y))).setCell ⟨w.heap.size + 1, 1, none⟩ (.int .i64 (keyI s k y))).cell? ⟨w.heap.size + 1, 1, none⟩ = some (.int .i64 (keyI s k y)) := by go_simp
    refine bodyPost_ret (v := .agg #[.int .i64 (headI s y), .int .i64 (keyI s k y)]) (by simp [results, Tryd.results7, go_sem, q0, q1]) rfl ⟨rfl, (H2.out.below.setCell (p := ⟨w.heap.size + 1, 0, none⟩) (Nat.le_succ _) _).setCell (p := ⟨w.heap.size + 1, 1, none⟩) (Nat.le_succ _) _⟩
end Go.Proofs.YtipappihophijaaDoor.task
