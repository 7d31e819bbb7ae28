/- The word package's small functions, and the document's: what each call returns; nothing that was there has changed. -/
import Derived.Test.YtcblbbenaeiecaaDoorRows
import Derived.WalkKit
import Derived.WalkSpells
import Derived.WalkLawsBesides
import Derived.Handy
import Derived.Lib.Hide
import Derived.Outline
namespace Go.Proofs.YtcblbbenaeiecaaDoor.word
open Go.RowKit

theorem bcell {W w1 : World} (hb : Below W.heap.size W w1) : (∀ b o, b < W.heap.size → w1.cell? ⟨b, o, none⟩ = W.cell? ⟨b, o, none⟩) ∧ (∀ b o, b < W.heap.size → w1.frozen? ⟨b, o, none⟩ = W.frozen? ⟨b, o, none⟩) :=
  ⟨fun b o h => hb.cell (p := ⟨b, o, none⟩) h, fun b o h => hb.frozen (p := ⟨b, o, none⟩) h⟩

/-- A mark as a number. -/
def mk (m : Bool) : Int := if m = true then 1 else 0

/-- The version behind a version. -/
def nextVer (v : Int) : Int := if v = 262143 then 0 else v + 1

set_option maxHeartbeats 400000 in
theorem powers_any (w : World) :
    Calls Tryd.prog 21 #[] w fun e w' => e = .returned (.agg #[.int .i64 1024, .int .i64 512, .int .i64 2, .int .i64 32, .int .i64 262144]) ∧ Below w.heap.size w w' := by
  go_enter Tryd.func21, Tryd.ntmps21
  go_wp2
  go_returns
  exact ⟨rfl, by go_grown⟩

set_option maxHeartbeats 400000 in
theorem later_any (w : World) (k n : Int) (m : Bool) (c v : Int) (h0 : 0 ≤ v) (h1 : v ≤ 262143) :
    Calls Tryd.prog 22 #[.agg #[.int .i64 k, .int .i64 n, .bool m, .int .i64 c, .int .i64 v]] w fun e w' => e = .returned (.agg #[.int .i64 k, .int .i64 n, .bool m, .int .i64 c, .int .i64 (nextVer v)]) ∧ Below w.heap.size w w' := by
  by_cases h : v = 262143
  · subst h
    go_enter Tryd.func22, Tryd.ntmps22
    go_wp2
    go_returns
    exact ⟨rfl, by go_grown⟩
  · have hn : nextVer v = v + 1 := if_neg h
    rw [hn]
    clear hn
    have hb : (v == 262143) = false := by simpa using h
    go_enter Tryd.func22, Tryd.ntmps22
    go_wp2
    go_returns
    exact ⟨rfl, by go_grown⟩

set_option maxHeartbeats 400000 in
theorem numbers_any (w : World) (k n : Int) (m : Bool) (c v : Int) :
    Calls Tryd.prog 20 #[.agg #[.int .i64 k, .int .i64 n, .bool m, .int .i64 c, .int .i64 v]] w fun e w' => e = .returned (.agg #[.int .i64 k, .int .i64 n, .int .i64 (mk m), .int .i64 c, .int .i64 v]) ∧ Below w.heap.size w w' := by
  cases m
  all_goals
    go_enter Tryd.func20, Tryd.ntmps20
    go_wp2
    go_returns
    exact ⟨rfl, by go_grown⟩

set_option maxHeartbeats 400000 in
theorem fields_any (w : World) (k n : Int) (m : Bool) (c v : Int) :
    Calls Tryd.prog 11 #[.agg #[.int .i64 k, .int .i64 n, .bool m, .int .i64 c, .int .i64 v]] w fun e w' => e = .returned (.agg #[.int .i64 k, .int .i64 n, .int .i64 (mk m), .int .i64 c, .int .i64 v]) ∧ Below w.heap.size w w' := by
  cases m
  all_goals
    go_enter Tryd.func11, Tryd.ntmps11
    go_wp2
    go_returns
    exact ⟨rfl, by go_grown⟩

set_option maxHeartbeats 400000 in
theorem link_any (w : World) (k n : Int) (m : Bool) (c v : Int) (x : Int) (h0 : 0 ≤ v) (h1 : v ≤ 262143) :
    Calls Tryd.prog 16 #[.agg #[.int .i64 k, .int .i64 n, .bool m, .int .i64 c, .int .i64 v], .int .i64 x] w fun e w' => e = .returned (.agg #[.int .i64 k, .int .i64 x, .bool m, .int .i64 c, .int .i64 (nextVer v)]) ∧ Below w.heap.size w w' := by
  by_cases h : v = 262143
  · subst h
    go_enter Tryd.func16, Tryd.ntmps16
    go_wp2
    go_returns
    exact ⟨rfl, by go_grown⟩
  · have hn : nextVer v = v + 1 := if_neg h
    rw [hn]
    clear hn
    have hb : (v == 262143) = false := by simpa using h
    go_enter Tryd.func16, Tryd.ntmps16
    go_wp2
    go_returns
    exact ⟨rfl, by go_grown⟩

set_option maxHeartbeats 400000 in
theorem marked_any (w : World) (k n : Int) (m : Bool) (c v : Int) (h0 : 0 ≤ v) (h1 : v ≤ 262143) :
    Calls Tryd.prog 17 #[.agg #[.int .i64 k, .int .i64 n, .bool m, .int .i64 c, .int .i64 v]] w fun e w' => e = .returned (.agg #[.int .i64 k, .int .i64 n, .bool true, .int .i64 c, .int .i64 (nextVer v)]) ∧ Below w.heap.size w w' := by
  by_cases h : v = 262143
  · subst h
    go_enter Tryd.func17, Tryd.ntmps17
    go_wp2
    go_returns
    exact ⟨rfl, by go_grown⟩
  · have hn : nextVer v = v + 1 := if_neg h
    rw [hn]
    clear hn
    have hb : (v == 262143) = false := by simpa using h
    go_enter Tryd.func17, Tryd.ntmps17
    go_wp2
    go_returns
    exact ⟨rfl, by go_grown⟩

set_option maxHeartbeats 400000 in
theorem free_any (w : World) (k n : Int) (m : Bool) (c v : Int) (h0 : 0 ≤ v) (h1 : v ≤ 262143) :
    Calls Tryd.prog 19 #[.agg #[.int .i64 k, .int .i64 n, .bool m, .int .i64 c, .int .i64 v]] w fun e w' => e = .returned (.agg #[.int .i64 k, .int .i64 n, .bool m, .int .i64 0, .int .i64 (nextVer v)]) ∧ Below w.heap.size w w' := by
  by_cases h : v = 262143
  · subst h
    go_enter Tryd.func19, Tryd.ntmps19
    go_wp2
    go_returns
    exact ⟨rfl, by go_grown⟩
  · have hn : nextVer v = v + 1 := if_neg h
    rw [hn]
    clear hn
    have hb : (v == 262143) = false := by simpa using h
    go_enter Tryd.func19, Tryd.ntmps19
    go_wp2
    go_returns
    exact ⟨rfl, by go_grown⟩

set_option maxHeartbeats 400000 in
theorem claimed_any (w : World) (k n : Int) (m : Bool) (c v b x : Int) (y : Bool) (h0 : 0 ≤ b) (h1 : b ≤ 30) :
    Calls Tryd.prog 18 #[.agg #[.int .i64 k, .int .i64 n, .bool m, .int .i64 c, .int .i64 v], .int .i64 b, .int .i64 x, .bool y] w fun e w' => e = .returned (.agg #[.int .i64 k, .int .i64 x, .bool y, .int .i64 (b + 1), .int .i64 v]) ∧ Below w.heap.size w w' := by
  go_enter Tryd.func18, Tryd.ntmps18
  go_wp2
  go_returns
  exact ⟨rfl, by go_grown⟩

end Go.Proofs.YtcblbbenaeiecaaDoor.word
