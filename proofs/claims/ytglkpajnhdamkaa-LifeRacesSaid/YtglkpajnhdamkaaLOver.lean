/- A machine that takes a node: how it goes over to the next one. -/
import Derived.Test.YtglkpajnhdamkaaMSit
import Derived.Test.YtglkpajnhdamkaaMStep
import Derived.Deep.RegionWith
namespace Go.Proofs.Ytglkpajnhdamkaa.life
open Go.RowKit mem

/-- What a machine is at. -/
structure Al where
  got : Int
  node : Int
  left : Int
  free : Bool
  life : Int
/-- Its seven cells. -/
abbrev alCells (t n : Int) (a : Al) : Array Value := #[.int .i64 t, .int .i64 n, .int .i64 a.got, .int .i64 a.node, .int .i64 a.left, .bool a.free, .int .u64 a.life]
/-- Its cells, one by one. -/
structure Row7 (w : World) (C : Nat) (t n got node left : Int) (free : Bool) (life : Int) : Prop where
  c0 : w.cell? ⟨C, 0, none⟩ = some (.int .i64 t)
  c1 : w.cell? ⟨C, 1, none⟩ = some (.int .i64 n)
  c2 : w.cell? ⟨C, 2, none⟩ = some (.int .i64 got)
  c3 : w.cell? ⟨C, 3, none⟩ = some (.int .i64 node)
  c4 : w.cell? ⟨C, 4, none⟩ = some (.int .i64 left)
  c5 : w.cell? ⟨C, 5, none⟩ = some (.bool free)
  c6 : w.cell? ⟨C, 6, none⟩ = some (.int .u64 life)
  f : ∀ i, w.frozen? ⟨C, i, none⟩ = false
theorem row7 {w : World} {C : Nat} {t n got node left : Int} {free : Bool} {life : Int} (h : Box w C (alCells t n ⟨got, node, left, free, life⟩) 39) : Row7 w C t n got node left free life :=
  ⟨h.at 0 rfl, h.at 1 rfl, h.at 2 rfl, h.at 3 rfl, h.at 4 rfl, h.at 5 rfl, h.at 6 rfl, h.free⟩
/-- The node behind a node, round and round. -/
def nextNode (n node : Int) : Int := if node < n then node + 1 else 1

theorem odd_any (w : World) (z : Int) (z0 : 0 ≤ z) :
    Calls Try.prog 35 #[.int .u64 z] w fun e w' => e = .returned (.bool (z % 2 == 1)) ∧ w = w' := by
  go_enter Try.func35, Try.ntmps35
  go_wp2
  go_returns
  exact ⟨rfl, rfl⟩

section
variable {w : World} {C : Nat} {t n got node left life : Int} {free : Bool}
set_option maxHeartbeats 1000000 in
theorem goOver_on (hb : Box w C (alCells t n ⟨got, node, left, free, life⟩) 39) (h0 : 1 ≤ node) (h1 : node < n) (h2 : n ≤ 300) (l0 : 0 < left) (l1 : left ≤ 300) :
    Calls Try.prog 36 #[.pointer (some ⟨C, 0, none⟩)] w fun e w' => e = .returned (.bool (left - 1 == 0)) ∧ Box w' C (alCells t n ⟨got, node + 1, left - 1, false, life⟩) 39 ∧ Apart C C w w' := by
  obtain ⟨c0, c1, c2, c3, c4, c5, c6, f⟩ := row7 hb
  have HB := Lib.hid hb
  have hn : Hid (nodeB n (node + 1) = true) := by unfold Hid nodeB; simp; omega
  clear hb
  go_enter Try.func36, Try.ntmps36
  go_wp2
  go_region_with (go_at_call 27; refine (Node_any _ t n (node + 1)).mono ?_; rintro e w1 ⟨rfl, hb1⟩; rw [hn.out]; have B1 : Hid (Box w1 C (alCells t n ⟨got, node + 1, left - 1, false, life⟩) 39) := Lib.hid ((((HB.out.put 5 _).put 4 _).put 3 _).drew.below hb1); have A1 : Hid (Apart C C w w1) := Lib.hid (((((Apart.refl w).putX 5 _).putX 4 _).putX 3 _).drew.trans (Apart.ofBelow hb1)); clear hb1; obtain ⟨d0, d1, d2, d3, d4, d5, d6, f1⟩ := row7 B1.out)
  all_goals
    go_wp2
    go_returns
    exact ⟨rfl, B1.out, A1.out⟩
set_option maxHeartbeats 1000000 in
theorem goOver_end (hb : Box w C (alCells t n ⟨got, node, left, free, life⟩) 39) (h0 : 1 ≤ node) (h1 : n ≤ node) (h2 : n ≤ 300) (h3 : node ≤ n) (l0 : 0 < left) (l1 : left ≤ 300) :
    Calls Try.prog 36 #[.pointer (some ⟨C, 0, none⟩)] w fun e w' => e = .returned (.bool (left - 1 == 0)) ∧ Box w' C (alCells t n ⟨got, 1, left - 1, false, life⟩) 39 ∧ Apart C C w w' := by
  obtain rfl : node = n := by omega
  clear h1 h3
  obtain ⟨c0, c1, c2, c3, c4, c5, c6, f⟩ := row7 hb
  have HB := Lib.hid hb
  have hn : Hid (nodeB node (node + 1) = false) := by unfold Hid nodeB; simp; omega
  clear hb
  go_enter Try.func36, Try.ntmps36
  go_wp2
  go_region_with (go_at_call 27; refine (Node_any _ t node (node + 1)).mono ?_; rintro e w1 ⟨rfl, hb1⟩; rw [hn.out]; have B1 : Hid (Box w1 C (alCells t node ⟨got, node + 1, left - 1, false, life⟩) 39) := Lib.hid ((((HB.out.put 5 _).put 4 _).put 3 _).drew.below hb1); have A1 : Hid (Apart C C w w1) := Lib.hid (((((Apart.refl w).putX 5 _).putX 4 _).putX 3 _).drew.trans (Apart.ofBelow hb1)); clear hb1; obtain ⟨d0, d1, d2, d3, d4, d5, d6, f1⟩ := row7 B1.out)
  all_goals
    go_wp2
    go_returns
    exact ⟨rfl, B1.out.put 3 _, A1.out.putX 3 _⟩
theorem goOver_any (hb : Box w C (alCells t n ⟨got, node, left, free, life⟩) 39) (h0 : 1 ≤ node) (h1 : node ≤ n) (h2 : n ≤ 300) (l0 : 0 < left) (l1 : left ≤ 300) :
    Calls Try.prog 36 #[.pointer (some ⟨C, 0, none⟩)] w fun e w' => e = .returned (.bool (left - 1 == 0)) ∧ Box w' C (alCells t n ⟨got, nextNode n node, left - 1, false, life⟩) 39 ∧ Apart C C w w' := by
  unfold nextNode
  by_cases h : node < n
  · rw [if_pos h]
    exact goOver_on hb h0 h h2 l0 l1
  · rw [if_neg h]
    exact goOver_end hb h0 (by omega) h2 (by omega) l0 l1
end
end Go.Proofs.Ytglkpajnhdamkaa.life
