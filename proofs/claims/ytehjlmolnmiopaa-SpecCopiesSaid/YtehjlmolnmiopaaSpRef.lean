/- Operations in a slice; the document's functions over them. -/
import Derived.Test.YtehjlmolnmiopaaSpItems
import Derived.WalkSpells
import Derived.WalkLawsBesides
namespace Go.Proofs.Ytehjlmolnmiopaa.spec
open Go.RowKit task

/-- Operations in a slice: one that came in, or one of the call's own. -/
def OpsAt (w : World) (a : Option Addr) (os : List OpV) : Prop := ∀ i (hi : i < os.length), ∃ b, a = some b ∧ w.cell? (b.add (i * 2)) = some (.int .i64 os[i].K) ∧ w.cell? ⟨(b.add (i * 2)).block, (b.add (i * 2)).off + 1, none⟩ = some (.int .i64 os[i].Y)
theorem add_block (b : Addr) (n : Nat) : (b.add n).block = b.block := by
  unfold Addr.add
  split <;> rfl
theorem OpsAt.moved {w w' : World} {a : Option Addr} {os : List OpV} (h : OpsAt w a os) (hb : ∀ b, a = some b → b.block < w.heap.size → w'.heap[b.block]? = w.heap[b.block]?) : OpsAt w' a os := by
  intro i hi
  obtain ⟨b, hb1, h0, h1⟩ := h i hi
  have hl := World.block_lt_of_cell? w _ h0
  rw [add_block] at hl
  have he := hb b hb1 hl
  exact ⟨b, hb1, (World.cell?_of_block (w := w) (by rw [add_block]; exact he)).trans h0, (World.cell?_of_block (w := w) (by show w'.heap[(b.add (i * 2)).block]? = w.heap[(b.add (i * 2)).block]?; rw [add_block]; exact he)).trans h1⟩
theorem OpsAt.below {w w' : World} {B : Nat} {a : Option Addr} {os : List OpV} (h : OpsAt w a os) (hb : Below B w w') (hB : w.heap.size ≤ B) : OpsAt w' a os := h.moved fun _ _ hl => hb.block _ (by omega)
theorem OpsAt.later {w w' : World} {a : Option Addr} {os : List OpV} (h : OpsAt w a os) (hb : Below w.heap.size w w') : OpsAt w' a os := h.below hb (Nat.le_refl _)
theorem OpsAt.take {w : World} {a : Option Addr} {os : List OpV} (h : OpsAt w a os) (n : Nat) : OpsAt w a (os.take n) := by
  intro i hi
  have h2 : i < os.length := by simp at hi; omega
  obtain ⟨b, e, h0, h1⟩ := h i h2
  refine ⟨b, e, ?_⟩
  rw [List.getElem_take]
  exact ⟨h0, h1⟩

set_option maxRecDepth 100000 in
set_option maxHeartbeats 1000000 in
theorem may_any (w : World) (s k y : Int) :
    Calls Try.prog 12 #[.int .i64 s, .agg #[.int .i64 k, .int .i64 y]] w fun e w' => e = .returned (.bool (rightB s k y)) ∧ Below w.heap.size w w' := by
  go_enter Try.func12, Try.ntmps12
  go_wp2
  all_goals
    go_returns
    refine ⟨?_, by go_grown⟩
    refine ret_bool ?_
    rw [right_iff]
    try simp only [decide_eq_true_eq, beq_iff_eq, beq_eq_false_iff_ne, ne_eq, Bool.false_eq_true, true_iff, false_iff] at *
    omega
theorem none_any (w : World) (s : Int) :
    Calls Try.prog 10 #[.int .i64 s] w fun e w' => e = .returned (.bool (!decide (1 ≤ s ∧ s ≤ 4))) ∧ w = w' := by
  go_enter Try.func10, Try.ntmps10
  go_wp2
  all_goals
    go_returns
    refine ⟨ret_bool ?_, rfl⟩
    simp
    try omega

theorem inB_take {l : List OpV} {i : Nat} (hi : i < l.length) (x : Int) : inB (l.take (i + 1)) x = inStep x (inB (l.take i) x) l[i] := by
  rw [List.take_succ_eq_append_getElem hi, inB_snoc]
theorem many_take {l : List OpV} {i : Nat} (hi : i < l.length) : many (l.take (i + 1)) = manyStep (many (l.take i)) l[i] := by
  rw [List.take_succ_eq_append_getElem hi, many_snoc]
theorem puts_take {l : List OpV} {i : Nat} (hi : i < l.length) : putsL (l.take (i + 1)) = putsL (l.take i) ++ if l[i].K = 4 then [l[i].Y] else [] := by
  rw [List.take_succ_eq_append_getElem hi, putsL_snoc]

set_option maxHeartbeats 1000000 in
theorem in_any (w : World) (x : Int) (a : Option Addr) (os : List OpV) (N cap : Nat) (hN : os.length = N) (hl : N ≤ 1000) (hx : OpsAt w a os) :
    Calls Try.prog 30 #[.slice a N cap, .int .i64 x] w fun e w' => e = .returned (.bool (inB os x)) ∧ w = w' := by
  have HX := Lib.hid hx
  have HN := Lib.hid hN
  clear hx hN
  go_enter Try.func30, Try.ntmps30
  go_wp2
  go_loop [5] (fun i => ∃ k : Nat, k ≤ N ∧ i = .int .i64 ((k : Int) - 1) ∧ inB os x = inB (os.take k) x) (fun i => (intOf i + 1).toNat)
  case atStart => exact ⟨N, Nat.le_refl _, rfl, by rw [← HN.out, List.take_length]⟩
  case round =>
    obtain ⟨k, hk, rfl, hin⟩ := hrel
    have HI := Lib.hid hin
    clear hin
    by_cases hlt : 0 < k
    · obtain ⟨j, rfl⟩ : ∃ j, k = j + 1 := ⟨k - 1, by omega⟩
      have hjl : j < os.length := by rw [HN.out]; omega
      obtain ⟨b, rfl, c0, c1⟩ := HX.out j hjl
      have HS := Lib.hid (inB_take hjl x)
      generalize os[j] = o at *
      obtain ⟨K, Y⟩ := o
      have hj1 : (((j + 1 : Nat) : Int) - 1) = (j : Int) := by omega
      rw [hj1]
      have hj2 : (j : Int) < (N : Int) := by omega
      clear hj1 hlt hjl
      simp only at c0 c1
      by_cases hy : Y = x
      · subst hy
        by_cases h1 : K = 1
        · subst h1
          go_wp2
          go_returns
          exact ⟨by rw [HI.out, HS.out]; simp [inStep], rfl⟩
        · have h1b : (K == 1) = false := beq_eq_false_iff_ne.2 h1
          by_cases h2 : K = 2
          · subst h2
            go_wp2
            go_returns
            exact ⟨by rw [HI.out, HS.out]; simp [inStep], rfl⟩
          · have h2b : (K == 2) = false := beq_eq_false_iff_ne.2 h2
            have HH : Hid (inB os Y = inB (os.take j) Y) := by show _ = _; rw [HI.out, HS.out]; simp [inStep, h1, h2]
            clear h1 h2
            go_wp2
            go_round
            case rel => exact ⟨j, by omega, rfl, HH.out⟩
            case measure => simp [intOf]
      · have hyb : (Y == x) = false := beq_eq_false_iff_ne.2 hy
        have HH : Hid (inB os x = inB (os.take j) x) := by show _ = _; rw [HI.out, HS.out]; simp [inStep, hy]
        clear hy
        go_wp2
        go_round
        case rel => exact ⟨j, by omega, rfl, HH.out⟩
        case measure => simp [intOf]
    · obtain rfl : k = 0 := by omega
      go_wp2
      go_returns
      exact ⟨by rw [HI.out]; rfl, rfl⟩
end Go.Proofs.Ytehjlmolnmiopaa.spec
