/- task.Of: operations' tasks, one by one, or none, if one isn't right. -/
import Derived.Test.YtipappihophijaaTkAwake
import Derived.Lib.SliceRun
import Derived.OwnWalk
import Derived.Laws.AppendOwn
import Derived.Deep.AppendSrc
import Derived.BigQuiet
namespace Go.Proofs.Ytipappihophijaa.task
open Go.RowKit

/-- An operation as it came in. -/
structure OpV where
  K : Int
  Y : Int
def OpsAt (w : World) (a : Option Addr) (os : List OpV) : Prop := ∀ i (hi : i < os.length), ∃ b, a = some b ∧ w.cell? (b.add (i * 2)) = some (.int .i64 os[i].K) ∧ w.cell? ⟨(b.add (i * 2)).block, (b.add (i * 2)).off + 1, none⟩ = some (.int .i64 os[i].Y)
theorem OpsAt.later {w w' : World} {a : Option Addr} {os : List OpV} (h : OpsAt w a os) (hb : Below w.heap.size w w') : OpsAt w' a os := by
  intro i hi
  obtain ⟨b, hb1, h0, h1⟩ := h i hi
  exact ⟨b, hb1, (hb.cell (World.block_lt_of_cell? w _ h0)).trans h0, (hb.cell (World.block_lt_of_cell? w _ h1)).trans h1⟩

/-- Are the first k right ones? -/
def rightTo (s : Int) (os : List OpV) (k : Nat) : Bool := (os.take k).all fun o => rightB s o.K o.Y
theorem rightTo_succ (s : Int) (os : List OpV) (k : Nat) (hk : k < os.length) : rightTo s os (k + 1) = (rightTo s os k && rightB s os[k].K os[k].Y) := by
  unfold rightTo
  rw [List.take_succ_eq_append_getElem hk, List.all_append, List.all_cons, List.all_nil, Bool.and_true]
theorem rightTo_not {s : Int} {os : List OpV} {k : Nat} (hk : k < os.length) (h : rightB s os[k].K os[k].Y = false) : rightTo s os os.length = false := by
  unfold rightTo
  rw [List.take_length]
  apply Bool.eq_false_iff.2
  intro ha
  have := List.all_eq_true.1 ha os[k] (List.getElem_mem _)
  rw [h] at this
  exact absurd this (by decide)

/-- The tasks' cells. -/
def cellsTo (s : Int) (os : List OpV) (k : Nat) : List Value := (os.take k).flatMap fun o => [.int .i64 s, .int .i64 o.K, .int .i64 o.Y]
theorem cellsTo_succ (s : Int) (os : List OpV) (k : Nat) (hk : k < os.length) : cellsTo s os (k + 1) = cellsTo s os k ++ [.int .i64 s, .int .i64 os[k].K, .int .i64 os[k].Y] := by
  unfold cellsTo
  rw [List.take_succ_eq_append_getElem hk, List.flatMap_append, List.flatMap_cons, List.flatMap_nil, List.append_nil]
theorem cellsTo_get (s : Int) (os : List OpV) : ∀ (k i : Nat) (hi : i < os.length), i < k → (cellsTo s os k)[i * 3]? = some (.int .i64 s) ∧ (cellsTo s os k)[i * 3 + 1]? = some (.int .i64 os[i].K) ∧ (cellsTo s os k)[i * 3 + 2]? = some (.int .i64 os[i].Y) := by
  induction os with
  | nil => intro k i hi; simp at hi
  | cons o os ih =>
    intro k i hi hk
    match k, hk with
    | k + 1, hk =>
      have e : cellsTo s (o :: os) (k + 1) = .int .i64 s :: .int .i64 o.K :: .int .i64 o.Y :: cellsTo s os k := by unfold cellsTo; simp
      rw [e]
      match i, hi, hk with
      | 0, _, _ => exact ⟨rfl, rfl, rfl⟩
      | i + 1, hi, hk =>
        obtain ⟨h0, h1, h2⟩ := ih k i (by simpa using hi) (by omega)
        have e3 : (i + 1) * 3 = i * 3 + 1 + 1 + 1 := by omega
        have e4 : (i + 1) * 3 + 1 = (i * 3 + 1) + 1 + 1 + 1 := by omega
        have e5 : (i + 1) * 3 + 2 = (i * 3 + 2) + 1 + 1 + 1 := by omega
        refine ⟨?_, ?_, ?_⟩
        · rw [e3]; exact h0
        · rw [e4]; exact h1
        · rw [e5]; exact h2

theorem Tryinfo_task : (Try.prog.info? 25).map (fun i => (i.zero, i.size, i.bytes)) = some (some (.agg #[.int .i64 0, .int .i64 0, .int .i64 0]), 3, 24) := by kernel_rfl
/-- What 'make' lays: room for z tasks. -/
theorem make_tasks (w : World) (z : Nat) (hz : z ≤ 1000) :
    ∃ cur : Array Value, cur.size = z * 3 ∧ (Instr.makeSlice 36 (.int .i64 0) (.int .i64 (z : Int))).run Try.prog w = .ok (.slice (some ⟨w.heap.size, 0, none⟩) 0 z) (w.alloc (.cells cur 25)) := by
  obtain ⟨i, hi, h0, h1, h2⟩ := info_parts Tryinfo_task
  have h := run_make (P := Try.prog) w 36 25 i _ Try.underlying36 hi h0 .i64 .i64 0 z (by omega) (by omega) (by rw [h2]; omega) (by omega)
  rw [h1] at h
  simp only [Int.toNat_natCast, Int.toNat_zero] at h
  exact ⟨_, by simp [madeCells], h⟩
end Go.Proofs.Ytipappihophijaa.task
