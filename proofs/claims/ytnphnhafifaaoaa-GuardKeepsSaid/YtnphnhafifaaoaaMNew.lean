/- mem.New: what it refuses; the memory that it makes. -/
import Derived.Test.YtnphnhafifaaoaaM1
import Derived.Laws.CopyOwn
import Derived.Laws.MakeOwn
namespace Go.Proofs.Ytnphnhafifaaoaa.mem
open Go.RowKit

/-- A slice of words in memory, nil or not. -/
def Words (w : World) (a : Option Addr) (ws : List Int) : Prop := ∀ i, i < ws.length → ∃ b, a = some b ∧ w.cell? (b.add i) = some (.int .u64 (ws.getD i 0))
theorem Words.later {w w' : World} {a : Option Addr} {ws : List Int} (h : Words w a ws) (hb : Below w.heap.size w w') : Words w' a ws := by
  intro i hi
  obtain ⟨b, hb1, hc⟩ := h i hi
  exact ⟨b, hb1, (hb.cell (World.block_lt_of_cell? w _ hc)).trans hc⟩
theorem Words.none (w : World) : Words w .none [] := fun i hi => absurd hi (by simp)
/-- The words, and zeros behind them. -/
def padTo (z : Nat) (ws : List Int) : List Int := ws ++ List.replicate (z - ws.length) 0
theorem padTo_length {z : Nat} {ws : List Int} (h : ws.length ≤ z) : (padTo z ws).length = z := by unfold padTo; simp; omega

/-- A new memory was made. -/
structure MadeAt (w : World) (t n : Int) (zs : List Int) (X Y : Nat) (w' : World) : Prop where
  mem : MemAt w' X Y t n zs 0 Last.no
  below : Below w.heap.size w w'
  x : w.heap.size ≤ X
  y : w.heap.size ≤ Y
def Made (w : World) (t n : Int) (zs : List Int) (e : Ending) (w' : World) : Prop := ∃ X Y, e = .returned (.tuple #[.pointer (some ⟨X, 0, .none⟩), .int .i64 0]) ∧ MadeAt w t n zs X Y w'

set_option maxHeartbeats 1000000 in
theorem new_wrong (w : World) (t n : Int) (a : Option Addr) (len cap : Nat) (h : ¬ (1 ≤ t ∧ t ≤ 8 ∧ 1 ≤ n ∧ n ≤ 200)) :
    Calls Try.prog 25 #[.agg #[.int .i64 t, .int .i64 n], .slice a len cap] w fun e w' => e = .returned (.tuple #[.pointer .none, .int .i64 1]) ∧ Below w.heap.size w w' := by
  have HR := Lib.hid (rightB_no h)
  clear h
  go_enter Try.func25, Try.ntmps25
  go_wp2_with (go_at_call 46; refine (Right_any _ t n).mono ?_; rintro e w1 ⟨rfl, hb1⟩; rw [HR.out]; have HB := Lib.hid hb1; clear hb1)
  go_returns
  exact ⟨rfl, by have hb := HB.out; have hb2 := hb.mono (B' := w.heap.size) (by simp; omega); refine Below.trans ?_ hb2; go_grown⟩

set_option maxHeartbeats 1000000 in
theorem new_long (w : World) (t n : Int) (a : Option Addr) (len cap : Nat) (t0 : 1 ≤ t) (t1 : t ≤ 8) (n0 : 1 ≤ n) (n1 : n ≤ 200) (hl : 2 * n + 6 + 5 * t < (len : Int)) :
    Calls Try.prog 25 #[.agg #[.int .i64 t, .int .i64 n], .slice a len cap] w fun e w' => e = .returned (.tuple #[.pointer .none, .int .i64 6]) ∧ Below w.heap.size w w' := by
  have HR := Lib.hid (rightB_yes ⟨t0, t1, n0, n1⟩)
  go_enter Try.func25, Try.ntmps25
  go_wp2_with (first | (go_at_call 46; refine (Right_any _ t n).mono ?_; rintro e w1 ⟨rfl, hb1⟩; rw [HR.out]; obtain ⟨hc1, hf1⟩ := bcell hb1; have hz1 := hb1.size; simp at hz1; have HB := Lib.hid hb1; clear hb1) | (go_at_call 47; refine (Size_any _ t n (by omega) (by omega) (by omega) (by omega)).mono ?_; rintro e w2 ⟨rfl, hb2⟩; have HC := Lib.hid hb2; clear hb2))
  go_returns
  exact ⟨rfl, by have hb := HB.out; have hb2 := hb.mono (B' := w.heap.size) (by simp; omega); have hc2 := HC.out.mono (B' := w.heap.size) (by have := hb.size; simp at this; omega); refine Below.trans (Below.trans ?_ hb2) hc2; go_grown⟩

theorem Tryinfo_u64 : (Try.prog.info? 25).map (fun i => (i.zero, i.size, i.bytes)) = some (some (.int .u64 0), 1, 8) := by kernel_rfl

/-- What 'make' lays. -/
theorem make_words (w : World) (z : Nat) (hz : z ≤ 1000) :
    (Instr.makeSlice 24 (.int .i64 (z : Int)) (.int .i64 (z : Int))).run Try.prog w = .ok (.slice (some ⟨w.heap.size, 0, .none⟩) z z) (w.alloc (.cells (wordCells (List.replicate z 0)) 25)) := by
  obtain ⟨i, hi, h0, h1, h2⟩ := info_parts Tryinfo_u64
  have h := run_make (P := Try.prog) w 24 25 i (.int .u64 0) Try.underlying24 hi h0 .i64 .i64 z z (by omega) (by omega) (by rw [h2]; omega) (by omega)
  rw [h1] at h
  simp only [Int.toNat_natCast, Nat.mul_one] at h
  rw [h]
  congr 3
  unfold wordCells madeCells
  apply Array.ext
  · simp
  · intro j hj1 hj2
    simp [Value.cells, Nat.mod_one]

/-- The head of a memory whose words aren't made yet. -/
def Bare (w : World) (X : Nat) (t n : Int) : Prop := w.heap[X]? = some (.cells #[.int .i64 t, .int .i64 n, .slice .none 0 0, .int .i64 0, .int .i64 0, .int .i64 0, .int .u64 0, .int .u64 0, .bool false] 68 (0, 0))
theorem Bare.lt {w : World} {X : Nat} {t n : Int} (h : Bare w X t n) : X < w.heap.size := by
  unfold Bare at h
  exact (Array.getElem?_eq_some_iff.1 h).1
theorem Bare.below {w w' : World} {X : Nat} {t n : Int} (h : Bare w X t n) (hb : Below w.heap.size w w') : Bare w' X t n := (hb.block X h.lt).trans h
theorem Bare.new (w : World) (t n : Int) : Bare (w.alloc (.cells #[.int .i64 t, .int .i64 n, .slice .none 0 0, .int .i64 0, .int .i64 0, .int .i64 0, .int .u64 0, .int .u64 0, .bool false] 68)) w.heap.size t n := by
  unfold Bare
  show (w.heap.push _)[w.heap.size]? = _
  simp

/-- Its cells. -/
structure BareRow (w : World) (X : Nat) (t n : Int) : Prop where
  c0 : w.cell? ⟨X, 0, .none⟩ = some (.int .i64 t)
  c1 : w.cell? ⟨X, 1, .none⟩ = some (.int .i64 n)
  c2 : w.cell? ⟨X, 2, .none⟩ = some (.slice .none 0 0)
  f : ∀ i, w.frozen? ⟨X, i, .none⟩ = false
  x : X < w.heap.size
theorem Bare.row {w : World} {X : Nat} {t n : Int} (h : Bare w X t n) : BareRow w X t n :=
  ⟨by rw [Joins.cell_of_block h]; rfl, by rw [Joins.cell_of_block h]; rfl, by rw [Joins.cell_of_block h]; rfl, Joins.unfrozen_of_block h, h.lt⟩
/-- The way to a new memory: its head is there, nothing that was there has changed. -/
structure Way (W w : World) (X : Nat) (t n : Int) : Prop where
  bare : Bare w X t n
  below : Below W.heap.size W w
  x : W.heap.size ≤ X
theorem Way.next {W w w' : World} {X : Nat} {t n : Int} (h : Way W w X t n) (hb : Below w.heap.size w w') : Way W w' X t n := ⟨h.bare.below hb, past h.below hb, h.x⟩
theorem Way.new (w : World) (o : Obj) (t n : Int) : Way w ((w.alloc o).alloc (.cells #[.int .i64 t, .int .i64 n, .slice .none 0 0, .int .i64 0, .int .i64 0, .int .i64 0, .int .u64 0, .int .u64 0, .bool false] 68)) (w.heap.size + 1) t n :=
  ⟨by have := Bare.new (w.alloc o) t n; simpa using this, ((Below.refl _ _).alloc (Nat.le_refl _) o).alloc (by simp) _, by omega⟩

theorem new_block (w : World) (cs : Array Value) (T : TypeId) {g : Nat} (hg : w.heap.size = g) : (w.alloc (.cells cs T)).heap[g]? = some (.cells cs T (0, 0)) := by
  subst hg
  show (w.heap.push _)[w.heap.size]? = _
  simp
theorem replicate_drop_words (z k : Nat) : ((List.replicate z (0 : Int)).drop k) = List.replicate (z - k) 0 := by simp
/-- WHAT 'copy' LEAVES of words that came in, in a row that was just made. -/
theorem copy_words (W : World) (g z : Nat) (a : Option Addr) (ws : List Int) (N cap : Nat) (hg : W.heap[g]? = some (.cells (wordCells (List.replicate z 0)) 25 (0, 0))) (hN : ws.length = N) (hl : N ≤ z) (hw : Words W a ws) :
    ∃ w4, (Builtin.copy_ #[24, 24] 3 #[.slice (some ⟨g, 0, .none⟩) z z, .slice a N cap]).run Try.prog W = .ok (goInt N) w4 ∧ w4.heap[g]? = some (.cells (wordCells (padTo z ws)) 25 (0, 0)) ∧ Below g W w4 := by
  subst hN
  have hsz : (Try.prog.info? 25).map (·.size) = some 1 := by kernel_rfl
  by_cases h0 : ws.length = 0
  · obtain rfl : ws = [] := List.eq_nil_of_length_eq_zero h0
    have h := run_copy_none (P := Try.prog) W 24 24 3 25 (some ⟨g, 0, .none⟩) a z z 0 cap Try.underlying24 hsz (by simp)
    exact ⟨W, h, by simpa [padTo] using hg, Below.refl _ _⟩
  · obtain ⟨b, rfl, _⟩ := hw 0 (by omega)
    have hsrc : ∀ j v, (ws.map (Value.int .u64))[j]? = some v → W.cell? (b.add j) = some v := by
      intro j v hj
      rw [List.getElem?_map] at hj
      obtain ⟨x, hx, rfl⟩ := Option.map_eq_some_iff.1 hj
      obtain ⟨hlt, hxe⟩ := List.getElem?_eq_some_iff.1 hx
      obtain ⟨b2, hb2, hc⟩ := hw j hlt
      obtain rfl : b = b2 := Option.some.inj hb2
      rw [hc, List.getD_eq_getElem?_getD, hx]
      rfl
    have h := run_copy_row Try.prog W 24 24 3 25 g 0 z z b ws.length cap _ 25 (ws.map (Value.int .u64)) Try.underlying24 hsz hg (by simp [Nat.min_eq_left hl]) hsrc (by simp [wordCells]; omega) (by intro v hv; obtain ⟨x, _, rfl⟩ := List.mem_map.1 hv; rfl)
    refine ⟨_, by simpa using h, ?_, below_setRow (Below.refl _ _) (Nat.le_refl _) _⟩
    rw [setRow_heap W g _ _ 25 _ hg]
    unfold wordCells padTo
    simp

set_option maxHeartbeats 2000000 in
theorem new_ok (w : World) (t n : Int) (a : Option Addr) (ws : List Int) (N cap z : Nat) (hN : ws.length = N) (t0 : 1 ≤ t) (t1 : t ≤ 8) (n0 : 1 ≤ n) (n1 : n ≤ 200) (hz : (z : Int) = 2 * n + 6 + 5 * t) (hl : N ≤ z) (hw : Words w a ws) :
    Calls Try.prog 25 #[.agg #[.int .i64 t, .int .i64 n], .slice a N cap] w (Made w t n (padTo z ws)) := by
  have HR := Lib.hid (rightB_yes ⟨t0, t1, n0, n1⟩)
  have HZ := Lib.hid hz
  have HW := Lib.hid hw
  have HN := Lib.hid hN
  have hmk : ∀ w : World, (Instr.makeSlice 24 (.int .i64 (z : Int)) (.int .i64 (z : Int))).run Try.prog w = .ok (.slice (some ⟨w.heap.size, 0, .none⟩) z z) (w.alloc (.cells (wordCells (List.replicate z 0)) 25)) := fun w => make_words w z (by omega)
  have B0 := Lib.hid (Way.new w (.cells #[.int .i64 t, .int .i64 n] 28) t n)
  clear hN hz hw
  go_enter Try.func25, Try.ntmps25
  go_wp2_with (first | (go_at_call 46; refine (Right_any _ t n).mono ?_; rintro e w1 ⟨rfl, hb1⟩; rw [HR.out]; have T := Lib.hid (B0.out.next hb1); clear B0 hb1; have B0 := T; clear T; obtain ⟨c0, c1, c2, fx, hx⟩ := B0.out.bare.row) | (go_at_call 47; refine (Size_any _ t n (by omega) (by omega) (by omega) (by omega)).mono ?_; rintro e w2 ⟨rfl, hb2⟩; rw [← HZ.out]; have T := Lib.hid (B0.out.next hb2); clear B0 hb2; have B0 := T; clear T; obtain ⟨d0, d1, d2, fy, hy⟩ := B0.out.bare.row))
  have hb := B0.out
  have hblk : ((w2.setCell ⟨w.heap.size + 1, 2, .none⟩ (.slice (some ⟨w2.heap.size, 0, .none⟩) z z)).alloc (.cells (wordCells (List.replicate z 0)) 25)).heap[w2.heap.size]? = some (.cells (wordCells (List.replicate z 0)) 25 (0, 0)) := new_block _ _ _ (by simp)
  have hbel : Below w.heap.size w ((w2.setCell ⟨w.heap.size + 1, 2, .none⟩ (.slice (some ⟨w2.heap.size, 0, .none⟩) z z)).alloc (.cells (wordCells (List.replicate z 0)) 25)) := (hb.below.setCell (by simp) _).alloc (by simp; omega) _
  obtain ⟨w4, hrun, hg4, hb4⟩ := copy_words _ w2.heap.size z a ws N cap hblk HN.out hl (HW.out.later hbel)
  have hd4 : w4.heap[w.heap.size + 1]? = some (.cells #[.int .i64 t, .int .i64 n, .slice (some ⟨w2.heap.size, 0, .none⟩) z z, .int .i64 0, .int .i64 0, .int .i64 0, .int .u64 0, .int .u64 0, .bool false] 68 (0, 0)) := by
    refine (hb4.block _ hy).trans ((Below.heap_alloc _ _ _ (by simpa using hy)).trans ?_)
    exact Joins.block_setCell (i := 2) hb.bare _
  have hm4 : MadeAt w t n (padTo z ws) (w.heap.size + 1) w2.heap.size w4 := by
    have hlen : (padTo z ws).length = z := padTo_length (by have := HN.out; omega)
    exact ⟨⟨⟨z, by rw [hlen]; exact hd4⟩, ⟨#[], by rw [Array.append_empty]; exact hg4⟩, by omega⟩, hbel.trans (hb4.mono (by omega)), by omega, by omega⟩
  have HM := Lib.hid hm4
  clear hm4 hd4 hg4 hb4 hbel hblk hb
  rw [hrun]
  go_wp2
  go_returns
  exact ⟨_, _, rfl, HM.out⟩
end Go.Proofs.Ytnphnhafifaaoaa.mem
