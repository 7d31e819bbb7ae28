/- An event's beginning. -/
import Derived.Test.YtfacojlheeoppaaHDo
import Derived.BigRegion
import Derived.Deep.DeepCutAuto
namespace Go.Proofs.Ytfacojlheeoppaa.hist
open Go.RowKit

set_option maxRecDepth 100000 in
set_option maxHeartbeats 20000000 in
theorem begin_any (w : World) (X : Nat) (f : Nat → Prop) (l : List EvV) (h : Hst w X f l) (hl : l.length ≤ 1000) (t k y : Int) (he : errE l ⟨t, false, k, y, 0, false, 0⟩ = 0) :
    Calls Try.prog 11 #[.pointer (some ⟨X, 0, none⟩), .int .i64 t, .agg #[.int .i64 k, .int .i64 y]] w fun e w' => ∃ f', e = .returned (.int .i64 0) ∧ Hst w' X f' (l ++ [⟨t, false, k, y, 0, false, 0⟩]) ∧ Went f f' w w' := by
  obtain ⟨v, o, h, hX, hv, hf⟩ := h
  obtain ⟨ht, hp⟩ := err_zero he
  simp only at ht hp
  obtain ⟨n, rfl⟩ : ∃ n : Nat, t = n := ⟨t.toNat, by omega⟩
  have hn7 : (n : Int) ≤ 7 := ht.2
  obtain ⟨A, c, rfl, hc1, hc2, _⟩ := h.row.slice
  have hMl := calls_le h.valid
  have hap := fun g (hg : _) => h.apart (g := g) hg
  have hrow := h.row
  have hHH := h
  generalize hM : (callsE l).length = M at *
  obtain ⟨cur, hbox, hb1, hb2, hb3, hb4⟩ := h.box
  have c1 := h.c1
  have c0 := h.c0
  have co := h.co (t := n) (by omega)
  have fr := h.free
  have HP := Lib.hid hp
  have hXl := h.lt
  have hn0 : (0 : Int) ≤ n := ht.1
  have hn8 : (n : Int) < 8 := by omega
  have d1 : decide ((0 : Int) ≤ n) = true := decide_eq_true hn0
  have d2 : decide ((n : Int) < 8) = true := decide_eq_true hn8
  obtain ⟨i0, hi, hz0, hz1, hz2⟩ := info_parts Tryinfo_call
  have hw1 : Below w.heap.size w w := Below.refl _ _
  -- the worlds ahead of the append
  obtain ⟨w0, hw0⟩ : ∃ w0, w0 = w.setCell ⟨X, 1, none⟩ (.int .i64 ((l.length : Int) + 1)) := ⟨_, rfl⟩
  have hs0 : w0.heap.size = w.heap.size := by rw [hw0]; simp
  have hx0 : w0.heap[X]? = some (.cells (cur.setIfInBounds 1 (.int .i64 ((l.length : Int) + 1))) 60 (0, 0)) := by rw [hw0]; exact Joins.block_setCell (i := 1) hbox _
  have hg0 : ∀ g, g ≠ X → w0.heap[g]? = w.heap[g]? := fun g hg => by rw [hw0]; exact Below.heap_setCell _ _ _ _ hg
  have hr0 : Own cells9 9 51 w0 (.slice A M c) (callsE l) := hrow.moved fun g hg => hg0 g (hap g hg)
  have hgh0 : w0.os = w.os ∧ w0.tape = w.tape ∧ w0.output = w.output := by rw [hw0]; exact ⟨rfl, rfl, rfl⟩
  obtain ⟨w3, hw3⟩ : ∃ w3, w3 = (w0.alloc (.cells #[.int .i64 k, .int .i64 y] 27)).alloc (.cells #[.int .i64 (l.length : Int), .int .i64 (-1)] 49) := ⟨_, rfl⟩
  have hb03 : Below w0.heap.size w0 w3 := by rw [hw3]; exact ((Below.refl _ _).alloc (Nat.le_refl _) _).alloc (by simp) _
  have hs3 : w3.heap.size = w.heap.size + 2 := by rw [hw3, ← hs0]; simp
  have q3 : w3.cell? ⟨w.heap.size, 0, none⟩ = some (.int .i64 k) := by rw [hw3, ← hs0]; simp
  have q4 : w3.cell? ⟨w.heap.size, 1, none⟩ = some (.int .i64 y) := by rw [hw3, ← hs0]; simp
  have q1 : w3.cell? ⟨w.heap.size + 1, 0, none⟩ = some (.int .i64 (l.length : Int)) := by rw [hw3, ← hs0]; simp
  have q2 : w3.cell? ⟨w.heap.size + 1, 1, none⟩ = some (.int .i64 (-1)) := by rw [hw3, ← hs0]; simp
  have hx3 : w3.heap[X]? = some (.cells (cur.setIfInBounds 1 (.int .i64 ((l.length : Int) + 1))) 60 (0, 0)) := (hb03.block X (by omega)).trans hx0
  have q0 : w3.cell? ⟨X, 0, none⟩ = some (.slice A M c) := by
    rw [Joins.cell_of_block hx3]
    show (cur.setIfInBounds 1 _)[0]? = _
    rw [Array.getElem?_setIfInBounds, if_neg (by omega)]
    exact hb2
  obtain ⟨w4, hw4⟩ : ∃ w4, w4 = w3.drew.alloc (.cells #[.int .i64 (l.length : Int), .int .i64 (-1), .int .i64 (M : Int), .int .i64 (n : Int), .int .i64 k, .int .i64 y, .int .i64 0, .bool false, .int .i64 0] 51) := ⟨_, rfl⟩
  have hb34 : Below w3.heap.size w3 w4 := by rw [hw4]; exact ((Below.refl _ _).drew).alloc (Nat.le_refl _) _
  have hs4 : w4.heap.size = w3.heap.size + 1 := by rw [hw4]; simp
  obtain ⟨v', w5, hrun, hown, hgr, hat, A', c', hv'⟩ := append_row len9 w4 46 46 51 i0 _ 72 Try.underlying46 hi hz0 hz1 hz2 rfl (by decide) (.slice A M c) (callsE l) ⟨n, (l.length : Nat), -1, k, y, 0, false, 0⟩ ((hr0.below hb03).below hb34) w3.heap.size (by
      rw [hw4, hM]
      exact new_cells w3.drew [.int .i64 (l.length : Int), .int .i64 (-1), .int .i64 (M : Int), .int .i64 (n : Int), .int .i64 k, .int .i64 y, .int .i64 0, .bool false, .int .i64 0] _) (one9 _ _) (by unfold maxLen; omega) (by omega)
  subst hv'
  rw [hM] at hown hrun hat
  have hgX : ∀ g, (Value.slice A M c).ownBlock = some g → g ≠ X := hap
  have hx5 : w5.heap[X]? = some (.cells (cur.setIfInBounds 1 (.int .i64 ((l.length : Int) + 1))) 60 (0, 0)) := by
    rw [hgr.block X (by omega) (fun e => hgX X e.symm rfl), hb34.block X (by omega)]
    exact hx3
  have k0 : w5.cell? ⟨X, 0, none⟩ = some (.slice A M c) := by
    rw [Joins.cell_of_block hx5]
    show (cur.setIfInBounds 1 _)[0]? = _
    rw [Array.getElem?_setIfInBounds, if_neg (by omega)]
    exact hb2
  have kn : w5.cell? ⟨X, 2 + n, none⟩ = some (.int .i64 (o n : Nat)) := by
    rw [Joins.cell_of_block hx5]
    show (cur.setIfInBounds 1 _)[2 + n]? = _
    rw [Array.getElem?_setIfInBounds, if_neg (by omega)]
    exact hb4 n (by omega)
  have fr5 : ∀ i, w5.frozen? ⟨X, i, none⟩ = false := fun i => Joins.unfrozen_of_block hx5 i
  have HE : Hid (∀ w6 : World, w6.heap.size = w5.heap.size → w6.os = w5.os → w6.tape = w5.tape → w6.output = w5.output → (∀ g, g ≠ X → w6.heap[g]? = w5.heap[g]?) → w6.heap[X]? = some (.cells (((cur.setIfInBounds 1 (.int .i64 ((l.length : Int) + 1))).setIfInBounds 0 (.slice (some A') (M + 1) c')).setIfInBounds (2 + n) (.int .i64 ((M : Int) + 1))) 60 (0, 0)) → ∃ f', Hst w6 X f' (l ++ [⟨n, false, k, y, 0, false, 0⟩]) ∧ Went f f' w w6) := by
    intro w6 e1 e2 e3 e4 e5 e6
    have hsz := hgr.size
    have hcl : ∀ g, (Value.slice (some A') (M + 1) c').ownBlock = some g → (Value.slice A M c).ownBlock = some g ∨ g = w4.heap.size := fun g hg => by
      rcases hat with hat | hat
      · exact Or.inl (hat ▸ hg)
      · rw [hg] at hat
        exact Or.inr (Option.some.inj hat)
    refine ⟨fun b => f b ∨ (w.heap.size ≤ b ∧ b < w6.heap.size), ⟨_, _, hat_begin hHH hM (by omega) he hbox e6 hown (fun g hg => e5 g ?_), Or.inl hX, fun g hg => ?_, fun b hb => ?_⟩, ?_⟩
    · rcases hcl g hg with h | h
      · exact hgX g h
      · omega
    · rcases hcl g hg with h | h
      · exact Or.inl (hv g h)
      · have h2 := hown.lt hg
        exact Or.inr ⟨by omega, by omega⟩
    · rcases hb with hb | hb
      · have := hf b hb
        omega
      · exact hb.2
    · refine ⟨e2.trans (hgr.os.trans (hb34.os.trans (hb03.os.trans hgh0.1))), e3.trans (hgr.tape.trans (hb34.tape.trans (hb03.tape.trans hgh0.2.1))), e4.trans (hgr.output.trans (hb34.output.trans (hb03.output.trans hgh0.2.2))), by omega, fun b hb hfb => ?_, fun b hb => hb.imp id fun h => h.1⟩
      have hbX : b ≠ X := fun e => hfb (e ▸ hX)
      rw [e5 b hbX, hgr.block b (by omega) (fun e => hfb (hv b e.symm)), hb34.block b (by omega), hb03.block b (by omega), hg0 b hbX]
  have HR := Lib.hid hrun
  have HX5 := Lib.hid hx5
  have HH := Lib.hid hHH
  have HW := Lib.hid hw3
  subst hw4
  subst hw0
  have hX3 : X < w3.heap.size := by omega
  have hS3 : w.heap.size < w3.heap.size := by omega
  have hT3 : w.heap.size + 1 < w3.heap.size := by omega
  have hNN : (l.length : Int) < 1001 := by omega
  clear hrun hown hgr hat hx5 hb34 hb03 hr0 hg0 hx0 hs0 hs4 hHH h hrow hbox hb1 hb2 hb3 hb4 hap hgX hv hf hc1 hc2 hp ht he hs3 hx3 hgh0 hw3
  generalize l.length = N at *
  go_enter Try.func11, Try.ntmps11
  go_upto_region 6 with (first
    | (go_at_call 14; go_loud (refine (pending_any _ X _ o l (HH.out.below ((Below.refl _ _).alloc (Nat.le_refl _) _)) n).mono ?_; rintro e w1 ⟨rfl, hw⟩; subst hw; rw [decide_eq_true ⟨hn0, hn7⟩, HP.out]))
    | (go_at_call 26; go_in)
    | (go_at_call 25; go_in))
  rw [← HW.out]
  clear c0 c1 co fr HW HH HP d1 d2 hn0
  generalize w.heap.size = s at *
  go_cut [] (fun wx => wx = w5.setCell ⟨X, 0, none⟩ (.slice (some A') (M + 1) c'))
  case first =>
    go_region_law (refine quiet.step_known rfl (.tmp 21) (.tmp 31) 46 rfl (.slice A M c) (.slice (some ⟨w3.heap.size, 0, none⟩) 1 1) _ w5 rfl rfl HR.out ?_)
    all_goals
      go_wp2_with fail
      go_meet
      rfl
  case rest =>
    subst hcut
    clear q0 q1 q2 q3 q4 HR
    go_wp2
    go_region
    go_wp2
    go_returns
    obtain ⟨f', h1, h2⟩ := HE.out ((w5.setCell ⟨X, 0, none⟩ (.slice (some A') (M + 1) c')).setCell ⟨X, 2 + n, none⟩ (.int .i64 ((M : Int) + 1))).drew (by simp) rfl rfl rfl (fun g hg => (Below.heap_setCell _ _ _ _ hg).trans (Below.heap_setCell _ _ _ _ hg)) (Joins.block_setCell (i := 2 + n) (Joins.block_setCell (i := 0) HX5.out _) _)
    exact ⟨f', rfl, h1, h2⟩
end Go.Proofs.Ytfacojlheeoppaa.hist
