/- An event's beginning. -/
import Derived.Test.YtmpilokgbblonaaGreatKa07
import Derived.BigRegion
import Derived.Deep.DeepCutAuto
import Derived.BigQuiet
import Derived.Deep.RegionHeld3
namespace Go.Proofs.YtmpilokgbblonaaGreat.hist
open Go.RowKit

set_option maxRecDepth 100000 in
set_option maxHeartbeats 20000000 in
theorem begin_any (w : World) (X : Nat) (f : Nat → Prop) (l : List EvV) (h : Hst w X f l) (hl : l.length ≤ 1000) (t k y : Int) (he : errE l ⟨t, false, k, y, 0, false, 0⟩ = 0) :
    Calls Tryz.prog 21 #[.pointer (some ⟨X, 0, none⟩), .int .i64 t, .agg #[.int .i64 k, .int .i64 y]] w fun e w' => ∃ f', e = .returned (.int .i64 0) ∧ Hst w' X f' (l ++ [⟨t, false, k, y, 0, false, 0⟩]) ∧ Went f f' w w' := by
  obtain ⟨v, o, h, hX, hv, hf⟩ := h
  obtain ⟨ht, hp⟩ := err_zero he
  simp only at ht hp
  obtain ⟨n, rfl⟩ : ∃ n : Nat, t = n := ⟨t.toNat, by omega⟩
  have hn7 : (n : Int) ≤ 7 := ht.2
  obtain ⟨A, c, rfl, hc1, hc2, _⟩ := h.row.slice
  have hMl := calls_le h.valid
  have hap := fun g (hg : _) => h.apart (g := g) hg
  have hrow := h.row
  have hHH := h
  generalize hM : (callsE l).length = M at *
  obtain ⟨cur, hbox, hb1, hb2, hb3, hb4⟩ := h.box
  have c1 := h.c1
  have c0 := h.c0
  have co := h.co (t := n) (by omega)
  have fr := h.free
  have HP := Lib.hid hp
  have hXl := h.lt
  have hn0 : (0 : Int) ≤ n := ht.1
  have hn8 : (n : Int) < 8 := by omega
  have d1 : decide ((0 : Int) ≤ n) = true := decide_eq_true hn0
  have d2 : decide ((n : Int) < 8) = true := decide_eq_true hn8
  obtain ⟨i0, hi, hz0, hz1, hz2⟩ := info_parts Tryzinfo_call
  have hw1 : Below w.heap.size w w := Below.refl _ _
  -- the worlds ahead of the append
  obtain ⟨w0, hw0⟩ : ∃ w0, w0 = w.setCell ⟨X, 1, none⟩ (.int .i64 ((l.length : Int) + 1)) := ⟨_, rfl⟩
  have hs0 : w0.heap.size = w.heap.size := by rw [hw0]; simp
  have hx0 : w0.heap[X]? = some (.cells (cur.setIfInBounds 1 (.int .i64 ((l.length : Int) + 1))) 99 (0, 0)) := by rw [hw0]; exact Joins.block_setCell (i := 1) hbox _
  have hg0 : ∀ g, g ≠ X → w0.heap[g]? = w.heap[g]? := fun g hg => by rw [hw0]; exact Below.heap_setCell _ _ _ _ hg
  have hr0 : Own cells9 9 85 w0 (.slice A M c) (callsE l) := hrow.moved fun g hg => hg0 g (hap g hg)
  have hgh0 : w0.os = w.os ∧ w0.tape = w.tape ∧ w0.output = w.output := by rw [hw0]; exact ⟨rfl, rfl, rfl⟩
  obtain ⟨w3, hw3⟩ : ∃ w3, w3 = (w0.alloc (.cells #[.int .i64 k, .int .i64 y] 47)).alloc (.cells #[.int .i64 (l.length : Int), .int .i64 (-1)] 83) := ⟨_, rfl⟩
  have hb03 : Below w0.heap.size w0 w3 := by rw [hw3]; exact ((Below.refl _ _).alloc (Nat.le_refl _) _).alloc (by simp) _
  have hs3 : w3.heap.size = w.heap.size + 2 := by rw [hw3, ← hs0]; simp
  have q3 : w3.cell? ⟨w.heap.size, 0, none⟩ = some (.int .i64 k) := by rw [hw3, ← hs0]; simp
  have q4 : w3.cell? ⟨w.heap.size, 1, none⟩ = some (.int .i64 y) := by rw [hw3, ← hs0]; simp
  have q1 : w3.cell? ⟨w.heap.size + 1, 0, none⟩ = some (.int .i64 (l.length : Int)) := by rw [hw3, ← hs0]; simp
  have q2 : w3.cell? ⟨w.heap.size + 1, 1, none⟩ = some (.int .i64 (-1)) := by rw [hw3, ← hs0]; simp
  have hx3 : w3.heap[X]? = some (.cells (cur.setIfInBounds 1 (.int .i64 ((l.length : Int) + 1))) 99 (0, 0)) := (hb03.block X (by omega)).trans hx0
  have q0 : w3.cell? ⟨X, 0, none⟩ = some (.slice A M c) := by
    rw [Joins.cell_of_block hx3]
    show (cur.setIfInBounds 1 _)[0]? = _
    rw [Array.getElem?_setIfInBounds, if_neg (by omega)]
    exact hb2
  obtain ⟨w4, hw4⟩ : ∃ w4, w4 = w3.drew.alloc (.cells #[.int .i64 (l.length : Int), .int .i64 (-1), .int .i64 (M : Int), .int .i64 (n : Int), .int .i64 k, .int .i64 y, .int .i64 0, .bool false, .int .i64 0] 85) := ⟨_, rfl⟩
  have hb34 : Below w3.heap.size w3 w4 := by rw [hw4]; exact ((Below.refl _ _).drew).alloc (Nat.le_refl _) _
  have hs4 : w4.heap.size = w3.heap.size + 1 := by rw [hw4]; simp
  obtain ⟨v', w5, hrun, hown, hgr, hat, A', c', hv'⟩ := append_row len9 w4 71 71 85 i0 _ 72 Tryz.underlying71 hi hz0 hz1 hz2 rfl (by decide) (.slice A M c) (callsE l) ⟨n, (l.length : Nat), -1, k, y, 0, false, 0⟩ ((hr0.below hb03).below hb34) w3.heap.size (by
      rw [hw4, hM]
      exact new_cells w3.drew [.int .i64 (l.length : Int), .int .i64 (-1), .int .i64 (M : Int), .int .i64 (n : Int), .int .i64 k, .int .i64 y, .int .i64 0, .bool false, .int .i64 0] _) (one9 _ _) (by unfold maxLen; omega) (by omega)
  subst hv'
  rw [hM] at hown hrun hat
  have hgX : ∀ g, (Value.slice A M c).ownBlock = some g → g ≠ X := hap
  have hx5 : w5.heap[X]? = some (.cells (cur.setIfInBounds 1 (.int .i64 ((l.length : Int) + 1))) 99 (0, 0)) := by
    rw [hgr.block X (by omega) (fun e => hgX X e.symm rfl), hb34.block X (by omega)]
    exact hx3
  have k0 : w5.cell? ⟨X, 0, none⟩ = some (.slice A M c) := by
    rw [Joins.cell_of_block hx5]
    show (cur.setIfInBounds 1 _)[0]? = _
    rw [Array.getElem?_setIfInBounds, if_neg (by omega)]
    exact hb2
  have kn : w5.cell? ⟨X, 2 + n, none⟩ = some (.int .i64 (o n : Nat)) := by
    rw [Joins.cell_of_block hx5]
    show (cur.setIfInBounds 1 _)[2 + n]? = _
    rw [Array.getElem?_setIfInBounds, if_neg (by omega)]
    exact hb4 n (by omega)
  have fr5 : ∀ i, w5.frozen? ⟨X, i, none⟩ = false := fun i => Joins.unfrozen_of_block hx5 i
  have HE : Hid (∀ w6 : World, w6.heap.size = w5.heap.size → w6.os = w5.os → w6.tape = w5.tape → w6.output = w5.output → (∀ g, g ≠ X → w6.heap[g]? = w5.heap[g]?) → w6.heap[X]? = some (.cells (((cur.setIfInBounds 1 (.int .i64 ((l.length : Int) + 1))).setIfInBounds 0 (.slice (some A') (M + 1) c')).setIfInBounds (2 + n) (.int .i64 ((M : Int) + 1))) 99 (0, 0)) → ∃ f', Hst w6 X f' (l ++ [⟨n, false, k, y, 0, false, 0⟩]) ∧ Went f f' w w6) := by
    intro w6 e1 e2 e3 e4 e5 e6
    have hsz := hgr.size
    have hcl : ∀ g, (Value.slice (some A') (M + 1) c').ownBlock = some g → (Value.slice A M c).ownBlock = some g ∨ g = w4.heap.size := fun g hg => by
      rcases hat with hat | hat
      · exact Or.inl (hat ▸ hg)
      · rw [hg] at hat
        exact Or.inr (Option.some.inj hat)
    refine ⟨fun b => f b ∨ (w.heap.size ≤ b ∧ b < w6.heap.size), ⟨_, _, hat_begin hHH hM (by omega) he hbox e6 hown (fun g hg => e5 g ?_), Or.inl hX, fun g hg => ?_, fun b hb => ?_⟩, ?_⟩
    · rcases hcl g hg with h | h
      · exact hgX g h
      · omega
    · rcases hcl g hg with h | h
      · exact Or.inl (hv g h)
      · have h2 := hown.lt hg
        exact Or.inr ⟨by omega, by omega⟩
    · rcases hb with hb | hb
      · have := hf b hb
        omega
      · exact hb.2
    · refine ⟨e2.trans (hgr.os.trans (hb34.os.trans (hb03.os.trans hgh0.1))), e3.trans (hgr.tape.trans (hb34.tape.trans (hb03.tape.trans hgh0.2.1))), e4.trans (hgr.output.trans (hb34.output.trans (hb03.output.trans hgh0.2.2))), by omega, fun b hb hfb => ?_, fun b hb => hb.imp id fun h => h.1⟩
      have hbX : b ≠ X := fun e => hfb (e ▸ hX)
      rw [e5 b hbX, hgr.block b (by omega) (fun e => hfb (hv b e.symm)), hb34.block b (by omega), hb03.block b (by omega), hg0 b hbX]
  have HR := Lib.hid hrun
  have HX5 := Lib.hid hx5
  have HH := Lib.hid hHH
  have HW := Lib.hid hw3
  subst hw4
  subst hw0
  have hX3 : X < w3.heap.size := by omega
  have hS3 : w.heap.size < w3.heap.size := by omega
  have hT3 : w.heap.size + 1 < w3.heap.size := by omega
  have hNN : (l.length : Int) < 1001 := by omega
  clear hrun hown hgr hat hx5 hb34 hb03 hr0 hg0 hx0 hs0 hs4 hHH h hrow hbox hb1 hb2 hb3 hb4 hap hgX hv hf hc1 hc2 hp ht he hs3 hx3 hgh0 hw3
  generalize l.length = N at *
  go_enter Tryz.func21, Tryz.ntmps21
  go_upto_region 6 with (first
    | (go_at_call 43; go_loud (refine (pending_any _ X _ o l (HH.out.below ((Below.refl _ _).alloc (Nat.le_refl _) _)) n).mono ?_; rintro e w1 ⟨rfl, hw⟩; subst hw; rw [decide_eq_true ⟨hn0, hn7⟩, HP.out]))
    | (go_at_call 44; go_in)
    | (go_at_call 42; go_in))
  rw [← HW.out]
  clear c0 c1 co fr HW HH HP d1 d2 hn0
  generalize w.heap.size = s at *
  go_cut [] (fun wx => wx = w5.setCell ⟨X, 0, none⟩ (.slice (some A') (M + 1) c'))
  case first =>
    go_region_law (refine quiet.step_known rfl (.tmp 21) (.tmp 31) 71 rfl (.slice A M c) (.slice (some ⟨w3.heap.size, 0, none⟩) 1 1) _ w5 rfl rfl HR.out ?_)
    all_goals
      go_wp2_with fail
      go_meet
      rfl
  case rest =>
    subst hcut
    clear q0 q1 q2 q3 q4 HR
    go_wp2
    go_region
    go_wp2
    go_returns
    obtain ⟨f', h1, h2⟩ := HE.out ((w5.setCell ⟨X, 0, none⟩ (.slice (some A') (M + 1) c')).setCell ⟨X, 2 + n, none⟩ (.int .i64 ((M : Int) + 1))).drew (by simp) rfl rfl rfl (fun g hg => (Below.heap_setCell _ _ _ _ hg).trans (Below.heap_setCell _ _ _ _ hg)) (Joins.block_setCell (i := 2 + n) (Joins.block_setCell (i := 0) HX5.out _) _)
    exact ⟨f', rfl, h1, h2⟩
end Go.Proofs.YtmpilokgbblonaaGreat.hist
/- An event's end. -/
namespace Go.Proofs.YtmpilokgbblonaaGreat.hist
open Go.RowKit

theorem next_any (w : World) (X N : Nat) (hN : N ≤ 100000) (c1 : w.cell? ⟨X, 1, none⟩ = some (.int .i64 (N : Int))) (fr : ∀ i, w.frozen? ⟨X, i, none⟩ = false) :
    Calls Tryz.prog 44 #[.pointer (some ⟨X, 0, none⟩)] w fun e w' => e = .returned (.int .i64 (N : Int)) ∧ w' = w.setCell ⟨X, 1, none⟩ (.int .i64 ((N : Int) + 1)) := by
  have h1 : (N : Int) ≤ 100000 := by omega
  go_enter Tryz.func44, Tryz.ntmps44
  go_wp2
  go_returns
  exact ⟨rfl, rfl⟩
/-- Behind an end: one call of the row is written over, two cells are. -/
theorem hat_end {w w6 : World} {X i : Nat} {v : Value} {o : Nat → Nat} {l : List EvV} {n : Nat} {c : ClV} {x z : Int} {b : Bool} {cur : Array Value} (h : Hat w X v o l) (hn : n ≤ 7) (he : errE l ⟨n, true, 0, 0, x, b, z⟩ = 0)
    (hc : w.heap[X]? = some (.cells cur 99 (0, 0))) (hi : (callsE l)[i]? = some c) (hd : c.D < 0) (ht : c.T = (n : Int))
    (h6 : w6.heap[X]? = some (.cells ((cur.setIfInBounds 1 (.int .i64 ((l.length : Int) + 1))).setIfInBounds (2 + n) (.int .i64 0)) 99 (0, 0)))
    (hr : Own cells9 9 85 w6 v ((callsE l).set i ⟨c.T, c.B, (l.length : Nat), c.K, c.Y, x, b, z⟩)) :
    Hat w6 X v (fun s => if s = n then 0 else o s) (l ++ [⟨n, true, 0, 0, x, b, z⟩]) := by
  obtain ⟨cur', h1, h2, h3, h4, h5⟩ := h.box
  obtain rfl : cur' = cur := by
    rw [hc] at h1
    simpa using h1.symm
  refine ⟨valid_snoc.2 ⟨h.valid, he⟩, opens_end h.opens rfl rfl, ⟨_, h6, by simpa using h2, ?_, ?_, ?_⟩, by rw [calls_set h.valid rfl hi hd ht]; exact hr⟩
  · rw [Array.getElem?_setIfInBounds, if_neg (by omega), Array.getElem?_setIfInBounds, if_neg (by omega)]
    exact h3
  · rw [Array.getElem?_setIfInBounds, if_neg (by omega), Array.getElem?_setIfInBounds, if_pos rfl, if_pos (by omega)]
    simp
  · intro s hs
    by_cases hsn : s = n
    · subst hsn
      rw [Array.getElem?_setIfInBounds, if_pos rfl, if_pos (by simp; omega), if_pos rfl]
      simp
    · rw [Array.getElem?_setIfInBounds, if_neg (by omega), Array.getElem?_setIfInBounds, if_neg (by omega), if_neg hsn]
      exact h5 s hs
/-- A call of the row written over. -/
theorem own_end {T : TypeId} {w : World} {g i M cap : Nat} {L : List ClV} {c : ClV} {N x z : Int} {b : Bool} (h : Own cells9 9 T w (.slice (some ⟨g, 0, none⟩) M cap) L) (hi : L[i]? = some c) :
    Own cells9 9 T ((((w.setCell ⟨g, i * 9 + 1, none⟩ (.int .i64 N)).setCell ⟨g, i * 9 + 6, none⟩ (.int .i64 x)).setCell ⟨g, i * 9 + 7, none⟩ (.bool b)).setCell ⟨g, i * 9 + 8, none⟩ (.int .i64 z)) (.slice (some ⟨g, 0, none⟩) M cap) (L.set i ⟨c.T, c.B, N, c.K, c.Y, x, b, z⟩) := by
  obtain ⟨hil, rfl⟩ := List.getElem?_eq_some_iff.1 hi
  have h4 := owns_set (owns_set (owns_set (owns_set h (g := g) rfl (m := i * 9 + 1) (.int .i64 N)) (g := g) rfl (m := i * 9 + 6) (.int .i64 x)) (g := g) rfl (m := i * 9 + 7) (.bool b)) (g := g) rfl (m := i * 9 + 8) (.int .i64 z)
  unfold Own
  rw [List.length_set]
  have e := row_ext (f := cells9) (k := 9) len9 (by decide) (L := L.set i ⟨L[i].T, L[i].B, N, L[i].K, L[i].Y, x, b, z⟩) (M := ((((rowCells cells9 L 0).set (i * 9 + 1) (.int .i64 N)).set (i * 9 + 6) (.int .i64 x)).set (i * 9 + 7) (.bool b)).set (i * 9 + 8) (.int .i64 z)) (by simp [row_len len9]) (by
    intro k a j ha hj
    have hrl := row_len (f := cells9) len9 L 0
    have hk := (List.getElem?_eq_some_iff.1 ha).1
    rw [List.length_set] at hk
    have hb : i * 9 + 8 < (rowCells cells9 L 0).length := by omega
    rw [List.getElem?_set] at ha
    by_cases hik : i = k
    · subst hik
      rw [if_pos rfl, if_pos hil] at ha
      obtain rfl := Option.some.inj ha
      have e0 := row_get (f := cells9) len9 L 0 i j hj
      rw [List.getElem?_eq_getElem hil] at e0
      match j, hj with
      | 0, _ => rw [List.getElem?_set_ne (by omega), List.getElem?_set_ne (by omega), List.getElem?_set_ne (by omega), List.getElem?_set_ne (by omega), e0]; rfl
      | 1, _ => rw [List.getElem?_set_ne (by omega), List.getElem?_set_ne (by omega), List.getElem?_set_ne (by omega), List.getElem?_set_self (by omega)]; rfl
      | 2, _ => rw [List.getElem?_set_ne (by omega), List.getElem?_set_ne (by omega), List.getElem?_set_ne (by omega), List.getElem?_set_ne (by omega), e0]; simp [cells9]
      | 3, _ => rw [List.getElem?_set_ne (by omega), List.getElem?_set_ne (by omega), List.getElem?_set_ne (by omega), List.getElem?_set_ne (by omega), e0]; rfl
      | 4, _ => rw [List.getElem?_set_ne (by omega), List.getElem?_set_ne (by omega), List.getElem?_set_ne (by omega), List.getElem?_set_ne (by omega), e0]; rfl
      | 5, _ => rw [List.getElem?_set_ne (by omega), List.getElem?_set_ne (by omega), List.getElem?_set_ne (by omega), List.getElem?_set_ne (by omega), e0]; rfl
      | 6, _ => rw [List.getElem?_set_ne (by omega), List.getElem?_set_ne (by omega), List.getElem?_set_self (by rw [List.length_set]; omega)]; rfl
      | 7, _ => rw [List.getElem?_set_ne (by omega), List.getElem?_set_self (by simp only [List.length_set]; omega)]; rfl
      | 8, _ => rw [List.getElem?_set_self (by simp only [List.length_set]; omega)]; rfl
    · rw [if_neg hik] at ha
      rw [List.getElem?_set_ne (by omega), List.getElem?_set_ne (by omega), List.getElem?_set_ne (by omega), List.getElem?_set_ne (by omega), row_get (f := cells9) len9 L 0 k j hj, ha]
      simp)
  rw [← e]
  exact h4

/-- All that an end does, on the heap. -/
theorem hst_end {w wa : World} {X g i M cap N : Nat} {f : Nat → Prop} {o : Nat → Nat} {l : List EvV} {n : Nat} {c : ClV} {x z : Int} {b : Bool} (h : Hat w X (.slice (some ⟨g, 0, none⟩) M cap) o l) (hX : f X) (hg : f g) (hf : ∀ b, f b → b < w.heap.size) (hN : l.length = N) (hn : (n : Int) ≤ 7) (he : errE l ⟨n, true, 0, 0, x, b, z⟩ = 0)
    (hi : (callsE l)[i]? = some c) (hd : c.D < 0) (ht : c.T = (n : Int)) (hA : Below w.heap.size w wa) :
    ∃ f', Hst ((((((wa.setCell ⟨X, 1, none⟩ (.int .i64 ((N : Int) + 1))).setCell ⟨g, i * 9 + 1, none⟩ (.int .i64 (N : Int))).setCell ⟨g, i * 9 + 6, none⟩ (.int .i64 x)).setCell ⟨g, i * 9 + 7, none⟩ (.bool b)).setCell ⟨g, i * 9 + 8, none⟩ (.int .i64 z)).setCell ⟨X, 2 + n, none⟩ (.int .i64 0)).drew X f' (l ++ [⟨n, true, 0, 0, x, b, z⟩])
      ∧ Went f f' w ((((((wa.setCell ⟨X, 1, none⟩ (.int .i64 ((N : Int) + 1))).setCell ⟨g, i * 9 + 1, none⟩ (.int .i64 (N : Int))).setCell ⟨g, i * 9 + 6, none⟩ (.int .i64 x)).setCell ⟨g, i * 9 + 7, none⟩ (.bool b)).setCell ⟨g, i * 9 + 8, none⟩ (.int .i64 z)).setCell ⟨X, 2 + n, none⟩ (.int .i64 0)).drew := by
  subst hN
  obtain ⟨cur, hbox, hb1, hb2, hb3, hb4⟩ := h.box
  have hXl := h.lt
  have hgX : g ≠ X := h.apart rfl
  have hgl : g < w.heap.size := h.row.lt rfl
  have hrow := h.row.below hA
  have ha := (hA.block X hXl).trans hbox
  obtain ⟨w1, e1⟩ : ∃ w1, w1 = wa.setCell ⟨X, 1, none⟩ (.int .i64 ((l.length : Int) + 1)) := ⟨_, rfl⟩
  have k1 : w1.heap[X]? = some (.cells (cur.setIfInBounds 1 (.int .i64 ((l.length : Int) + 1))) 99 (0, 0)) := by rw [e1]; exact Joins.block_setCell (i := 1) ha _
  have r1 : Own cells9 9 85 w1 (.slice (some ⟨g, 0, none⟩) M cap) (callsE l) := hrow.moved fun g' hg' => by
    obtain rfl : g = g' := by simpa [Value.ownBlock] using hg'
    rw [e1]; exact Below.heap_setCell _ _ _ _ hgX
  have t1 : Went f f wa w1 := by rw [e1]; exact Went.setCell _ _ _ hX
  rw [← e1]
  obtain ⟨w5, e5⟩ : ∃ w5, w5 = (((w1.setCell ⟨g, i * 9 + 1, none⟩ (.int .i64 (l.length : Int))).setCell ⟨g, i * 9 + 6, none⟩ (.int .i64 x)).setCell ⟨g, i * 9 + 7, none⟩ (.bool b)).setCell ⟨g, i * 9 + 8, none⟩ (.int .i64 z) := ⟨_, rfl⟩
  have r5 := own_end (N := (l.length : Int)) (x := x) (z := z) (b := b) r1 hi
  rw [← e5] at r5 ⊢
  have t5 : Went f f w1 w5 := by rw [e5]; exact (((Went.setCell _ _ _ hg).trans (Went.setCell _ _ _ hg)).trans (Went.setCell _ _ _ hg)).trans (Went.setCell _ _ _ hg)
  have k5 : w5.heap[X]? = w1.heap[X]? := by
    rw [e5, Below.heap_setCell _ _ _ _ (Ne.symm hgX), Below.heap_setCell _ _ _ _ (Ne.symm hgX), Below.heap_setCell _ _ _ _ (Ne.symm hgX), Below.heap_setCell _ _ _ _ (Ne.symm hgX)]
  have t6 : Went f f w5 (w5.setCell ⟨X, 2 + n, none⟩ (.int .i64 0)).drew := (Went.setCell w5 ⟨X, 2 + n, none⟩ (.int .i64 0) hX).next ((Below.refl _ _).drew)
  have k6 := Joins.block_setCell (i := 2 + n) (k5.trans k1) (.int .i64 0)
  have hw := Went.ahead hA ((t1.trans t5).trans t6)
  refine ⟨f, ⟨_, _, hat_end h (by omega) he hbox hi hd ht k6 (r5.moved fun g' hg' => ?_), hX, fun g' hg' => ?_, fun b hb => Nat.lt_of_lt_of_le (hf b hb) hw.size⟩, hw⟩
  · obtain rfl : g = g' := by simpa [Value.ownBlock] using hg'
    exact Below.heap_setCell _ _ _ _ hgX
  · obtain rfl : g = g' := by simpa [Value.ownBlock] using hg'
    exact hg

set_option maxRecDepth 100000 in
set_option maxHeartbeats 2000000 in
theorem end_any (w : World) (X : Nat) (f : Nat → Prop) (l : List EvV) (h : Hst w X f l) (hl : l.length ≤ 1000) (t x z : Int) (b : Bool) (he : errE l ⟨t, true, 0, 0, x, b, z⟩ = 0) :
    Calls Tryz.prog 22 #[.pointer (some ⟨X, 0, none⟩), .int .i64 t, .agg #[.int .i64 x, .bool b, .int .i64 z]] w fun e w' => ∃ f', e = .returned (.int .i64 0) ∧ Hst w' X f' (l ++ [⟨t, true, 0, 0, x, b, z⟩]) ∧ Went f f' w w' := by
  obtain ⟨v, o, h, hX, hv, hf⟩ := h
  obtain ⟨ht, hp⟩ := err_zero he
  simp only at ht hp
  obtain ⟨n, rfl⟩ : ∃ n : Nat, t = n := ⟨t.toNat, by omega⟩
  have hn7 : (n : Int) ≤ 7 := ht.2
  have hn0 : (0 : Int) ≤ n := ht.1
  obtain ⟨i, c, hoi, hi, hd, hcT⟩ : ∃ i c, o n = i + 1 ∧ (callsE l)[i]? = some c ∧ c.D < 0 ∧ c.T = (n : Int) := by
    rcases h.opens n (by omega) with ⟨_, h1⟩ | h1
    · rw [hp] at h1
      exact absurd h1 (by decide)
    · exact h1
  have hMl := calls_le h.valid
  have hil := (List.getElem?_eq_some_iff.1 hi).1
  obtain ⟨A, cap, rfl, hc1, hc2, hAz⟩ := h.row.slice
  obtain ⟨g, rfl⟩ : ∃ g, A = some ⟨g, 0, none⟩ := by
    obtain ⟨bb, hb, _⟩ := (h.row.at len9) i hil
    exact ⟨bb.block, by rw [hb, ← hAz bb hb]⟩
  have hgX : g ≠ X := h.apart rfl
  have hgX2 : X ≠ g := fun e => hgX e.symm
  have hfg := hv g rfl
  have hrow := h.row
  have hgl : g < w.heap.size := h.row.lt rfl
  obtain ⟨cg, hbg, hgcell⟩ : ∃ cg, w.heap[g]? = some (.cells cg 85 (0, 0)) ∧ ∀ j, j < 9 → ∃ u, cg[i * 9 + j]? = some u := by
    obtain ⟨_, ⟨h0, _⟩ | ⟨g', cap', cg, hv', _, hb, h1, _, h3, _⟩⟩ := h.row
    · simp at h0
    · obtain rfl : g' = g := by simp at hv'; exact hv'.1.symm
      exact ⟨cg, hb, fun j hj => ⟨cg[i * 9 + j]'(by omega), Array.getElem?_eq_getElem (by omega)⟩⟩
  generalize hM : (callsE l).length = M at *
  obtain ⟨cur, hbox, hb1, hb2, hb3, hb4⟩ := h.box
  have c1 := h.c1
  have c0 := h.c0
  have co := h.co (t := n) (by omega)
  rw [hoi] at co
  have fr := h.free
  have HP := Lib.hid hp
  have HH := Lib.hid h
  have hXl := h.lt
  have hn8 : (n : Int) < 8 := by omega
  have d1 : decide ((0 : Int) ≤ n) = true := decide_eq_true hn0
  have d2 : decide ((n : Int) < 8) = true := decide_eq_true hn8
  have hii : (((i + 1 : Nat) : Int)) = (i : Int) + 1 := by omega
  rw [hii] at co
  have hi0 : (0 : Int) ≤ i := by omega
  have hi1 : (i : Int) < (M : Int) := by omega
  have hi2 : (M : Int) ≤ 1000 := by omega
  have hin : (0 : Int) < (i : Int) + 1 := by omega
  obtain ⟨u1, g1⟩ : ∃ u, w.cell? ⟨g, i * 9 + 1, none⟩ = some u := by rw [Joins.cell_of_block hbg]; exact hgcell 1 (by omega)
  obtain ⟨u6, g6⟩ : ∃ u, w.cell? ⟨g, i * 9 + 6, none⟩ = some u := by rw [Joins.cell_of_block hbg]; exact hgcell 6 (by omega)
  obtain ⟨u7, g7⟩ : ∃ u, w.cell? ⟨g, i * 9 + 7, none⟩ = some u := by rw [Joins.cell_of_block hbg]; exact hgcell 7 (by omega)
  obtain ⟨u8, g8⟩ : ∃ u, w.cell? ⟨g, i * 9 + 8, none⟩ = some u := by rw [Joins.cell_of_block hbg]; exact hgcell 8 (by omega)
  have gfr : ∀ j, w.frozen? ⟨g, j, none⟩ = false := fun j => Joins.unfrozen_of_block hbg j
  have hNN : (l.length : Int) ≤ 1000 := by omega
  have HN := Lib.hid hl
  clear hl h hp ht hv hb1 hb2 hb3 hb4 hbg hgcell hoi hMl hc2 hAz hii
  generalize hN : l.length = N at *
  go_enter Tryz.func22, Tryz.ntmps22
  go_wp2_with (first
    | (go_at_call 43; go_loud (refine (pending_any _ X _ o l (HH.out.below ((Below.refl _ _).alloc (Nat.le_refl _) _)) n).mono ?_; rintro e w1 ⟨rfl, hw⟩; subst hw; rw [decide_eq_true ⟨hn0, hn7⟩, HP.out]))
    | (go_at_call 42; go_in))
  go_quiet (fail)
  go_wp2
  have HA : Hid (Below w.heap.size w ((w.alloc (.cells #[.int .i64 x, .bool b, .int .i64 z] 55)).drewN nq)) := Lib.hid (below_drewN ((Below.refl _ _).alloc (Nat.le_refl _) _) nq)
  have r0 : ((w.alloc (.cells #[.int .i64 x, .bool b, .int .i64 z] 55)).drewN nq).cell? ⟨w.heap.size, 0, none⟩ = some (.int .i64 x) := by simp
  have r1 : ((w.alloc (.cells #[.int .i64 x, .bool b, .int .i64 z] 55)).drewN nq).cell? ⟨w.heap.size, 1, none⟩ = some (.bool b) := by simp
  have r2 : ((w.alloc (.cells #[.int .i64 x, .bool b, .int .i64 z] 55)).drewN nq).cell? ⟨w.heap.size, 2, none⟩ = some (.int .i64 z) := by simp
  generalize (w.alloc (.cells #[.int .i64 x, .bool b, .int .i64 z] 55)).drewN nq = wa at *
  have a0 : wa.cell? ⟨X, 0, none⟩ = _ := (HA.out.cell hXl).trans c0
  have a1 : wa.cell? ⟨X, 1, none⟩ = _ := (HA.out.cell hXl).trans c1
  have an : wa.cell? ⟨X, 2 + n, none⟩ = _ := (HA.out.cell hXl).trans co
  have afr : ∀ i, wa.frozen? ⟨X, i, none⟩ = false := fun i => (HA.out.frozen hXl).trans (fr i)
  have b1 : wa.cell? ⟨g, i * 9 + 1, none⟩ = _ := (HA.out.cell hgl).trans g1
  have b6 : wa.cell? ⟨g, i * 9 + 6, none⟩ = _ := (HA.out.cell hgl).trans g6
  have b7 : wa.cell? ⟨g, i * 9 + 7, none⟩ = _ := (HA.out.cell hgl).trans g7
  have b8 : wa.cell? ⟨g, i * 9 + 8, none⟩ = _ := (HA.out.cell hgl).trans g8
  have bfr : ∀ j, wa.frozen? ⟨g, j, none⟩ = false := fun j => (HA.out.frozen hgl).trans (gfr j)
  have hsX : X ≠ w.heap.size := by omega
  have hsg : g ≠ w.heap.size := by omega
  clear c0 c1 co fr g1 g6 g7 g8 gfr
  go_region_held3 (fun wx => wx.cell? ⟨w.heap.size, 0, none⟩ = some (.int .i64 x) ∧ wx.cell? ⟨w.heap.size, 1, none⟩ = some (.bool b) ∧ wx.cell? ⟨w.heap.size, 2, none⟩ = some (.int .i64 z)) (go_keep) ((go_at_call 44; go_loud (refine (next_any wa.drew X N (by omega) a1 afr).mono ?_; rintro e w1 ⟨rfl, hw⟩; subst hw)))
  go_wp2
  go_returns
  obtain ⟨f', h1, h2⟩ := hst_end HH.out hX hfg hf hN hn7 he hi hd hcT HA.out
  exact ⟨f', rfl, h1, h2⟩
end Go.Proofs.YtmpilokgbblonaaGreat.hist
