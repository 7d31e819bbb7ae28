/- An event's end. -/
import Derived.Test.YtfacojlheeoppaaHDo
import Derived.BigQuiet
import Derived.Deep.RegionHeld3
namespace Go.Proofs.Ytfacojlheeoppaa.hist
open Go.RowKit

theorem next_any (w : World) (X N : Nat) (hN : N ≤ 100000) (c1 : w.cell? ⟨X, 1, none⟩ = some (.int .i64 (N : Int))) (fr : ∀ i, w.frozen? ⟨X, i, none⟩ = false) :
    Calls Try.prog 26 #[.pointer (some ⟨X, 0, none⟩)] w fun e w' => e = .returned (.int .i64 (N : Int)) ∧ w' = w.setCell ⟨X, 1, none⟩ (.int .i64 ((N : Int) + 1)) := by
  have h1 : (N : Int) ≤ 100000 := by omega
  go_enter Try.func26, Try.ntmps26
  go_wp2
  go_returns
  exact ⟨rfl, rfl⟩
/-- Behind an end: one call of the row is written over, two cells are. -/
theorem hat_end {w w6 : World} {X i : Nat} {v : Value} {o : Nat → Nat} {l : List EvV} {n : Nat} {c : ClV} {x z : Int} {b : Bool} {cur : Array Value} (h : Hat w X v o l) (hn : n ≤ 7) (he : errE l ⟨n, true, 0, 0, x, b, z⟩ = 0)
    (hc : w.heap[X]? = some (.cells cur 60 (0, 0))) (hi : (callsE l)[i]? = some c) (hd : c.D < 0) (ht : c.T = (n : Int))
    (h6 : w6.heap[X]? = some (.cells ((cur.setIfInBounds 1 (.int .i64 ((l.length : Int) + 1))).setIfInBounds (2 + n) (.int .i64 0)) 60 (0, 0)))
    (hr : Own cells9 9 51 w6 v ((callsE l).set i ⟨c.T, c.B, (l.length : Nat), c.K, c.Y, x, b, z⟩)) :
    Hat w6 X v (fun s => if s = n then 0 else o s) (l ++ [⟨n, true, 0, 0, x, b, z⟩]) := by
  obtain ⟨cur', h1, h2, h3, h4, h5⟩ := h.box
  obtain rfl : cur' = cur := by
    rw [hc] at h1
    simpa using h1.symm
  refine ⟨valid_snoc.2 ⟨h.valid, he⟩, opens_end h.opens rfl rfl, ⟨_, h6, by simpa using h2, ?_, ?_, ?_⟩, by rw [calls_set h.valid rfl hi hd ht]; exact hr⟩
  · rw [Array.getElem?_setIfInBounds, if_neg (by omega), Array.getElem?_setIfInBounds, if_neg (by omega)]
    exact h3
  · rw [Array.getElem?_setIfInBounds, if_neg (by omega), Array.getElem?_setIfInBounds, if_pos rfl, if_pos (by omega)]
    simp
  · intro s hs
    by_cases hsn : s = n
    · subst hsn
      rw [Array.getElem?_setIfInBounds, if_pos rfl, if_pos (by simp; omega), if_pos rfl]
      simp
    · rw [Array.getElem?_setIfInBounds, if_neg (by omega), Array.getElem?_setIfInBounds, if_neg (by omega), if_neg hsn]
      exact h5 s hs
/-- A call of the row written over. -/
theorem own_end {T : TypeId} {w : World} {g i M cap : Nat} {L : List ClV} {c : ClV} {N x z : Int} {b : Bool} (h : Own cells9 9 T w (.slice (some ⟨g, 0, none⟩) M cap) L) (hi : L[i]? = some c) :
    Own cells9 9 T ((((w.setCell ⟨g, i * 9 + 1, none⟩ (.int .i64 N)).setCell ⟨g, i * 9 + 6, none⟩ (.int .i64 x)).setCell ⟨g, i * 9 + 7, none⟩ (.bool b)).setCell ⟨g, i * 9 + 8, none⟩ (.int .i64 z)) (.slice (some ⟨g, 0, none⟩) M cap) (L.set i ⟨c.T, c.B, N, c.K, c.Y, x, b, z⟩) := by
  obtain ⟨hil, rfl⟩ := List.getElem?_eq_some_iff.1 hi
  have h4 := owns_set (owns_set (owns_set (owns_set h (g := g) rfl (m := i * 9 + 1) (.int .i64 N)) (g := g) rfl (m := i * 9 + 6) (.int .i64 x)) (g := g) rfl (m := i * 9 + 7) (.bool b)) (g := g) rfl (m := i * 9 + 8) (.int .i64 z)
  unfold Own
  rw [List.length_set]
  have e := row_ext (f := cells9) (k := 9) len9 (by decide) (L := L.set i ⟨L[i].T, L[i].B, N, L[i].K, L[i].Y, x, b, z⟩) (M := ((((rowCells cells9 L 0).set (i * 9 + 1) (.int .i64 N)).set (i * 9 + 6) (.int .i64 x)).set (i * 9 + 7) (.bool b)).set (i * 9 + 8) (.int .i64 z)) (by simp [row_len len9]) (by
    intro k a j ha hj
    have hrl := row_len (f := cells9) len9 L 0
    have hk := (List.getElem?_eq_some_iff.1 ha).1
    rw [List.length_set] at hk
    have hb : i * 9 + 8 < (rowCells cells9 L 0).length := by omega
    rw [List.getElem?_set] at ha
    by_cases hik : i = k
    · subst hik
      rw [if_pos rfl, if_pos hil] at ha
      obtain rfl := Option.some.inj ha
      have e0 := row_get (f := cells9) len9 L 0 i j hj
      rw [List.getElem?_eq_getElem hil] at e0
      match j, hj with
      | 0, _ => rw [List.getElem?_set_ne (by omega), List.getElem?_set_ne (by omega), List.getElem?_set_ne (by omega), List.getElem?_set_ne (by omega), e0]; rfl
      | 1, _ => rw [List.getElem?_set_ne (by omega), List.getElem?_set_ne (by omega), List.getElem?_set_ne (by omega), List.getElem?_set_self (by omega)]; rfl
      | 2, _ => rw [List.getElem?_set_ne (by omega), List.getElem?_set_ne (by omega), List.getElem?_set_ne (by omega), List.getElem?_set_ne (by omega), e0]; simp [cells9]
      | 3, _ => rw [List.getElem?_set_ne (by omega), List.getElem?_set_ne (by omega), List.getElem?_set_ne (by omega), List.getElem?_set_ne (by omega), e0]; rfl
      | 4, _ => rw [List.getElem?_set_ne (by omega), List.getElem?_set_ne (by omega), List.getElem?_set_ne (by omega), List.getElem?_set_ne (by omega), e0]; rfl
      | 5, _ => rw [List.getElem?_set_ne (by omega), List.getElem?_set_ne (by omega), List.getElem?_set_ne (by omega), List.getElem?_set_ne (by omega), e0]; rfl
      | 6, _ => rw [List.getElem?_set_ne (by omega), List.getElem?_set_ne (by omega), List.getElem?_set_self (by rw [List.length_set]; omega)]; rfl
      | 7, _ => rw [List.getElem?_set_ne (by omega), List.getElem?_set_self (by simp only [List.length_set]; omega)]; rfl
      | 8, _ => rw [List.getElem?_set_self (by simp only [List.length_set]; omega)]; rfl
    · rw [if_neg hik] at ha
      rw [List.getElem?_set_ne (by omega), List.getElem?_set_ne (by omega), List.getElem?_set_ne (by omega), List.getElem?_set_ne (by omega), row_get (f := cells9) len9 L 0 k j hj, ha]
      simp)
  rw [← e]
  exact h4

/-- All that an end does, on the heap. -/
theorem hst_end {w wa : World} {X g i M cap N : Nat} {f : Nat → Prop} {o : Nat → Nat} {l : List EvV} {n : Nat} {c : ClV} {x z : Int} {b : Bool} (h : Hat w X (.slice (some ⟨g, 0, none⟩) M cap) o l) (hX : f X) (hg : f g) (hf : ∀ b, f b → b < w.heap.size) (hN : l.length = N) (hn : (n : Int) ≤ 7) (he : errE l ⟨n, true, 0, 0, x, b, z⟩ = 0)
    (hi : (callsE l)[i]? = some c) (hd : c.D < 0) (ht : c.T = (n : Int)) (hA : Below w.heap.size w wa) :
    ∃ f', Hst ((((((wa.setCell ⟨X, 1, none⟩ (.int .i64 ((N : Int) + 1))).setCell ⟨g, i * 9 + 1, none⟩ (.int .i64 (N : Int))).setCell ⟨g, i * 9 + 6, none⟩ (.int .i64 x)).setCell ⟨g, i * 9 + 7, none⟩ (.bool b)).setCell ⟨g, i * 9 + 8, none⟩ (.int .i64 z)).setCell ⟨X, 2 + n, none⟩ (.int .i64 0)).drew X f' (l ++ [⟨n, true, 0, 0, x, b, z⟩])
      ∧ Went f f' w ((((((wa.setCell ⟨X, 1, none⟩ (.int .i64 ((N : Int) + 1))).setCell ⟨g, i * 9 + 1, none⟩ (.int .i64 (N : Int))).setCell ⟨g, i * 9 + 6, none⟩ (.int .i64 x)).setCell ⟨g, i * 9 + 7, none⟩ (.bool b)).setCell ⟨g, i * 9 + 8, none⟩ (.int .i64 z)).setCell ⟨X, 2 + n, none⟩ (.int .i64 0)).drew := by
  subst hN
  obtain ⟨cur, hbox, hb1, hb2, hb3, hb4⟩ := h.box
  have hXl := h.lt
  have hgX : g ≠ X := h.apart rfl
  have hgl : g < w.heap.size := h.row.lt rfl
  have hrow := h.row.below hA
  have ha := (hA.block X hXl).trans hbox
  obtain ⟨w1, e1⟩ : ∃ w1, w1 = wa.setCell ⟨X, 1, none⟩ (.int .i64 ((l.length : Int) + 1)) := ⟨_, rfl⟩
  have k1 : w1.heap[X]? = some (.cells (cur.setIfInBounds 1 (.int .i64 ((l.length : Int) + 1))) 60 (0, 0)) := by rw [e1]; exact Joins.block_setCell (i := 1) ha _
  have r1 : Own cells9 9 51 w1 (.slice (some ⟨g, 0, none⟩) M cap) (callsE l) := hrow.moved fun g' hg' => by
    obtain rfl : g = g' := by simpa [Value.ownBlock] using hg'
    rw [e1]; exact Below.heap_setCell _ _ _ _ hgX
  have t1 : Went f f wa w1 := by rw [e1]; exact Went.setCell _ _ _ hX
  rw [← e1]
  obtain ⟨w5, e5⟩ : ∃ w5, w5 = (((w1.setCell ⟨g, i * 9 + 1, none⟩ (.int .i64 (l.length : Int))).setCell ⟨g, i * 9 + 6, none⟩ (.int .i64 x)).setCell ⟨g, i * 9 + 7, none⟩ (.bool b)).setCell ⟨g, i * 9 + 8, none⟩ (.int .i64 z) := ⟨_, rfl⟩
  have r5 := own_end (N := (l.length : Int)) (x := x) (z := z) (b := b) r1 hi
  rw [← e5] at r5 ⊢
  have t5 : Went f f w1 w5 := by rw [e5]; exact (((Went.setCell _ _ _ hg).trans (Went.setCell _ _ _ hg)).trans (Went.setCell _ _ _ hg)).trans (Went.setCell _ _ _ hg)
  have k5 : w5.heap[X]? = w1.heap[X]? := by
    rw [e5, Below.heap_setCell _ _ _ _ (Ne.symm hgX), Below.heap_setCell _ _ _ _ (Ne.symm hgX), Below.heap_setCell _ _ _ _ (Ne.symm hgX), Below.heap_setCell _ _ _ _ (Ne.symm hgX)]
  have t6 : Went f f w5 (w5.setCell ⟨X, 2 + n, none⟩ (.int .i64 0)).drew := (Went.setCell w5 ⟨X, 2 + n, none⟩ (.int .i64 0) hX).next ((Below.refl _ _).drew)
  have k6 := Joins.block_setCell (i := 2 + n) (k5.trans k1) (.int .i64 0)
  have hw := Went.ahead hA ((t1.trans t5).trans t6)
  refine ⟨f, ⟨_, _, hat_end h (by omega) he hbox hi hd ht k6 (r5.moved fun g' hg' => ?_), hX, fun g' hg' => ?_, fun b hb => Nat.lt_of_lt_of_le (hf b hb) hw.size⟩, hw⟩
  · obtain rfl : g = g' := by simpa [Value.ownBlock] using hg'
    exact Below.heap_setCell _ _ _ _ hgX
  · obtain rfl : g = g' := by simpa [Value.ownBlock] using hg'
    exact hg

set_option maxRecDepth 100000 in
set_option maxHeartbeats 2000000 in
theorem end_any (w : World) (X : Nat) (f : Nat → Prop) (l : List EvV) (h : Hst w X f l) (hl : l.length ≤ 1000) (t x z : Int) (b : Bool) (he : errE l ⟨t, true, 0, 0, x, b, z⟩ = 0) :
    Calls Try.prog 10 #[.pointer (some ⟨X, 0, none⟩), .int .i64 t, .agg #[.int .i64 x, .bool b, .int .i64 z]] w fun e w' => ∃ f', e = .returned (.int .i64 0) ∧ Hst w' X f' (l ++ [⟨t, true, 0, 0, x, b, z⟩]) ∧ Went f f' w w' := by
  obtain ⟨v, o, h, hX, hv, hf⟩ := h
  obtain ⟨ht, hp⟩ := err_zero he
  simp only at ht hp
  obtain ⟨n, rfl⟩ : ∃ n : Nat, t = n := ⟨t.toNat, by omega⟩
  have hn7 : (n : Int) ≤ 7 := ht.2
  have hn0 : (0 : Int) ≤ n := ht.1
  obtain ⟨i, c, hoi, hi, hd, hcT⟩ : ∃ i c, o n = i + 1 ∧ (callsE l)[i]? = some c ∧ c.D < 0 ∧ c.T = (n : Int) := by
    rcases h.opens n (by omega) with ⟨_, h1⟩ | h1
    · rw [hp] at h1
      exact absurd h1 (by decide)
    · exact h1
  have hMl := calls_le h.valid
  have hil := (List.getElem?_eq_some_iff.1 hi).1
  obtain ⟨A, cap, rfl, hc1, hc2, hAz⟩ := h.row.slice
  obtain ⟨g, rfl⟩ : ∃ g, A = some ⟨g, 0, none⟩ := by
    obtain ⟨bb, hb, _⟩ := (h.row.at len9) i hil
    exact ⟨bb.block, by rw [hb, ← hAz bb hb]⟩
  have hgX : g ≠ X := h.apart rfl
  have hgX2 : X ≠ g := fun e => hgX e.symm
  have hfg := hv g rfl
  have hrow := h.row
  have hgl : g < w.heap.size := h.row.lt rfl
  obtain ⟨cg, hbg, hgcell⟩ : ∃ cg, w.heap[g]? = some (.cells cg 51 (0, 0)) ∧ ∀ j, j < 9 → ∃ u, cg[i * 9 + j]? = some u := by
    obtain ⟨_, ⟨h0, _⟩ | ⟨g', cap', cg, hv', _, hb, h1, _, h3, _⟩⟩ := h.row
    · simp at h0
    · obtain rfl : g' = g := by simp at hv'; exact hv'.1.symm
      exact ⟨cg, hb, fun j hj => ⟨cg[i * 9 + j]'(by omega), Array.getElem?_eq_getElem (by omega)⟩⟩
  generalize hM : (callsE l).length = M at *
  obtain ⟨cur, hbox, hb1, hb2, hb3, hb4⟩ := h.box
  have c1 := h.c1
  have c0 := h.c0
  have co := h.co (t := n) (by omega)
  rw [hoi] at co
  have fr := h.free
  have HP := Lib.hid hp
  have HH := Lib.hid h
  have hXl := h.lt
  have hn8 : (n : Int) < 8 := by omega
  have d1 : decide ((0 : Int) ≤ n) = true := decide_eq_true hn0
  have d2 : decide ((n : Int) < 8) = true := decide_eq_true hn8
  have hii : (((i + 1 : Nat) : Int)) = (i : Int) + 1 := by omega
  rw [hii] at co
  have hi0 : (0 : Int) ≤ i := by omega
  have hi1 : (i : Int) < (M : Int) := by omega
  have hi2 : (M : Int) ≤ 1000 := by omega
  have hin : (0 : Int) < (i : Int) + 1 := by omega
  obtain ⟨u1, g1⟩ : ∃ u, w.cell? ⟨g, i * 9 + 1, none⟩ = some u := by rw [Joins.cell_of_block hbg]; exact hgcell 1 (by omega)
  obtain ⟨u6, g6⟩ : ∃ u, w.cell? ⟨g, i * 9 + 6, none⟩ = some u := by rw [Joins.cell_of_block hbg]; exact hgcell 6 (by omega)
  obtain ⟨u7, g7⟩ : ∃ u, w.cell? ⟨g, i * 9 + 7, none⟩ = some u := by rw [Joins.cell_of_block hbg]; exact hgcell 7 (by omega)
  obtain ⟨u8, g8⟩ : ∃ u, w.cell? ⟨g, i * 9 + 8, none⟩ = some u := by rw [Joins.cell_of_block hbg]; exact hgcell 8 (by omega)
  have gfr : ∀ j, w.frozen? ⟨g, j, none⟩ = false := fun j => Joins.unfrozen_of_block hbg j
  have hNN : (l.length : Int) ≤ 1000 := by omega
  have HN := Lib.hid hl
  clear hl h hp ht hv hb1 hb2 hb3 hb4 hbg hgcell hoi hMl hc2 hAz hii
  generalize hN : l.length = N at *
  go_enter Try.func10, Try.ntmps10
  go_wp2_with (first
    | (go_at_call 14; go_loud (refine (pending_any _ X _ o l (HH.out.below ((Below.refl _ _).alloc (Nat.le_refl _) _)) n).mono ?_; rintro e w1 ⟨rfl, hw⟩; subst hw; rw [decide_eq_true ⟨hn0, hn7⟩, HP.out]))
    | (go_at_call 25; go_in))
  go_quiet (fail)
  go_wp2
  have HA : Hid (Below w.heap.size w ((w.alloc (.cells #[.int .i64 x, .bool b, .int .i64 z] 30)).drewN nq)) := Lib.hid (below_drewN ((Below.refl _ _).alloc (Nat.le_refl _) _) nq)
  have r0 : ((w.alloc (.cells #[.int .i64 x, .bool b, .int .i64 z] 30)).drewN nq).cell? ⟨w.heap.size, 0, none⟩ = some (.int .i64 x) := by simp
  have r1 : ((w.alloc (.cells #[.int .i64 x, .bool b, .int .i64 z] 30)).drewN nq).cell? ⟨w.heap.size, 1, none⟩ = some (.bool b) := by simp
  have r2 : ((w.alloc (.cells #[.int .i64 x, .bool b, .int .i64 z] 30)).drewN nq).cell? ⟨w.heap.size, 2, none⟩ = some (.int .i64 z) := by simp
  generalize (w.alloc (.cells #[.int .i64 x, .bool b, .int .i64 z] 30)).drewN nq = wa at *
  have a0 : wa.cell? ⟨X, 0, none⟩ = _ := (HA.out.cell hXl).trans c0
  have a1 : wa.cell? ⟨X, 1, none⟩ = _ := (HA.out.cell hXl).trans c1
  have an : wa.cell? ⟨X, 2 + n, none⟩ = _ := (HA.out.cell hXl).trans co
  have afr : ∀ i, wa.frozen? ⟨X, i, none⟩ = false := fun i => (HA.out.frozen hXl).trans (fr i)
  have b1 : wa.cell? ⟨g, i * 9 + 1, none⟩ = _ := (HA.out.cell hgl).trans g1
  have b6 : wa.cell? ⟨g, i * 9 + 6, none⟩ = _ := (HA.out.cell hgl).trans g6
  have b7 : wa.cell? ⟨g, i * 9 + 7, none⟩ = _ := (HA.out.cell hgl).trans g7
  have b8 : wa.cell? ⟨g, i * 9 + 8, none⟩ = _ := (HA.out.cell hgl).trans g8
  have bfr : ∀ j, wa.frozen? ⟨g, j, none⟩ = false := fun j => (HA.out.frozen hgl).trans (gfr j)
  have hsX : X ≠ w.heap.size := by omega
  have hsg : g ≠ w.heap.size := by omega
  clear c0 c1 co fr g1 g6 g7 g8 gfr
  go_region_held3 (fun wx => wx.cell? ⟨w.heap.size, 0, none⟩ = some (.int .i64 x) ∧ wx.cell? ⟨w.heap.size, 1, none⟩ = some (.bool b) ∧ wx.cell? ⟨w.heap.size, 2, none⟩ = some (.int .i64 z)) (go_keep) ((go_at_call 26; go_loud (refine (next_any wa.drew X N (by omega) a1 afr).mono ?_; rintro e w1 ⟨rfl, hw⟩; subst hw)))
  go_wp2
  go_returns
  obtain ⟨f', h1, h2⟩ := hst_end HH.out hX hfg hf hN hn7 he hi hd hcT HA.out
  exact ⟨f', rfl, h1, h2⟩
end Go.Proofs.Ytfacojlheeoppaa.hist
