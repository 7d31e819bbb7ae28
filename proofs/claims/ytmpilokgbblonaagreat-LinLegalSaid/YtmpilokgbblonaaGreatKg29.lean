/- An event's end. -/
import Derived.Test.YtmpilokgbblonaaGreatKg06
import Derived.BigQuiet
import Derived.Deep.RegionHeld3
import Derived.Test.YtmpilokgbblonaaGreatKg28
import Derived.Test.YtmpilokgbblonaaGreatKg05
import Derived.Test.YtmpilokgbblonaaGreatKg08
namespace Go.Proofs.YtmpilokgbblonaaGreat.hist
open Go.RowKit

theorem next_any (w : World) (X N : Nat) (hN : N ≤ 100000) (c1 : w.cell? ⟨X, 1, none⟩ = some (.int .i64 (N : Int))) (fr : ∀ i, w.frozen? ⟨X, i, none⟩ = false) :
    Calls Tryz.prog 44 #[.pointer (some ⟨X, 0, none⟩)] w fun e w' => e = .returned (.int .i64 (N : Int)) ∧ w' = w.setCell ⟨X, 1, none⟩ (.int .i64 ((N : Int) + 1)) := by
  have h1 : (N : Int) ≤ 100000 := by omega
  go_enter Tryz.func44, Tryz.ntmps44
  go_wp2
  go_returns
  exact ⟨rfl, rfl⟩
/-- Behind an end: one call of the row is written over, two cells are. -/
theorem hat_end {w w6 : World} {X i : Nat} {v : Value} {o : Nat → Nat} {l : List EvV} {n : Nat} {c : ClV} {x z : Int} {b : Bool} {cur : Array Value} (h : Hat w X v o l) (hn : n ≤ 7) (he : errE l ⟨n, true, 0, 0, x, b, z⟩ = 0)
    (hc : w.heap[X]? = some (.cells cur 99 (0, 0))) (hi : (callsE l)[i]? = some c) (hd : c.D < 0) (ht : c.T = (n : Int))
    (h6 : w6.heap[X]? = some (.cells ((cur.setIfInBounds 1 (.int .i64 ((l.length : Int) + 1))).setIfInBounds (2 + n) (.int .i64 0)) 99 (0, 0)))
    (hr : Own cells9 9 85 w6 v ((callsE l).set i ⟨c.T, c.B, (l.length : Nat), c.K, c.Y, x, b, z⟩)) :
    Hat w6 X v (fun s => if s = n then 0 else o s) (l ++ [⟨n, true, 0, 0, x, b, z⟩]) := by
  obtain ⟨cur', h1, h2, h3, h4, h5⟩ := h.box
  obtain rfl : cur' = cur := by
    rw [hc] at h1
    simpa using h1.symm
  refine ⟨valid_snoc.2 ⟨h.valid, he⟩, opens_end h.opens rfl rfl, ⟨_, h6, by simpa using h2, ?_, ?_, ?_⟩, by rw [calls_set h.valid rfl hi hd ht]; exact hr⟩
  · rw [Array.getElem?_setIfInBounds, if_neg (by omega), Array.getElem?_setIfInBounds, if_neg (by omega)]
    exact h3
  · rw [Array.getElem?_setIfInBounds, if_neg (by omega), Array.getElem?_setIfInBounds, if_pos rfl, if_pos (by omega)]
    simp
  · intro s hs
    by_cases hsn : s = n
    · subst hsn
      rw [Array.getElem?_setIfInBounds, if_pos rfl, if_pos (by simp; omega), if_pos rfl]
      simp
    · rw [Array.getElem?_setIfInBounds, if_neg (by omega), Array.getElem?_setIfInBounds, if_neg (by omega), if_neg hsn]
      exact h5 s hs
/-- A call of the row written over. -/
theorem own_end {T : TypeId} {w : World} {g i M cap : Nat} {L : List ClV} {c : ClV} {N x z : Int} {b : Bool} (h : Own cells9 9 T w (.slice (some ⟨g, 0, none⟩) M cap) L) (hi : L[i]? = some c) :
    Own cells9 9 T ((((w.setCell ⟨g, i * 9 + 1, none⟩ (.int .i64 N)).setCell ⟨g, i * 9 + 6, none⟩ (.int .i64 x)).setCell ⟨g, i * 9 + 7, none⟩ (.bool b)).setCell ⟨g, i * 9 + 8, none⟩ (.int .i64 z)) (.slice (some ⟨g, 0, none⟩) M cap) (L.set i ⟨c.T, c.B, N, c.K, c.Y, x, b, z⟩) := by
  obtain ⟨hil, rfl⟩ := List.getElem?_eq_some_iff.1 hi
  have h4 := owns_set (owns_set (owns_set (owns_set h (g := g) rfl (m := i * 9 + 1) (.int .i64 N)) (g := g) rfl (m := i * 9 + 6) (.int .i64 x)) (g := g) rfl (m := i * 9 + 7) (.bool b)) (g := g) rfl (m := i * 9 + 8) (.int .i64 z)
  unfold Own
  rw [List.length_set]
  have e := row_ext (f := cells9) (k := 9) len9 (by decide) (L := L.set i ⟨L[i].T, L[i].B, N, L[i].K, L[i].Y, x, b, z⟩) (M := ((((rowCells cells9 L 0).set (i * 9 + 1) (.int .i64 N)).set (i * 9 + 6) (.int .i64 x)).set (i * 9 + 7) (.bool b)).set (i * 9 + 8) (.int .i64 z)) (by simp [row_len len9]) (by
    intro k a j ha hj
    have hrl := row_len (f := cells9) len9 L 0
    have hk := (List.getElem?_eq_some_iff.1 ha).1
    rw [List.length_set] at hk
    have hb : i * 9 + 8 < (rowCells cells9 L 0).length := by omega
    rw [List.getElem?_set] at ha
    by_cases hik : i = k
    · subst hik
      rw [if_pos rfl, if_pos hil] at ha
      obtain rfl := Option.some.inj ha
      have e0 := row_get (f := cells9) len9 L 0 i j hj
      rw [List.getElem?_eq_getElem hil] at e0
      match j, hj with
      | 0, _ => rw [List.getElem?_set_ne (by omega), List.getElem?_set_ne (by omega), List.getElem?_set_ne (by omega), List.getElem?_set_ne (by omega), e0]; rfl
      | 1, _ => rw [List.getElem?_set_ne (by omega), List.getElem?_set_ne (by omega), List.getElem?_set_ne (by omega), List.getElem?_set_self (by omega)]; rfl
      | 2, _ => rw [List.getElem?_set_ne (by omega), List.getElem?_set_ne (by omega), List.getElem?_set_ne (by omega), List.getElem?_set_ne (by omega), e0]; simp [cells9]
      | 3, _ => rw [List.getElem?_set_ne (by omega), List.getElem?_set_ne (by omega), List.getElem?_set_ne (by omega), List.getElem?_set_ne (by omega), e0]; rfl
      | 4, _ => rw [List.getElem?_set_ne (by omega), List.getElem?_set_ne (by omega), List.getElem?_set_ne (by omega), List.getElem?_set_ne (by omega), e0]; rfl
      | 5, _ => rw [List.getElem?_set_ne (by omega), List.getElem?_set_ne (by omega), List.getElem?_set_ne (by omega), List.getElem?_set_ne (by omega), e0]; rfl
      | 6, _ => rw [List.getElem?_set_ne (by omega), List.getElem?_set_ne (by omega), List.getElem?_set_self (by rw [List.length_set]; omega)]; rfl
      | 7, _ => rw [List.getElem?_set_ne (by omega), List.getElem?_set_self (by simp only [List.length_set]; omega)]; rfl
      | 8, _ => rw [List.getElem?_set_self (by simp only [List.length_set]; omega)]; rfl
    · rw [if_neg hik] at ha
      rw [List.getElem?_set_ne (by omega), List.getElem?_set_ne (by omega), List.getElem?_set_ne (by omega), List.getElem?_set_ne (by omega), row_get (f := cells9) len9 L 0 k j hj, ha]
      simp)
  rw [← e]
  exact h4

/-- All that an end does, on the heap. -/
theorem hst_end {w wa : World} {X g i M cap N : Nat} {f : Nat → Prop} {o : Nat → Nat} {l : List EvV} {n : Nat} {c : ClV} {x z : Int} {b : Bool} (h : Hat w X (.slice (some ⟨g, 0, none⟩) M cap) o l) (hX : f X) (hg : f g) (hf : ∀ b, f b → b < w.heap.size) (hN : l.length = N) (hn : (n : Int) ≤ 7) (he : errE l ⟨n, true, 0, 0, x, b, z⟩ = 0)
    (hi : (callsE l)[i]? = some c) (hd : c.D < 0) (ht : c.T = (n : Int)) (hA : Below w.heap.size w wa) :
    ∃ f', Hst ((((((wa.setCell ⟨X, 1, none⟩ (.int .i64 ((N : Int) + 1))).setCell ⟨g, i * 9 + 1, none⟩ (.int .i64 (N : Int))).setCell ⟨g, i * 9 + 6, none⟩ (.int .i64 x)).setCell ⟨g, i * 9 + 7, none⟩ (.bool b)).setCell ⟨g, i * 9 + 8, none⟩ (.int .i64 z)).setCell ⟨X, 2 + n, none⟩ (.int .i64 0)).drew X f' (l ++ [⟨n, true, 0, 0, x, b, z⟩])
      ∧ Went f f' w ((((((wa.setCell ⟨X, 1, none⟩ (.int .i64 ((N : Int) + 1))).setCell ⟨g, i * 9 + 1, none⟩ (.int .i64 (N : Int))).setCell ⟨g, i * 9 + 6, none⟩ (.int .i64 x)).setCell ⟨g, i * 9 + 7, none⟩ (.bool b)).setCell ⟨g, i * 9 + 8, none⟩ (.int .i64 z)).setCell ⟨X, 2 + n, none⟩ (.int .i64 0)).drew := by
  subst hN
  obtain ⟨cur, hbox, hb1, hb2, hb3, hb4⟩ := h.box
  have hXl := h.lt
  have hgX : g ≠ X := h.apart rfl
  have hgl : g < w.heap.size := h.row.lt rfl
  have hrow := h.row.below hA
  have ha := (hA.block X hXl).trans hbox
  obtain ⟨w1, e1⟩ : ∃ w1, w1 = wa.setCell ⟨X, 1, none⟩ (.int .i64 ((l.length : Int) + 1)) := ⟨_, rfl⟩
  have k1 : w1.heap[X]? = some (.cells (cur.setIfInBounds 1 (.int .i64 ((l.length : Int) + 1))) 99 (0, 0)) := by rw [e1]; exact Joins.block_setCell (i := 1) ha _
  have r1 : Own cells9 9 85 w1 (.slice (some ⟨g, 0, none⟩) M cap) (callsE l) := hrow.moved fun g' hg' => by
    obtain rfl : g = g' := by simpa [Value.ownBlock] using hg'
    rw [e1]; exact Below.heap_setCell _ _ _ _ hgX
  have t1 : Went f f wa w1 := by rw [e1]; exact Went.setCell _ _ _ hX
  rw [← e1]
  obtain ⟨w5, e5⟩ : ∃ w5, w5 = (((w1.setCell ⟨g, i * 9 + 1, none⟩ (.int .i64 (l.length : Int))).setCell ⟨g, i * 9 + 6, none⟩ (.int .i64 x)).setCell ⟨g, i * 9 + 7, none⟩ (.bool b)).setCell ⟨g, i * 9 + 8, none⟩ (.int .i64 z) := ⟨_, rfl⟩
  have r5 := own_end (N := (l.length : Int)) (x := x) (z := z) (b := b) r1 hi
  rw [← e5] at r5 ⊢
  have t5 : Went f f w1 w5 := by rw [e5]; exact (((Went.setCell _ _ _ hg).trans (Went.setCell _ _ _ hg)).trans (Went.setCell _ _ _ hg)).trans (Went.setCell _ _ _ hg)
  have k5 : w5.heap[X]? = w1.heap[X]? := by
    rw [e5, Below.heap_setCell _ _ _ _ (Ne.symm hgX), Below.heap_setCell _ _ _ _ (Ne.symm hgX), Below.heap_setCell _ _ _ _ (Ne.symm hgX), Below.heap_setCell _ _ _ _ (Ne.symm hgX)]
  have t6 : Went f f w5 (w5.setCell ⟨X, 2 + n, none⟩ (.int .i64 0)).drew := (Went.setCell w5 ⟨X, 2 + n, none⟩ (.int .i64 0) hX).next ((Below.refl _ _).drew)
  have k6 := Joins.block_setCell (i := 2 + n) (k5.trans k1) (.int .i64 0)
  have hw := Went.ahead hA ((t1.trans t5).trans t6)
  refine ⟨f, ⟨_, _, hat_end h (by omega) he hbox hi hd ht k6 (r5.moved fun g' hg' => ?_), hX, fun g' hg' => ?_, fun b hb => Nat.lt_of_lt_of_le (hf b hb) hw.size⟩, hw⟩
  · obtain rfl : g = g' := by simpa [Value.ownBlock] using hg'
    exact Below.heap_setCell _ _ _ _ hgX
  · obtain rfl : g = g' := by simpa [Value.ownBlock] using hg'
    exact hg

set_option maxRecDepth 100000 in
set_option maxHeartbeats 2000000 in
theorem end_any (w : World) (X : Nat) (f : Nat → Prop) (l : List EvV) (h : Hst w X f l) (hl : l.length ≤ 1000) (t x z : Int) (b : Bool) (he : errE l ⟨t, true, 0, 0, x, b, z⟩ = 0) :
    Calls Tryz.prog 22 #[.pointer (some ⟨X, 0, none⟩), .int .i64 t, .agg #[.int .i64 x, .bool b, .int .i64 z]] w fun e w' => ∃ f', e = .returned (.int .i64 0) ∧ Hst w' X f' (l ++ [⟨t, true, 0, 0, x, b, z⟩]) ∧ Went f f' w w' := by
  obtain ⟨v, o, h, hX, hv, hf⟩ := h
  obtain ⟨ht, hp⟩ := err_zero he
  simp only at ht hp
  obtain ⟨n, rfl⟩ : ∃ n : Nat, t = n := ⟨t.toNat, by omega⟩
  have hn7 : (n : Int) ≤ 7 := ht.2
  have hn0 : (0 : Int) ≤ n := ht.1
  obtain ⟨i, c, hoi, hi, hd, hcT⟩ : ∃ i c, o n = i + 1 ∧ (callsE l)[i]? = some c ∧ c.D < 0 ∧ c.T = (n : Int) := by
    rcases h.opens n (by omega) with ⟨_, h1⟩ | h1
    · rw [hp] at h1
      exact absurd h1 (by decide)
    · exact h1
  have hMl := calls_le h.valid
  have hil := (List.getElem?_eq_some_iff.1 hi).1
  obtain ⟨A, cap, rfl, hc1, hc2, hAz⟩ := h.row.slice
  obtain ⟨g, rfl⟩ : ∃ g, A = some ⟨g, 0, none⟩ := by
    obtain ⟨bb, hb, _⟩ := (h.row.at len9) i hil
    exact ⟨bb.block, by rw [hb, ← hAz bb hb]⟩
  have hgX : g ≠ X := h.apart rfl
  have hgX2 : X ≠ g := fun e => hgX e.symm
  have hfg := hv g rfl
  have hrow := h.row
  have hgl : g < w.heap.size := h.row.lt rfl
  obtain ⟨cg, hbg, hgcell⟩ : ∃ cg, w.heap[g]? = some (.cells cg 85 (0, 0)) ∧ ∀ j, j < 9 → ∃ u, cg[i * 9 + j]? = some u := by
    obtain ⟨_, ⟨h0, _⟩ | ⟨g', cap', cg, hv', _, hb, h1, _, h3, _⟩⟩ := h.row
    · simp at h0
    · obtain rfl : g' = g := by simp at hv'; exact hv'.1.symm
      exact ⟨cg, hb, fun j hj => ⟨cg[i * 9 + j]'(by omega), Array.getElem?_eq_getElem (by omega)⟩⟩
  generalize hM : (callsE l).length = M at *
  obtain ⟨cur, hbox, hb1, hb2, hb3, hb4⟩ := h.box
  have c1 := h.c1
  have c0 := h.c0
  have co := h.co (t := n) (by omega)
  rw [hoi] at co
  have fr := h.free
  have HP := Lib.hid hp
  have HH := Lib.hid h
  have hXl := h.lt
  have hn8 : (n : Int) < 8 := by omega
  have d1 : decide ((0 : Int) ≤ n) = true := decide_eq_true hn0
  have d2 : decide ((n : Int) < 8) = true := decide_eq_true hn8
  have hii : (((i + 1 : Nat) : Int)) = (i : Int) + 1 := by omega
  rw [hii] at co
  have hi0 : (0 : Int) ≤ i := by omega
  have hi1 : (i : Int) < (M : Int) := by omega
  have hi2 : (M : Int) ≤ 1000 := by omega
  have hin : (0 : Int) < (i : Int) + 1 := by omega
  obtain ⟨u1, g1⟩ : ∃ u, w.cell? ⟨g, i * 9 + 1, none⟩ = some u := by rw [Joins.cell_of_block hbg]; exact hgcell 1 (by omega)
  obtain ⟨u6, g6⟩ : ∃ u, w.cell? ⟨g, i * 9 + 6, none⟩ = some u := by rw [Joins.cell_of_block hbg]; exact hgcell 6 (by omega)
  obtain ⟨u7, g7⟩ : ∃ u, w.cell? ⟨g, i * 9 + 7, none⟩ = some u := by rw [Joins.cell_of_block hbg]; exact hgcell 7 (by omega)
  obtain ⟨u8, g8⟩ : ∃ u, w.cell? ⟨g, i * 9 + 8, none⟩ = some u := by rw [Joins.cell_of_block hbg]; exact hgcell 8 (by omega)
  have gfr : ∀ j, w.frozen? ⟨g, j, none⟩ = false := fun j => Joins.unfrozen_of_block hbg j
  have hNN : (l.length : Int) ≤ 1000 := by omega
  have HN := Lib.hid hl
  clear hl h hp ht hv hb1 hb2 hb3 hb4 hbg hgcell hoi hMl hc2 hAz hii
  generalize hN : l.length = N at *
  go_enter Tryz.func22, Tryz.ntmps22
  go_wp2_with (first
    | (go_at_call 43; go_loud (refine (pending_any _ X _ o l (HH.out.below ((Below.refl _ _).alloc (Nat.le_refl _) _)) n).mono ?_; rintro e w1 ⟨rfl, hw⟩; subst hw; rw [decide_eq_true ⟨hn0, hn7⟩, HP.out]))
    | (go_at_call 42; go_in))
  go_quiet (fail)
  go_wp2
  have HA : Hid (Below w.heap.size w ((w.alloc (.cells #[.int .i64 x, .bool b, .int .i64 z] 55)).drewN nq)) := Lib.hid (below_drewN ((Below.refl _ _).alloc (Nat.le_refl _) _) nq)
  have r0 : ((w.alloc (.cells #[.int .i64 x, .bool b, .int .i64 z] 55)).drewN nq).cell? ⟨w.heap.size, 0, none⟩ = some (.int .i64 x) := by simp
  have r1 : ((w.alloc (.cells #[.int .i64 x, .bool b, .int .i64 z] 55)).drewN nq).cell? ⟨w.heap.size, 1, none⟩ = some (.bool b) := by simp
  have r2 : ((w.alloc (.cells #[.int .i64 x, .bool b, .int .i64 z] 55)).drewN nq).cell? ⟨w.heap.size, 2, none⟩ = some (.int .i64 z) := by simp
  generalize (w.alloc (.cells #[.int .i64 x, .bool b, .int .i64 z] 55)).drewN nq = wa at *
  have a0 : wa.cell? ⟨X, 0, none⟩ = _ := (HA.out.cell hXl).trans c0
  have a1 : wa.cell? ⟨X, 1, none⟩ = _ := (HA.out.cell hXl).trans c1
  have an : wa.cell? ⟨X, 2 + n, none⟩ = _ := (HA.out.cell hXl).trans co
  have afr : ∀ i, wa.frozen? ⟨X, i, none⟩ = false := fun i => (HA.out.frozen hXl).trans (fr i)
  have b1 : wa.cell? ⟨g, i * 9 + 1, none⟩ = _ := (HA.out.cell hgl).trans g1
  have b6 : wa.cell? ⟨g, i * 9 + 6, none⟩ = _ := (HA.out.cell hgl).trans g6
  have b7 : wa.cell? ⟨g, i * 9 + 7, none⟩ = _ := (HA.out.cell hgl).trans g7
  have b8 : wa.cell? ⟨g, i * 9 + 8, none⟩ = _ := (HA.out.cell hgl).trans g8
  have bfr : ∀ j, wa.frozen? ⟨g, j, none⟩ = false := fun j => (HA.out.frozen hgl).trans (gfr j)
  have hsX : X ≠ w.heap.size := by omega
  have hsg : g ≠ w.heap.size := by omega
  clear c0 c1 co fr g1 g6 g7 g8 gfr
  go_region_held3 (fun wx => wx.cell? ⟨w.heap.size, 0, none⟩ = some (.int .i64 x) ∧ wx.cell? ⟨w.heap.size, 1, none⟩ = some (.bool b) ∧ wx.cell? ⟨w.heap.size, 2, none⟩ = some (.int .i64 z)) (go_keep) ((go_at_call 44; go_loud (refine (next_any wa.drew X N (by omega) a1 afr).mono ?_; rintro e w1 ⟨rfl, hw⟩; subst hw)))
  go_wp2
  go_returns
  obtain ⟨f', h1, h2⟩ := hst_end HH.out hX hfg hf hN hn7 he hi hd hcT HA.out
  exact ⟨f', rfl, h1, h2⟩
end Go.Proofs.YtmpilokgbblonaaGreat.hist
/- Any beginning, any end: what it tells, what it does. -/
namespace Go.Proofs.YtmpilokgbblonaaGreat.hist
open Go.RowKit

theorem err_out {l : List EvV} {v : EvV} (h : ¬ (0 ≤ v.T ∧ v.T ≤ 7)) : errE l v = 2 := by
  unfold errE
  rw [if_pos (by omega)]
theorem err_begin {l : List EvV} {v : EvV} (h : 0 ≤ v.T ∧ v.T ≤ 7) (hE : v.E = false) (hp : pendE l v.T = true) : errE l v = 1 := by
  unfold errE
  rw [if_neg (by omega), if_pos (by rw [hE, hp]; rfl)]
theorem err_end {l : List EvV} {v : EvV} (h : 0 ≤ v.T ∧ v.T ≤ 7) (hE : v.E = true) (hp : pendE l v.T = false) : errE l v = 5 := by
  unfold errE
  rw [if_neg (by omega), if_neg (by rw [hE, hp]; decide), if_pos (by rw [hE, hp]; rfl)]
theorem err_ok {l : List EvV} {v : EvV} (h : 0 ≤ v.T ∧ v.T ≤ 7) (hp : pendE l v.T = v.E) : errE l v = 0 := by
  unfold errE
  rw [if_neg (by omega), hp]
  cases v.E <;> rfl
theorem step_no {l : List EvV} {v : EvV} (h : errE l v ≠ 0) : stepE l v = l := if_neg h
theorem step_yes {l : List EvV} {v : EvV} (h : errE l v = 0) : stepE l v = l ++ [bareE v] := if_pos h
/-- What an event does. -/
def Steps (w : World) (X : Nat) (f : Nat → Prop) (l : List EvV) (v : EvV) (e : Ending) (w' : World) : Prop := ∃ f', e = .returned (.int .i64 (errE l v)) ∧ Hst w' X f' (stepE l v) ∧ Went f f' w w'
section
variable (w : World) (X : Nat) (f : Nat → Prop) (l : List EvV) (h : Hst w X f l) (hl : l.length ≤ 1000) (v : EvV)
include h hl
set_option maxHeartbeats 1000000 in
theorem begin_step (hE : v.E = false) :
    Calls Tryz.prog 21 #[.pointer (some ⟨X, 0, none⟩), .int .i64 v.T, .agg #[.int .i64 v.K, .int .i64 v.Y]] w (Steps w X f l v) := by
  by_cases ht : 0 ≤ v.T ∧ v.T ≤ 7
  · cases hp : pendE l v.T
    · have he := err_ok (l := l) ht (by rw [hp, hE])
      have hb : bareE v = ⟨v.T, false, v.K, v.Y, 0, false, 0⟩ := by unfold bareE; rw [hE]; rfl
      refine (begin_any w X f l h hl v.T v.K v.Y (by rw [← hb, err_bare]; exact he)).mono fun e w' ⟨f', h1, h2, h3⟩ => ⟨f', by rw [he]; exact h1, by rw [step_yes he, hb]; exact h2, h3⟩
    · have he := err_begin ht hE hp
      unfold Steps
      rw [step_no (by rw [he]; decide), he]
      obtain ⟨vv, o, hh, hr⟩ := h
      have HH := Lib.hid hh
      have HF : Hid (Hst w X f l) := Lib.hid ⟨vv, o, hh, hr⟩
      have HP := Lib.hid hp
      have h0 : 0 ≤ v.T := ht.1
      have h7 : v.T < 8 := by omega
      have HT := Lib.hid ht
      clear hh hr hp he hE ht
      generalize v.T = t at *
      have d1 : decide (0 ≤ t) = true := decide_eq_true h0
      have d2 : decide (t < 8) = true := decide_eq_true h7
      go_enter Tryz.func21, Tryz.ntmps21
      go_wp2_with (first
        | (go_at_call 43; go_loud (refine (pending_any _ X vv o l (HH.out.below ((Below.refl _ _).alloc (Nat.le_refl _) _)) t).mono ?_; rintro e w1 ⟨rfl, hw⟩; subst hw; rw [decide_eq_true HT.out, HP.out]))
        | (go_at_call 42; go_in))
      go_returns
      have hb : Below w.heap.size w (w.alloc (.cells #[.int .i64 v.K, .int .i64 v.Y] 47)) := (Below.refl _ _).alloc (Nat.le_refl _) _
      first | exact ⟨f, rfl, HF.out.below hb, Went.ofBelow hb⟩ | exact ⟨rfl, f, HF.out.below hb, Went.ofBelow hb⟩
  · have he := err_out (l := l) ht
    unfold Steps
    rw [step_no (by rw [he]; decide), he]
    have HF := Lib.hid h
    clear h he hE
    generalize v.T = t at *
    by_cases h0 : 0 ≤ t
    · have h7 : 8 ≤ t := by omega
      have d1 : decide (0 ≤ t) = true := decide_eq_true h0
      have d2 : decide (t < 8) = false := decide_eq_false (by omega)
      clear ht
      go_enter Tryz.func21, Tryz.ntmps21
      go_wp2
      go_returns
      have hb : Below w.heap.size w (w.alloc (.cells #[.int .i64 v.K, .int .i64 v.Y] 47)) := (Below.refl _ _).alloc (Nat.le_refl _) _
      first | exact ⟨f, rfl, HF.out.below hb, Went.ofBelow hb⟩ | exact ⟨rfl, f, HF.out.below hb, Went.ofBelow hb⟩
    · have d1 : decide (0 ≤ t) = false := decide_eq_false h0
      clear ht
      go_enter Tryz.func21, Tryz.ntmps21
      go_wp2
      go_returns
      have hb : Below w.heap.size w (w.alloc (.cells #[.int .i64 v.K, .int .i64 v.Y] 47)) := (Below.refl _ _).alloc (Nat.le_refl _) _
      first | exact ⟨f, rfl, HF.out.below hb, Went.ofBelow hb⟩ | exact ⟨rfl, f, HF.out.below hb, Went.ofBelow hb⟩
set_option maxHeartbeats 1000000 in
theorem end_step (hE : v.E = true) :
    Calls Tryz.prog 22 #[.pointer (some ⟨X, 0, none⟩), .int .i64 v.T, .agg #[.int .i64 v.C, .bool v.O, .int .i64 v.V]] w (Steps w X f l v) := by
  by_cases ht : 0 ≤ v.T ∧ v.T ≤ 7
  · cases hp : pendE l v.T
    · have he := err_end ht hE hp
      unfold Steps
      rw [step_no (by rw [he]; decide), he]
      obtain ⟨vv, o, hh, hr⟩ := h
      have HH := Lib.hid hh
      have HF : Hid (Hst w X f l) := Lib.hid ⟨vv, o, hh, hr⟩
      have HP := Lib.hid hp
      have h0 : 0 ≤ v.T := ht.1
      have h7 : v.T < 8 := by omega
      have HT := Lib.hid ht
      clear hh hr hp he hE ht
      generalize v.T = t at *
      have d1 : decide (0 ≤ t) = true := decide_eq_true h0
      have d2 : decide (t < 8) = true := decide_eq_true h7
      go_enter Tryz.func22, Tryz.ntmps22
      go_wp2_with (first
        | (go_at_call 43; go_loud (refine (pending_any _ X vv o l (HH.out.below ((Below.refl _ _).alloc (Nat.le_refl _) _)) t).mono ?_; rintro e w1 ⟨rfl, hw⟩; subst hw; rw [decide_eq_true HT.out, HP.out]))
        | (go_at_call 42; go_in))
      go_returns
      have hb : Below w.heap.size w (w.alloc (.cells #[.int .i64 v.C, .bool v.O, .int .i64 v.V] 55)) := (Below.refl _ _).alloc (Nat.le_refl _) _
      first | exact ⟨f, rfl, HF.out.below hb, Went.ofBelow hb⟩ | exact ⟨rfl, f, HF.out.below hb, Went.ofBelow hb⟩
    · have he := err_ok (l := l) ht (by rw [hp, hE])
      have hb : bareE v = ⟨v.T, true, 0, 0, v.C, v.O, v.V⟩ := by unfold bareE; rw [hE]; rfl
      refine (end_any w X f l h hl v.T v.C v.V v.O (by rw [← hb, err_bare]; exact he)).mono fun e w' ⟨f', h1, h2, h3⟩ => ⟨f', by rw [he]; exact h1, by rw [step_yes he, hb]; exact h2, h3⟩
  · have he := err_out (l := l) ht
    unfold Steps
    rw [step_no (by rw [he]; decide), he]
    have HF := Lib.hid h
    clear h he hE
    generalize v.T = t at *
    by_cases h0 : 0 ≤ t
    · have h7 : 8 ≤ t := by omega
      have d1 : decide (0 ≤ t) = true := decide_eq_true h0
      have d2 : decide (t < 8) = false := decide_eq_false (by omega)
      clear ht
      go_enter Tryz.func22, Tryz.ntmps22
      go_wp2
      go_returns
      have hb : Below w.heap.size w (w.alloc (.cells #[.int .i64 v.C, .bool v.O, .int .i64 v.V] 55)) := (Below.refl _ _).alloc (Nat.le_refl _) _
      first | exact ⟨f, rfl, HF.out.below hb, Went.ofBelow hb⟩ | exact ⟨rfl, f, HF.out.below hb, Went.ofBelow hb⟩
    · have d1 : decide (0 ≤ t) = false := decide_eq_false h0
      clear ht
      go_enter Tryz.func22, Tryz.ntmps22
      go_wp2
      go_returns
      have hb : Below w.heap.size w (w.alloc (.cells #[.int .i64 v.C, .bool v.O, .int .i64 v.V] 55)) := (Below.refl _ _).alloc (Nat.le_refl _) _
      first | exact ⟨f, rfl, HF.out.below hb, Went.ofBelow hb⟩ | exact ⟨rfl, f, HF.out.below hb, Went.ofBelow hb⟩
end
end Go.Proofs.YtmpilokgbblonaaGreat.hist
/- The document's example is told as the document has it. -/
namespace Go.Proofs.YtmpilokgbblonaaGreat.hist
open Go.RowKit

/-- The example's events. -/
def ex1 : List EvV := [⟨0, false, 1, 0, 0, false, 0⟩]
def ex2 : List EvV := [⟨0, false, 1, 0, 0, false, 0⟩, ⟨1, false, 2, 0, 0, false, 0⟩]
def ex3 : List EvV := [⟨0, false, 1, 0, 0, false, 0⟩, ⟨1, false, 2, 0, 0, false, 0⟩, ⟨0, true, 0, 0, 0, true, 0⟩]
theorem ex_calls : callsE ex3 = [⟨0, 0, 2, 1, 0, 0, true, 0⟩, ⟨1, 1, -1, 2, 0, 0, false, 0⟩] := rfl
theorem ex_row {W w : World} {v : Value} (h : Grow cells9 9 85 W w v (callsE ex3)) : ∃ g c, v = .slice (some ⟨g, 0, none⟩) 2 c ∧ 2 ≤ c ∧ w.cell? ⟨g, 0, none⟩ = some (.int .i64 0) ∧ w.cell? ⟨g, 1, none⟩ = some (.int .i64 2) ∧ w.cell? ⟨g, 9, none⟩ = some (.int .i64 1) ∧ w.cell? ⟨g, 10, none⟩ = some (.int .i64 (-1)) := by
  rw [ex_calls] at h
  obtain ⟨A, c, rfl, h1, _, ha⟩ := h.own.slice
  obtain ⟨b, hb, _⟩ := (h.own.at len9) 0 (by decide)
  have e := ha b hb
  rw [e] at hb
  subst hb
  have hc := h.own.cells (g := b.block) rfl
  have k0 := hc 0 _ rfl
  have k1 := hc 1 _ rfl
  have k9 := hc 9 _ rfl
  have k10 := hc 10 _ rfl
  rw [Addr.add_lit] at k0 k1 k9 k10
  exact ⟨b.block, c, rfl, h1, k0, k1, k9, k10⟩

attribute [local go_sem] eq_op eq_res eq_span
end Go.Proofs.YtmpilokgbblonaaGreat.hist
/- A history and the events that were taken, beside it. -/
namespace Go.Proofs.YtmpilokgbblonaaGreat.hist
open Go.RowKit

/-- An event in a block of its own. -/
structure Blk7 (w : World) (B : Nat) (v : EvV) : Prop where
  box : w.heap[B]? = some (.cells #[.int .i64 v.T, .bool v.E, .int .i64 v.K, .int .i64 v.Y, .int .i64 v.C, .bool v.O, .int .i64 v.V] 64 (0, 0))
section
variable {w w' : World} {B : Nat} {v : EvV}
theorem Blk7.lt (h : Blk7 w B v) : B < w.heap.size := (Array.getElem?_eq_some_iff.1 h.box).1
theorem Blk7.below (h : Blk7 w B v) (hb : Below w.heap.size w w') : Blk7 w' B v := ⟨(hb.block B h.lt).trans h.box⟩
theorem Blk7.went (h : Blk7 w B v) {f f' : Nat → Prop} (hw : Went f f' w w') (hB : ¬ f B) : Blk7 w' B v := ⟨(hw.block B h.lt hB).trans h.box⟩
theorem Blk7.grown (h : Blk7 w B v) {row : Option Nat} (hg : w.grownBy w' row) (hB : some B ≠ row) : Blk7 w' B v := ⟨(hg.block B h.lt hB).trans h.box⟩
theorem Blk7.cells (h : Blk7 w B v) : w.cell? ⟨B, 0, none⟩ = some (.int .i64 v.T) ∧ w.cell? ⟨B, 1, none⟩ = some (.bool v.E) ∧ w.cell? ⟨B, 2, none⟩ = some (.int .i64 v.K) ∧ w.cell? ⟨B, 3, none⟩ = some (.int .i64 v.Y) ∧ w.cell? ⟨B, 4, none⟩ = some (.int .i64 v.C) ∧ w.cell? ⟨B, 5, none⟩ = some (.bool v.O) ∧ w.cell? ⟨B, 6, none⟩ = some (.int .i64 v.V) := by
  have hb := h.box
  refine ⟨?_, ?_, ?_, ?_, ?_, ?_, ?_⟩ <;> (rw [Joins.cell_of_block hb]; rfl)
end
theorem Tryzinfo_rev : (Tryz.prog.info? 64).map (fun i => (i.zero, i.size, i.bytes)) = some (some (.agg #[.int .i64 0, .bool false, .int .i64 0, .int .i64 0, .int .i64 0, .bool false, .int .i64 0]), 7, 56) := by kernel_rfl

theorem took_bareL (l : List EvV) : BareE (tookE l) := by
  induction l using snocInd with
  | nil => exact bareL_nil
  | append_singleton l v ih => rw [took_step]; exact step_bare ih v
theorem took_take {l : List EvV} {k : Nat} (hk : k < l.length) : tookE (l.take (k + 1)) = stepE (tookE (l.take k)) l[k] := by
  rw [List.take_succ_eq_append_getElem hk, took_step]
theorem took_take_len (l : List EvV) (k : Nat) : (tookE (l.take k)).length ≤ k := Nat.le_trans (took_len _) (by rw [List.length_take]; exact Nat.min_le_left _ _)

/-- A history of events L, and a row of events R, both made behind world W. -/
structure Play (W w : World) (X : Nat) (f : Nat → Prop) (v : Value) (L R : List EvV) : Prop where
  hst : Hst w X f L
  row : Grow cells7 7 64 W w v R
  apart : ∀ g, v.ownBlock = some g → ¬ f g
  foot : ∀ b, f b → W.heap.size ≤ b
section
variable {W w w' : World} {X : Nat} {f f' : Nat → Prop} {v v' : Value} {L L' R : List EvV}
theorem Play.next (h : Play W w X f v L R) (hb : Below w.heap.size w w') : Play W w' X f v L R := ⟨h.hst.below hb, h.row.next hb, h.apart, h.foot⟩
theorem Play.step (h : Play W w X f v L R) (hm : Hst w' X f' L') (hw : Went f f' w w') : Play W w' X f' v L' R :=
  ⟨hm, h.row.went hw h.foot h.apart, fun g hg => hw.apart (h.row.own.lt hg) (h.apart g hg), hw.from h.row.below.size h.foot⟩
theorem Play.more (h : Play W w X f v L R) {a : EvV} (ho : Own cells7 7 64 w' v' (R ++ [a])) (hg : w.grownBy w' v.ownBlock) (hat : v'.ownBlock = v.ownBlock ∨ v'.ownBlock = some w.heap.size) : Play W w' X f v' L (R ++ [a]) := by
  refine ⟨h.hst.grown hg h.apart, h.row.more ho hg hat, fun g hg' hf => ?_, h.foot⟩
  rcases hat with e | e
  · exact h.apart g (e ▸ hg') hf
  · rw [hg'] at e
    have := Option.some.inj e
    have := h.hst.lt g hf
    omega
end
end Go.Proofs.YtmpilokgbblonaaGreat.hist
