/- A history and its copy, each beside its events. -/
import Derived.Test.YtfacojlheeoppaaHOf
import Derived.Laws.AppendOwnNone
namespace Go.Proofs.Ytfacojlheeoppaa.hist
open Go.RowKit

/-- A whole row, appended to an empty one. -/
theorem whole_row (w : World) (v : Value) (L : List EvV) (h : Own cells7 7 32 w v L) (hL : L.length ≤ 1000) (ty : TypeId) :
    ∃ v' w', (Builtin.append_ #[22, 22] ty #[.slice (some ⟨w.heap.size, 0, none⟩) 0 0, v]).run Try.prog (w.alloc (.cells #[] 32)) = .ok v' w' ∧ Grow cells7 7 32 w w' v' L := by
  obtain ⟨i0, hi, hz0, hz1, hz2⟩ := info_parts Tryinfo_rev
  have hrow : ((w.alloc (.cells #[] 32))).ownsRow w.heap.size 32 7 (.slice (some ⟨w.heap.size, 0, none⟩) 0 0) 0 [] := World.ownsRow_made w #[] 0 (Nat.le_refl _) (by unfold maxLen; omega) rfl
  have hb0 : Below w.heap.size w (w.alloc (.cells #[] 32)) := (Below.refl _ _).alloc (Nat.le_refl _) _
  have H := h
  obtain ⟨hl, ⟨rfl, h0⟩ | ⟨g, cap, cur, rfl, _, hb, h1, h2, h3, h4⟩⟩ := h
  · obtain rfl := List.eq_nil_of_length_eq_zero h0
    have hrun := run_append_owned_none (P := Try.prog) (w := w.alloc (.cells #[] 32)) w.heap.size 22 ty 32 i0 7 Try.underlying22 hi _ 0 [] hrow
    exact ⟨_, _, hrun, ⟨⟨rfl, hrow.2.imp id fun ⟨g2, c2, r2, e1, _, e3⟩ => ⟨g2, c2, r2, e1, Nat.zero_le _, e3⟩⟩, fun g hg => by simp [Value.ownBlock] at hg; omega, hb0⟩⟩
  · obtain ⟨v', w', hrun, hown, hgr, _, hat⟩ := run_append_own_at (P := Try.prog) (w.alloc (.cells #[] 32)) w.heap.size 22 ty 32 i0 _ 7 56 Try.underlying22 hi hz0 hz1 hz2 rfl (by decide) _ 0 [] hrow ⟨g, 0, none⟩ L.length cap (rowCells cells7 L 0) (row_len len7 L 0) (fun j u hj => (((Below.refl w.heap.size w).alloc (Nat.le_refl _) _).cell (by rw [Addr.add_lit]; exact (Array.getElem?_eq_some_iff.1 hb).1)).trans (H.cells (g := g) rfl j u hj)) (fun u hu => by
      obtain ⟨m, hm⟩ := List.getElem?_of_mem hu
      have hml := (List.getElem?_eq_some_iff.1 hm).1
      rw [row_len len7] at hml
      have e : m = m / 7 * 7 + m % 7 := by omega
      rw [e, row_get len7 L 0 _ _ (by omega)] at hm
      cases hc : L[m / 7]? with
      | none => rw [hc] at hm; simp at hm
      | some c =>
        rw [hc] at hm
        exact one7 _ _ u (List.mem_of_getElem? hm)) (by unfold maxLen; omega) (by omega) (by simp)
    refine ⟨v', w', hrun, ?_, fun g' hg' => ?_, hb0.grown hgr hb0.size (fun b hb => by simp [Value.ownBlock] at hb; omega)⟩
    · obtain ⟨k1, k2⟩ := hown
      refine ⟨by simpa using k1, ?_⟩
      rcases k2 with ⟨k2, k3⟩ | ⟨g2, c2, r2, e1, e2, e3, e4, e5, e6, e7⟩
      · exact Or.inl ⟨k2, by omega⟩
      · exact Or.inr ⟨g2, c2, r2, by rw [e1, Nat.zero_add], Nat.zero_le _, e3, by omega, e5, e6, by simpa using e7⟩
    · rcases hat with e | e
      · rw [hg'] at e
        simp [Value.ownBlock] at e
        omega
      · rw [hg'] at e
        have := Option.some.inj e
        simp at this
        omega

/-- A history beside its events, and a copy beside its own. -/
structure Quad (W w : World) (X : Nat) (f : Nat → Prop) (vt : Value) (L : List EvV) (Xc : Nat) (fc : Nat → Prop) (vb : Value) (M R : List EvV) : Prop where
  p : Play W w X f vt L L
  q : Play W w Xc fc vb M R
  ff : ∀ b, f b → ¬ fc b
  fv : ∀ g, vb.ownBlock = some g → ¬ f g
  cv : ∀ g, vt.ownBlock = some g → ¬ fc g
  vv : ∀ g, vb.ownBlock = some g → vt.ownBlock ≠ some g
section
variable {W w w' : World} {X Xc : Nat} {f fc fc' : Nat → Prop} {vt vb vb' : Value} {L M M' R : List EvV}
theorem Quad.next (h : Quad W w X f vt L Xc fc vb M R) (hb : Below w.heap.size w w') : Quad W w' X f vt L Xc fc vb M R := ⟨h.p.next hb, h.q.next hb, h.ff, h.fv, h.cv, h.vv⟩
theorem Quad.step (h : Quad W w X f vt L Xc fc vb M R) (hm : Hst w' Xc fc' M') (hw : Went fc fc' w w') : Quad W w' X f vt L Xc fc' vb M' R := by
  refine ⟨⟨h.p.hst.apart hw h.ff, h.p.row.went hw h.q.foot h.cv, h.p.apart, h.p.foot⟩, h.q.step hm hw, fun b hb hc => ?_, h.fv, fun g hg hc => ?_, h.vv⟩
  · rcases hw.more b hc with h1 | h1
    · exact h.ff b hb h1
    · have := h.p.hst.lt b hb
      omega
  · rcases hw.more g hc with h1 | h1
    · exact h.cv g hg h1
    · have := h.p.row.own.lt hg
      omega
theorem Quad.more (h : Quad W w X f vt L Xc fc vb M R) {a : EvV} (ho : Own cells7 7 32 w' vb' (R ++ [a])) (hg : w.grownBy w' vb.ownBlock) (hat : vb'.ownBlock = vb.ownBlock ∨ vb'.ownBlock = some w.heap.size) : Quad W w' X f vt L Xc fc vb' M (R ++ [a]) := by
  refine ⟨⟨h.p.hst.grown hg h.fv, h.p.row.other hg h.q.row.new (fun g hg' e => h.vv g e hg'), h.p.apart, h.p.foot⟩, h.q.more ho hg hat, h.ff, fun g hg' hf => ?_, h.cv, fun g hg' hv => ?_⟩
  · rcases hat with e | e
    · exact h.fv g (e ▸ hg') hf
    · rw [hg'] at e
      have := Option.some.inj e
      have := h.p.hst.lt g hf
      omega
  · rcases hat with e | e
    · exact h.vv g (e ▸ hg') hv
    · rw [hg'] at e
      have := Option.some.inj e
      have := h.p.row.own.lt hv
      omega
/-- A copy, made of a history beside its events. -/
theorem Quad.of (h : Play W w X f vt L L) {w1 w2 : World} (hb1 : Below w.heap.size w w1) (hc : Hst w1 Xc fc L) (hn : ∀ b, fc b → w.heap.size ≤ b) (hr : Grow cells7 7 32 w1 w2 vb L) : Quad W w2 X f vt L Xc fc vb L L := by
  have hp1 := h.next hb1
  have hs := hb1.size
  have hb2 := hr.below
  refine ⟨hp1.next hb2, ⟨hc.below hb2, ⟨hr.own, fun g hg => Nat.le_trans hp1.row.below.size (hr.new g hg), past hp1.row.below hb2⟩, fun g hg hf => ?_, fun b hb => Nat.le_trans h.row.below.size (hn b hb)⟩, fun b hb hf => ?_, fun g hg hf => ?_, fun g hg hf => ?_, fun g hg hv => ?_⟩
  · have := hc.lt g hf
    have := hr.new g hg
    omega
  · have := h.hst.lt b hb
    have := hn b hf
    omega
  · have := hp1.hst.lt g hf
    have := hr.new g hg
    omega
  · have := h.row.own.lt hg
    have := hn g hf
    omega
  · have := hp1.row.own.lt hv
    have := hr.new g hg
    omega
end

/-- A row behind world V whose cells may be written. -/
structure Row1 (V w : World) (g n : Nat) : Prop where
  new : V.heap.size ≤ g
  below : Below V.heap.size V w
  box : ∃ cur T, w.heap[g]? = some (.cells cur T (0, 0)) ∧ n ≤ cur.size
section
variable {V w : World} {g n : Nat}
theorem Row1.put (h : Row1 V w g n) (i : Nat) (u : Value) : Row1 V (w.setCell ⟨g, i, none⟩ u) g n := by
  obtain ⟨h1, h2, cur, T, h3, h4⟩ := h
  exact ⟨h1, h2.setCell (p := ⟨g, i, none⟩) h1 u, _, T, Joins.block_setCell (i := i) h3 u, by simpa using h4⟩
theorem Row1.there (h : Row1 V w g n) {i : Nat} (hi : i < n) : ∃ u, w.cell? ⟨g, i, none⟩ = some u := by
  obtain ⟨_, _, cur, T, h3, h4⟩ := h
  exact ⟨cur[i]'(by omega), by rw [Joins.cell_of_block h3]; exact Array.getElem?_eq_getElem (by omega)⟩
theorem Row1.free (h : Row1 V w g n) (i : Nat) : w.frozen? ⟨g, i, none⟩ = false := by
  obtain ⟨_, _, cur, T, h3, _⟩ := h
  exact Joins.unfrozen_of_block h3 i
theorem Row1.drew (h : Row1 V w g n) : Row1 V w.drew g n := ⟨h.new, h.below.drew, h.box⟩
/-- A list handed out: nil, or such a row. -/
theorem Grow.row1 {α : Type} {f : Nat → α → List Value} {k : Nat} {T : TypeId} {v : Value} {L : List α} (h : Grow f k T V w v L) (hL : 0 < L.length) : ∃ g c, v = .slice (some ⟨g, 0, none⟩) L.length c ∧ L.length ≤ c ∧ Row1 V w g (L.length * k) := by
  obtain ⟨⟨_, ⟨_, h0⟩ | ⟨g, cap, cur, rfl, _, hb, h1, _, h3, _⟩⟩, hn, hbl⟩ := h
  · omega
  · exact ⟨g, cap, rfl, h1, hn g rfl, hbl, cur, T, hb, by rw [h3]; exact Nat.mul_le_mul_right k h1⟩
end
end Go.Proofs.Ytfacojlheeoppaa.hist
