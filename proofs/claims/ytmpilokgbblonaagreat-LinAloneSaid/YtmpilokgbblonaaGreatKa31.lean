/- The items behind an order, if it is legal. -/
import Derived.Test.YtmpilokgbblonaaGreatKa30
namespace Go.Proofs.YtmpilokgbblonaaGreat.lin
open Go.RowKit Go.Maps
open hist (ClV EvV befB past new_block Went At cells9 len9 Blk9 Hst callsE calls_any before_any)
open spec (Rw Row Mean new_right new_wrong items_mean stateL nextL)
open task (rightB)
/-- Which numbers stand. -/
def sbL (n : Nat) (o : List Int) : List Value := (List.range n).map fun (i : Nat) => .bool (decide ((i : Int) ∈ o))
theorem sb_nil (n : Nat) : sbL n [] = List.replicate n (.bool false) := by
  unfold sbL
  apply List.ext_getElem?
  intro i
  rw [List.getElem?_map, List.getElem?_replicate]
  by_cases h : i < n
  · rw [List.getElem?_range h, if_pos h]
    simp
  · rw [List.getElem?_eq_none (by simp; omega), if_neg h]
    rfl
theorem sb_get {n i : Nat} (o : List Int) (h : i < n) : (sbL n o)[i]? = some (.bool (decide ((i : Int) ∈ o))) := by
  unfold sbL
  rw [List.getElem?_map, List.getElem?_range h]
  rfl
theorem sb_set {n i : Nat} (o : List Int) (h : i < n) : (sbL n o).set i (.bool true) = sbL n (o ++ [(i : Int)]) := by
  apply List.ext_getElem?
  intro j
  have hl : (sbL n o).length = n := by simp [sbL]
  by_cases hj : j < n
  · rw [sb_get _ hj, List.getElem?_set, hl]
    by_cases e : i = j
    · subst e
      rw [if_pos rfl, if_pos h]
      simp
    · rw [if_neg e, sb_get _ hj]
      have : ((j : Int) ∈ o ++ [(i : Int)]) ↔ ((j : Int) ∈ o) := by
        rw [List.mem_append, List.mem_singleton]
        constructor
        · rintro (h1 | h1)
          · exact h1
          · omega
        · exact Or.inl
      simp only [this]
  · rw [List.getElem?_eq_none (by rw [List.length_set, hl]; omega), List.getElem?_eq_none (by simp [sbL]; omega)]
/-- Of those that stand, when the one that began last began. -/
structure Last (L : List ClV) (o : List Int) (b : Int) : Prop where
  pos : 0 ≤ b
  most : ∀ x ∈ o, ∀ c, L[x.toNat]? = some c → c.B ≤ b
  one : b = 0 ∨ ∃ x ∈ o, ∃ c, L[x.toNat]? = some c ∧ c.B = b
theorem last_nil (L : List ClV) : Last L [] 0 := ⟨Int.le_refl _, fun x hx => by simp at hx, Or.inl rfl⟩
theorem Last.bef {L : List ClV} {o : List Int} {b : Int} (h : Last L o b) (D : Int) : befB D b = false ↔ ∀ x ∈ o, ∀ c, L[x.toNat]? = some c → befB D c.B = false := by
  unfold befB
  simp only [decide_eq_false_iff_not]
  constructor
  · intro h1 x hx c hc h2
    have := h.most x hx c hc
    omega
  · intro h1 h2
    rcases h.one with h3 | ⟨x, hx, c, hc, h3⟩
    · omega
    · exact h1 x hx c hc (by omega)
theorem Last.more {L : List ClV} {o : List Int} {b : Int} (h : Last L o b) {i : Nat} {c : ClV} (hc : L[i]? = some c) (hgt : b < c.B) : Last L (o ++ [(i : Int)]) c.B := by
  refine ⟨by have := h.pos; omega, fun x hx d hd => ?_, Or.inr ⟨(i : Int), by simp, c, by simpa using hc, rfl⟩⟩
  rcases List.mem_append.1 hx with hx | hx
  · have := h.most x hx d hd
    omega
  · rw [List.mem_singleton.1 hx] at hd
    rw [Int.toNat_natCast, hc] at hd
    rw [← Option.some.inj hd]
    exact Int.le_refl _
theorem Last.same {L : List ClV} {o : List Int} {b : Int} (h : Last L o b) {i : Nat} {c : ClV} (hc : L[i]? = some c) (hle : ¬ b < c.B) : Last L (o ++ [(i : Int)]) b := by
  refine ⟨h.pos, fun x hx d hd => ?_, ?_⟩
  · rcases List.mem_append.1 hx with hx | hx
    · exact h.most x hx d hd
    · rw [List.mem_singleton.1 hx] at hd
      rw [Int.toNat_natCast, hc] at hd
      rw [← Option.some.inj hd]
      omega
  · rcases h.one with h3 | ⟨x, hx, d, hd, h3⟩
    · exact Or.inl h3
    · exact Or.inr ⟨x, List.mem_append_left _ hx, d, hd, h3⟩
/-- May a number stand next? By what is asked of it. -/
theorem fitI_iff {s : Int} {L : List ClV} {o : List Int} {b : Int} (ho : okI s L o) (hl : Last L o b) {i : Nat} {c : ClV} (hc : L[i]? = some c) :
    fitI s L o (i : Int) = true ↔ (i : Int) ∉ o ∧ mayC s c = true ∧ befB c.D b = false ∧ toldC (stateL s (opsI L o)) c = true := by
  have hi : i < L.length := (List.getElem?_eq_some_iff.1 hc).1
  have hci : L[i] = c := (List.getElem?_eq_some_iff.1 hc).2
  have hlt := okI_lt ho
  have hok := (okI_iff.1 ho).2
  unfold fitI
  rw [Int.toNat_natCast, Bool.and_eq_true, decide_eq_true_eq, fit_iff, sys_may hi, sys_tells hi, ok_run hok, hci, hl.bef]
  have hm : i ∈ o.map Int.toNat ↔ (i : Int) ∈ o := by
    have := toNat_mem (L := L) hlt (x := (i : Int)) (by omega)
    rwa [Int.toNat_natCast] at this
  rw [hm]
  constructor
  · rintro ⟨_, _, h2, h3, h4, h5⟩
    refine ⟨h2, h3, fun x hx d hd => ?_, h5⟩
    have := h4 x.toNat (List.mem_map.2 ⟨x, hx, rfl⟩)
    have hxl : x.toNat < L.length := (List.getElem?_eq_some_iff.1 hd).1
    rw [sys_bef hi hxl, hci, (List.getElem?_eq_some_iff.1 hd).2] at this
    exact this
  · rintro ⟨h2, h3, h4, h5⟩
    refine ⟨by omega, hi, h2, h3, fun j hj => ?_, h5⟩
    obtain ⟨x, hx, rfl⟩ := List.mem_map.1 hj
    have hx2 := hlt x hx
    have hxl : x.toNat < L.length := by omega
    rw [sys_bef hi hxl, hci]
    exact h4 x hx _ (List.getElem?_eq_getElem hxl)
theorem not_fit_range {s : Int} {L : List ClV} {o : List Int} {x : Int} (h : ¬ (0 ≤ x ∧ x < L.length)) : fitI s L o x = false := by
  unfold fitI
  rw [decide_eq_false h, Bool.false_and]
theorem okI_next {s : Int} {L : List ClV} {o : List Int} {k : Nat} (hk : k < o.length) (h : okI s L (o.take k)) (hf : fitI s L (o.take k) o[k] = true) : okI s L (o.take (k + 1)) := by
  rw [List.take_succ_eq_append_getElem hk]
  exact okI_snoc.2 ⟨h, hf⟩
theorem okI_bad {s : Int} {L : List ClV} {o : List Int} {k : Nat} (hk : k < o.length) (hf : fitI s L (o.take k) o[k] = false) : ¬ legalI s L o := fun h => by
  have := h.2.1 k o[k] (List.getElem?_eq_getElem hk)
  rw [hf] at this
  exact absurd this (by decide)

theorem Tryzinfo_bool : (Tryz.prog.info? 4).map (fun i => (i.zero, i.size, i.bytes)) = some (some (.bool false), 1, 1) := by kernel_rfl
theorem make_bools (w : World) (n : Nat) (hn : n ≤ 1000) : (Instr.makeSlice 81 (.int .i64 (n : Int)) (.int .i64 (n : Int))).run Tryz.prog w = .ok (.slice (some ⟨w.heap.size, 0, none⟩) n n) (w.alloc (.cells (List.replicate n (.bool false)).toArray 4)) := by
  obtain ⟨i, hi, h0, h1, h2⟩ := info_parts Tryzinfo_bool
  exact make_one w _ _ i _ 1 Tryz.underlying81 hi h0 h1 h2 (by omega) rfl n hn

/-- While an order is looked at: the calls, the meaning, which stand, the one that began last. -/
structure Bh (W w : World) (A9 : Option Addr) (L : List ClV) (X : Nat) (f : Nat → Prop) (s : Int) (M : List Int) (Bs Bl n : Nat) (o : List Int) (b d : Int) : Prop where
  calls : At cells9 9 w A9 L
  mean : Mean w X f s M
  st : Line1 w Bs 4 (sbL n o)
  la : Line1 w Bl 83 [.int .i64 b, .int .i64 d]
  below : Below W.heap.size W w
  ff : ∀ g, f g → W.heap.size ≤ g
  ws : W.heap.size ≤ Bs ∧ W.heap.size ≤ Bl ∧ Bs ≠ Bl
  fs : ¬ f Bs ∧ ¬ f Bl
  a9 : ∀ a, A9 = some a → a.block ≠ Bs ∧ a.block ≠ Bl ∧ ¬ f a.block ∧ a.block < w.heap.size
section
variable {W w w' : World} {A9 : Option Addr} {L : List ClV} {X : Nat} {f : Nat → Prop} {s : Int} {M : List Int} {Bs Bl n : Nat} {o : List Int} {b d : Int}
theorem Bh.next (h : Bh W w A9 L X f s M Bs Bl n o b d) (hb : Below w.heap.size w w') : Bh W w' A9 L X f s M Bs Bl n o b d :=
  ⟨h.calls.later hb, h.mean.below hb, h.st.below hb, h.la.below hb, past h.below hb, h.ff, h.ws, h.fs, fun a ha => by obtain ⟨h1, h2, h3, h4⟩ := h.a9 a ha; exact ⟨h1, h2, h3, Nat.lt_of_lt_of_le h4 hb.size⟩⟩
theorem Bh.asked (h : Bh W w A9 L X f s M Bs Bl n o b d) {f2 : Nat → Prop} {M2 : List Int} (hm : Mean w' X f2 s M2) (hw : spec.Went f f2 w w') : Bh W w' A9 L X f2 s M2 Bs Bl n o b d :=
  ⟨h.calls.moved fun a ha hl => hw.block a.block hl (h.a9 a ha).2.2.1, hm, h.st.moved (hw.block Bs h.st.lt h.fs.1), h.la.moved (hw.block Bl h.la.lt h.fs.2), hw.below h.below h.below.size h.ff, hw.from h.below.size h.ff, h.ws, ⟨hw.apart h.st.lt h.fs.1, hw.apart h.la.lt h.fs.2⟩, fun a ha => by obtain ⟨h1, h2, h3, h4⟩ := h.a9 a ha; exact ⟨h1, h2, hw.apart h4 h3, Nat.lt_of_lt_of_le h4 hw.size⟩⟩
theorem Bh.stand (h : Bh W w A9 L X f s M Bs Bl n o b d) {i : Nat} (hi : i < n) : Bh W (w.setCell ⟨Bs, i, none⟩ (.bool true)) A9 L X f s M Bs Bl n (o ++ [(i : Int)]) b d := by
  have hb : ∀ g, g ≠ Bs → (w.setCell ⟨Bs, i, none⟩ (.bool true)).heap[g]? = w.heap[g]? := fun g hg => Below.heap_setCell _ _ _ _ hg
  refine ⟨h.calls.moved fun a ha _ => hb _ (h.a9 a ha).1, h.mean.moved (by rw [set_size]; exact Nat.le_refl _) fun g hg => hb g (fun e => h.fs.1 (e ▸ hg)), ?_, h.la.moved (hb _ (fun e => h.ws.2.2 e.symm)), h.below.setCell (p := ⟨Bs, i, none⟩) h.ws.1 _, h.ff, h.ws, h.fs, fun a ha => by rw [set_size]; exact h.a9 a ha⟩
  rw [← sb_set o hi]
  exact h.st.put i _
theorem Bh.later (h : Bh W w A9 L X f s M Bs Bl n o b d) (b2 d2 : Int) : Bh W ((w.setCell ⟨Bl, 0, none⟩ (.int .i64 b2)).setCell ⟨Bl, 1, none⟩ (.int .i64 d2)) A9 L X f s M Bs Bl n o b2 d2 := by
  have hb : ∀ g, g ≠ Bl → ((w.setCell ⟨Bl, 0, none⟩ (.int .i64 b2)).setCell ⟨Bl, 1, none⟩ (.int .i64 d2)).heap[g]? = w.heap[g]? := fun g hg => (Below.heap_setCell _ _ _ _ hg).trans (Below.heap_setCell _ _ _ _ hg)
  exact ⟨h.calls.moved fun a ha _ => hb _ (h.a9 a ha).2.1, h.mean.moved (by rw [set_size, set_size]; exact Nat.le_refl _) fun g hg => hb g (fun e => h.fs.2 (e ▸ hg)), h.st.moved (hb _ h.ws.2.2), (h.la.put 0 _).put 1 _, (h.below.setCell (p := ⟨Bl, 0, none⟩) h.ws.2.1 _).setCell (p := ⟨Bl, 1, none⟩) h.ws.2.1 _, h.ff, h.ws, h.fs, fun a ha => by rw [set_size, set_size]; exact h.a9 a ha⟩
end
theorem own_new {α : Type} {f : Nat → α → List Value} {k : Nat} {T : TypeId} {W w : World} {A : Option Addr} {n c : Nat} {L : List α} (h : hist.Grow f k T W w (.slice A n c) L) : ∀ b, A = some b → W.heap.size ≤ b.block := fun b hb => by
  obtain ⟨A', c', he, -, -, h4⟩ := h.own.slice
  have hAA : A = A' := by injection he
  have h5 := h4 b (hAA ▸ hb)
  refine h.new b.block ?_
  rw [hb, h5]
  rfl
/-- Numbers in a slice: one that came in, or one of the call's own. -/
def NumAt (w : World) (A : Option Addr) (o : List Int) : Prop := ∀ i (hi : i < o.length), ∃ b, A = some b ∧ w.cell? (b.add i) = some (.int .i64 o[i])
theorem na_below {w w' : World} {A : Option Addr} {o : List Int} (h : NumAt w A o) (hb : Below w.heap.size w w') : NumAt w' A o := fun i hi => by
  obtain ⟨b, h1, h2⟩ := h i hi
  exact ⟨b, h1, (hb.cell (World.block_lt_of_cell? _ _ h2)).trans h2⟩
theorem na_take {w : World} {A : Option Addr} {o : List Int} (h : NumAt w A o) (k : Nat) : NumAt w A (o.take k) := fun i hi => by
  rw [List.length_take] at hi
  obtain ⟨b, h1, h2⟩ := h i (by omega)
  exact ⟨b, h1, by rw [List.getElem_take]; exact h2⟩
theorem na_row {w : World} {G c : Nat} {A : Option Addr} {o : List Int} (h : Rw w G A c o) : NumAt w A o := fun i hi => by
  obtain ⟨a, hA, hr⟩ := h.row (by intro h0; rw [h0] at hi; simp at hi)
  refine ⟨_, hA, ?_⟩
  have := hr.cell (j := i) hi
  rw [List.getD_eq_getElem?_getD, List.getElem?_eq_getElem hi] at this
  rw [Addr.add_lit]
  exact this
/-- What is told of an order. -/
def BehQ (s : Int) (L : List ClV) (o : List Int) (w : World) (e : Ending) (w' : World) : Prop :=
  Below w.heap.size w w' ∧ ((legalI s L o ∧ ∃ A c G, e = .returned (.tuple #[.slice A (stateL s (opsI L o)).length c, .bool true]) ∧ Rw w' G A c (stateL s (opsI L o))) ∨ (¬ legalI s L o ∧ e = .returned (.tuple #[.slice none 0 0, .bool false])))
end Go.Proofs.YtmpilokgbblonaaGreat.lin
