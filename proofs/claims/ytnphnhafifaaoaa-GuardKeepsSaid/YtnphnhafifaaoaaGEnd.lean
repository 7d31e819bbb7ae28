/- What a scan tells in the end: what was kept, what was given back. -/
import Derived.Test.YtnphnhafifaaoaaGGive
namespace Go.Proofs.Ytnphnhafifaaoaa.guard
open Go.RowKit mem life

theorem owns_slice {w : World} {E n : Nat} {v : Value} {xs : List Value} (h : w.ownsRow E 3 1 v n xs) : ∃ a c, v = .slice a n c := by
  rcases h.2 with ⟨rfl, rfl⟩ | ⟨g, cap, cur, rfl, _⟩
  · exact ⟨none, 0, rfl⟩
  · exact ⟨_, _, rfl⟩
theorem told_more (ws L : List Int) (j : Nat) (hj : j < L.length) : told ws (L.take (j + 1)) = told ws (L.take j) ++ (if L.getD j 0 ∈ ws then [L.getD j 0] else []) := by
  have e : L.getD j 0 = L[j] := by rw [List.getD_eq_getElem?_getD, List.getElem?_eq_getElem hj]; rfl
  unfold told
  rw [List.take_succ_eq_append_getElem hj, List.filter_append, e]
  congr 1
  by_cases h : L[j] ∈ ws
  · simp [h]
  · simp [h]
/-- On the way: j were looked at. -/
structure Fin (W w : World) (X Y C r E g : Nat) (t n : Int) (zs : List Int) (nv : Value) (s : Int) (gv : Value) (ws L : List Int) (j : Nat) (kv fv : Value) : Prop where
  sc : Sc W w X Y C t n zs kv fv nv s (.map (some r)) gv
  cnt : Cnt w r ws
  row : IntRow w g L
  two : Two w E kv fv (told ws (L.take j)) (untold ws (L.take j))
  cE : C < E
  xE : X < E
  yE : Y < E
  rE : r < E
  gE : g < E
  WE : W.heap.size ≤ E
  Ew : E ≤ w.heap.size
section
variable {W w w' : World} {X Y C r E g : Nat} {t n s : Int} {zs ws L : List Int} {nv gv kv fv : Value} {j : Nat}
/-- A block from E on was written, or is new. -/
theorem Sc.later {k f tv : Value} (h : Sc W w X Y C t n zs k f nv s tv gv) (hb : ∀ b, b < E → b < w.heap.size → w'.heap[b]? = w.heap[b]?) (hos : w'.os = w.os) (ht : w'.tape = w.tape) (ho : w'.output = w.output) (hsz : w.heap.size ≤ w'.heap.size) (cE : C < E) (xE : X < E) (yE : Y < E) (WE : W.heap.size ≤ E) : Sc W w' X Y C t n zs k f nv s tv gv := by
  have a := h.apart
  exact ⟨h.mem.moved (hb X xE h.mem.ltX) (hb Y yE h.mem.ltY), (hb C cE h.box.lt).trans h.box, hos.trans a.os, ht.trans a.tape, ho.trans a.output, Nat.le_trans a.size hsz, fun b hl hx hy hc => (hb b (by omega) (Nat.lt_of_lt_of_le hl a.size)).trans (a.block b hl hx hy hc)⟩
theorem Fin.more_k {x : Int} {kv' : Value} {T : TypeId} (h : Fin W w X Y C r E g t n zs nv s gv ws L j kv fv) (hj : j < L.length) (hx : L.getD j 0 = x) (hm : x ∈ ws)
    (hown : w'.ownsRow E 3 1 kv' ((told ws (L.take j)).length + 1) ((told ws (L.take j)).map (Value.int .i64) ++ [.int .i64 x]))
    (hg : (w.alloc (.cells #[.int .i64 x] T)).grownBy w' kv.ownBlock) (hat : kv'.ownBlock = kv.ownBlock ∨ kv'.ownBlock = some (w.alloc (.cells #[.int .i64 x] T)).heap.size) : Fin W (w'.setCell ⟨C, 2, none⟩ kv') X Y C r E g t n zs nv s gv ws L (j + 1) kv' fv := by
  have hold : ∀ b, b < E → b < w.heap.size → w'.heap[b]? = w.heap[b]? := fun b hb hw => h.two.old hg hb hw
  have hsz : w.heap.size ≤ w'.heap.size := by have := hg.size; simp at this; omega
  have cE := h.cE
  have rE := h.rE
  have gE := h.gE
  have Ew := h.Ew
  have hsc : Sc W w' X Y C t n zs kv fv nv s (.map (some r)) gv := h.sc.later hold hg.os hg.tape hg.output hsz h.cE h.xE h.yE h.WE
  have ht := h.two.more hown hg hat
  have e1 : told ws (L.take (j + 1)) = told ws (L.take j) ++ [x] := by rw [told_more _ _ _ hj, hx, if_pos hm]
  have e2 : untold ws (L.take (j + 1)) = untold ws (L.take j) := by rw [untold_more _ _ _ hj, hx, if_pos hm, List.append_nil]
  have hrC : r ≠ C := Ne.symm (h.cnt.unlike h.sc.box)
  have hgC : g ≠ C := by obtain ⟨ex, hb⟩ := h.row; exact unlikeT hb h.sc.box (by decide)
  refine ⟨hsc.put 2 _ rfl, h.cnt.moved ((Below.heap_setCell _ _ _ _ hrC).trans (hold r rE h.cnt.lt)), h.row.moved ((Below.heap_setCell _ _ _ _ hgC).trans (hold g gE h.row.lt)), ?_, cE, h.xE, h.yE, rE, gE, h.WE, by simpa [World.setCell] using Nat.le_trans Ew hsz⟩
  rw [e1, e2]
  exact ht.moved fun b hb _ => Below.heap_setCell _ _ _ _ (by show b ≠ C; omega)
theorem Fin.more_f {x : Int} {fv' : Value} {T : TypeId} (h : Fin W w X Y C r E g t n zs nv s gv ws L j kv fv) (hj : j < L.length) (hx : L.getD j 0 = x) (hm : x ∉ ws)
    (hown : w'.ownsRow E 3 1 fv' ((untold ws (L.take j)).length + 1) ((untold ws (L.take j)).map (Value.int .i64) ++ [.int .i64 x]))
    (hg : (w.alloc (.cells #[.int .i64 x] T)).grownBy w' fv.ownBlock) (hat : fv'.ownBlock = fv.ownBlock ∨ fv'.ownBlock = some (w.alloc (.cells #[.int .i64 x] T)).heap.size) : Fin W (w'.setCell ⟨C, 3, none⟩ fv') X Y C r E g t n zs nv s gv ws L (j + 1) kv fv' := by
  have hold : ∀ b, b < E → b < w.heap.size → w'.heap[b]? = w.heap[b]? := fun b hb hw => h.two.swap.old hg hb hw
  have hsz : w.heap.size ≤ w'.heap.size := by have := hg.size; simp at this; omega
  have cE := h.cE
  have rE := h.rE
  have gE := h.gE
  have Ew := h.Ew
  have hsc : Sc W w' X Y C t n zs kv fv nv s (.map (some r)) gv := h.sc.later hold hg.os hg.tape hg.output hsz h.cE h.xE h.yE h.WE
  have ht := (h.two.swap.more hown hg hat).swap
  have e1 : told ws (L.take (j + 1)) = told ws (L.take j) := by rw [told_more _ _ _ hj, hx, if_neg hm, List.append_nil]
  have e2 : untold ws (L.take (j + 1)) = untold ws (L.take j) ++ [x] := by rw [untold_more _ _ _ hj, hx, if_neg hm]
  have hrC : r ≠ C := Ne.symm (h.cnt.unlike h.sc.box)
  have hgC : g ≠ C := by obtain ⟨ex, hb⟩ := h.row; exact unlikeT hb h.sc.box (by decide)
  refine ⟨hsc.put 3 _ rfl, h.cnt.moved ((Below.heap_setCell _ _ _ _ hrC).trans (hold r rE h.cnt.lt)), h.row.moved ((Below.heap_setCell _ _ _ _ hgC).trans (hold g gE h.row.lt)), ?_, cE, h.xE, h.yE, rE, gE, h.WE, by simpa [World.setCell] using Nat.le_trans Ew hsz⟩
  rw [e1, e2]
  exact ht.moved fun b hb _ => Below.heap_setCell _ _ _ _ (by show b ≠ C; omega)

/-- The end: what was kept, what was given back; nothing more to scan for. -/
def Done (W : World) (X Y C : Nat) (t n : Int) (zs : List Int) (s : Int) (gv : Value) (K F : List Int) (w' : World) : Prop :=
  ∃ kv fv, Sc W w' X Y C t n zs kv fv (.slice none 0 0) s (.map none) gv ∧ Nums w' W.heap.size kv K ∧ Nums w' W.heap.size fv F
theorem Nums.low {w : World} {lo lo' : Nat} {v : Value} {L : List Int} (h : Nums w lo v L) (hl : lo' ≤ lo) : Nums w lo' v L := by
  rcases h with h | ⟨h0, g, c, h1, h2, h3⟩
  · exact Or.inl h
  · exact Or.inr ⟨h0, g, c, h1, Nat.le_trans hl h2, h3⟩
set_option maxHeartbeats 4000000 in
theorem end_some (N c : Nat) (h : Sc W w X Y C t n zs (.slice none 0 0) (.slice none 0 0) (.slice (some ⟨g, 0, none⟩) N c) s (.map (some r)) gv) (hc : Cnt w r ws) (hrow : IntRow w g L) (hN : L.length = N) (hl : N ≤ 1000) (hL : ∀ x ∈ L, 0 ≤ x ∧ x ≤ 1000) :
    Calls Try.prog 43 #[.pointer (some ⟨C, 0, none⟩)] w fun e w' => e = .returned (.tuple #[]) ∧ Done W X Y C t n zs s gv (told ws L) (untold ws L) w' := by
  obtain ⟨c0, c1, c2, c3, c4, c5, c6, c7, fz⟩ := row8 h.box
  obtain ⟨E, hE⟩ : ∃ E, E = w.heap.size := ⟨_, rfl⟩
  have hcl := h.box.lt
  have hxl := h.mem.ltX
  have hyl := h.mem.ltY
  have hF : Fin W w X Y C r E g t n zs (.slice (some ⟨g, 0, none⟩) N c) s gv ws L 0 (.slice none 0 0) (.slice none 0 0) :=
    ⟨h, hc, hrow, Two.none _ _, by omega, by omega, by omega, by have := hc.lt; omega, by have := hrow.lt; omega, by have := h.apart.size; omega, by omega⟩
  have HF := Lib.hid hF
  have HN := Lib.hid hN
  have HL := Lib.hid hL
  clear hF h hc hrow hN hL c0 c1 c2 c3 c5 c6 c7 hE hcl hxl hyl fz
  go_enter Try.func43, Try.ntmps43
  go_wp2
  clear c4
  go_loopw [9] (fun i wr => ∃ (j : Nat) (kv fv : Value), j ≤ N ∧ i = .int .i64 j ∧ Fin W wr X Y C r E g t n zs (.slice (some ⟨g, 0, none⟩) N c) s gv ws L j kv fv) (fun i _ => N - (intOf i).toNat)
  case atStart => exact ⟨0, _, _, Nat.zero_le _, rfl, HF.out⟩
  case round =>
    clear HF
    obtain ⟨j, kv, fv, hj, rfl, hf⟩ := hrel
    have HF := Lib.hid hf
    clear hf
    obtain ⟨c0, c1, c2, c3, c4, c5, c6, c7, fz⟩ := row8 HF.out.sc.box
    clear c0 c1 c5 c7
    by_cases hlt : j < N
    · have hc := HF.out.row.cell (i := j) (by rw [HN.out]; exact hlt)
      obtain ⟨y, hy⟩ : ∃ y, y = L.getD j 0 := ⟨_, rfl⟩
      have hyb : 0 ≤ y ∧ y ≤ 1000 := by rw [hy]; apply HL.out; rw [List.getD_eq_getElem?_getD, List.getElem?_eq_getElem (by rw [HN.out]; exact hlt)]; exact List.getElem_mem _
      rw [← hy] at hc
      have HY := Lib.hid hy
      clear hy
      obtain ⟨y0, y1⟩ := hyb
      have HA : Hid (Asks wr C r ws) := Lib.hid ⟨c6, HF.out.cnt⟩
      obtain ⟨i0, hi, hz0, hz1, hz2⟩ := info_parts Tryinfo_int
      have hlk : (told ws (L.take j)).length ≤ 1000 := Nat.le_trans (List.length_filter_le _ _) (by simp; omega)
      have hlf : (untold ws (L.take j)).length ≤ 1000 := Nat.le_trans (List.length_filter_le _ _) (by simp; omega)
      have hmk : (told ws (L.take j)).length + 1 ≤ maxLen := by unfold maxLen; omega
      have hmf : (untold ws (L.take j)).length + 1 ≤ maxLen := by unfold maxLen; omega
      have HEw := Lib.hid HF.out.Ew
      by_cases he : y ∈ ws
      · have hq : decide (y ∈ ws) = true := decide_eq_true he
        have HE := Lib.hid he
        clear he
        have c2a : (wr.alloc (.cells #[.int .i64 y] 3)).cell? ⟨C, 2, none⟩ = some kv := (HF.out.sc.box.alloc _).at 2 rfl
        go_wp2_with (first
          | (go_at_call 53; refine (wasTold_any _ C r ws y HA.out y0 y1).mono ?_; rintro e w1 ⟨rfl, rfl⟩; rw [hq])
          | (at_builtin; go_loud (refine wpList_append_own_at _ rfl (.tmp 20) (.tmp 22) 35 rfl E 3 i0 (.int .i64 0) 1 8 Try.underlying35 hi hz0 hz1 hz2 rfl (by decide) kv (told ws (L.take j)).length ((told ws (L.take j)).map (Value.int .i64)) rfl (HF.out.two.k.alloc (.cells #[.int .i64 y] 3)) ⟨wr.heap.size, 0, none⟩ 1 1 [.int .i64 y] rfl rfl (cell_one _ _ _ rfl) (one_cell _ rfl) hmk (by omega) (by have := HEw.out; simp; omega) ?_; intro v' w3 hown' hgrow hiff hat; obtain ⟨a', c', rfl⟩ := owns_slice hown'; have F3 := Lib.hid (HF.out.more_k (by rw [HN.out]; exact hlt) HY.out.symm HE.out hown' hgrow hat); have k3 : w3.cell? ⟨C, 2, none⟩ = some kv := (World.cell?_of_block (a := ⟨C, 2, none⟩) (HF.out.two.old hgrow HF.out.cE HF.out.sc.box.lt)).trans c2; have z3 : ∀ i, w3.frozen? ⟨C, i, none⟩ = false := (fun i => (World.frozen?_of_block (a := ⟨C, i, none⟩) (HF.out.two.old hgrow HF.out.cE HF.out.sc.box.lt)).trans (fz i)); clear hown' hgrow hiff hat)))
        go_roundw
        case rel => exact ⟨j + 1, _, _, by omega, by go_num, F3.out⟩
        case measure => simp [intOf]; omega
      · have hq : decide (y ∈ ws) = false := decide_eq_false he
        have HE := Lib.hid he
        clear he
        have c3a : (wr.alloc (.cells #[.int .i64 y] 3)).cell? ⟨C, 3, none⟩ = some fv := (HF.out.sc.box.alloc _).at 3 rfl
        go_wp2_with (first
          | (go_at_call 53; refine (wasTold_any _ C r ws y HA.out y0 y1).mono ?_; rintro e w1 ⟨rfl, rfl⟩; rw [hq])
          | (at_builtin; go_loud (refine wpList_append_own_at _ rfl (.tmp 30) (.tmp 32) 35 rfl E 3 i0 (.int .i64 0) 1 8 Try.underlying35 hi hz0 hz1 hz2 rfl (by decide) fv (untold ws (L.take j)).length ((untold ws (L.take j)).map (Value.int .i64)) rfl (HF.out.two.f.alloc (.cells #[.int .i64 y] 3)) ⟨wr.heap.size, 0, none⟩ 1 1 [.int .i64 y] rfl rfl (cell_one _ _ _ rfl) (one_cell _ rfl) hmf (by omega) (by have := HEw.out; simp; omega) ?_; intro v' w3 hown' hgrow hiff hat; obtain ⟨a', c', rfl⟩ := owns_slice hown'; have F3 := Lib.hid (HF.out.more_f (by rw [HN.out]; exact hlt) HY.out.symm HE.out hown' hgrow hat); have k3 : w3.cell? ⟨C, 3, none⟩ = some fv := (World.cell?_of_block (a := ⟨C, 3, none⟩) (HF.out.two.swap.old hgrow HF.out.cE HF.out.sc.box.lt)).trans c3; have z3 : ∀ i, w3.frozen? ⟨C, i, none⟩ = false := (fun i => (World.frozen?_of_block (a := ⟨C, i, none⟩) (HF.out.two.swap.old hgrow HF.out.cE HF.out.sc.box.lt)).trans (fz i)); clear hown' hgrow hiff hat)))
        go_roundw
        case rel => exact ⟨j + 1, _, _, by omega, by go_num, F3.out⟩
        case measure => simp [intOf]; omega
    · have hjN : N = j := by omega
      subst hjN
      have ht : L.take N = L := List.take_of_length_le (by rw [HN.out]; exact Nat.le_refl _)
      have HT := Lib.hid ht
      clear ht
      go_wp2
      go_returns
      refine ⟨rfl, kv, fv, ((HF.out.sc.put 4 (.slice none 0 0) rfl).put 6 (.map none) rfl), ?_, ?_⟩
      · have h1 := HF.out.two.k
        have h2 := HF.out.two.kn
        rw [HT.out] at h1 h2
        refine ((nums_of h1 h2).low HF.out.WE).moved fun q cs hq hb => ?_
        have hne := unlikeT hb HF.out.sc.box (by decide)
        rw [Below.heap_setCell _ _ _ _ hne, Below.heap_setCell _ _ _ _ hne]
      · have h1 := HF.out.two.f
        have h2 := HF.out.two.fn
        rw [HT.out] at h1 h2
        refine ((nums_of h1 h2).low HF.out.WE).moved fun q cs hq hb => ?_
        have hne := unlikeT hb HF.out.sc.box (by decide)
        rw [Below.heap_setCell _ _ _ _ hne, Below.heap_setCell _ _ _ _ hne]
set_option maxHeartbeats 1000000 in
theorem end_none (h : Sc W w X Y C t n zs (.slice none 0 0) (.slice none 0 0) (.slice none 0 0) s (.map (some r)) gv) :
    Calls Try.prog 43 #[.pointer (some ⟨C, 0, none⟩)] w fun e w' => e = .returned (.tuple #[]) ∧ Done W X Y C t n zs s gv [] [] w' := by
  obtain ⟨c0, c1, c2, c3, c4, c5, c6, c7, fz⟩ := row8 h.box
  have HH := Lib.hid h
  clear h c0 c1 c2 c3 c5 c7
  go_enter Try.func43, Try.ntmps43
  go_wp2
  go_loopw [9] (fun i wr => i = .int .i64 0 ∧ wr = w) (fun _ _ => 0)
  case atStart => exact ⟨rfl, rfl⟩
  case round =>
    obtain ⟨rfl, rfl⟩ := hrel
    go_wp2
    go_returns
    exact ⟨rfl, _, _, ((HH.out.put 4 (.slice none 0 0) rfl).put 6 (.map none) rfl), Or.inl ⟨rfl, rfl⟩, Or.inl ⟨rfl, rfl⟩⟩
end
end Go.Proofs.Ytnphnhafifaaoaa.guard
