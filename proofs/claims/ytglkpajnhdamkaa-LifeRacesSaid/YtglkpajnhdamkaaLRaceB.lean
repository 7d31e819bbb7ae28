/- The race's machines are made. -/
import Derived.Test.YtglkpajnhdamkaaLRaceS
import Derived.Laws.MakeOwn
namespace Go.Proofs.Ytglkpajnhdamkaa.life
open Go.RowKit mem

/-- A machine at its beginning. -/
abbrev alNew (n nd : Int) : Al := ⟨0, nd, n, false, 0⟩
/-- So many machines were made. -/
structure RB (W w : World) (X Y bm bl br E : Nat) (n : Int) (zs : List Int) (lo : Nat) (fa : Option Addr) (FL : List Int) (v : Value) (cs : List Nat) (nds : List Int) : Prop where
  m : Box w bm #[ptr X] 24
  lay : Box w bl (layCells 1 n) 26
  run : Box w br #[v] 46
  own : w.ownsRow E 33 1 v cs.length (cs.map ptr)
  boxes : ∀ k, k < cs.length → Box w (cs.getD k 0) (alCells 1 n (alNew n (nds.getD k 0))) 39
  mem : MemS w X Y 1 n zs
  fl : ListAt w lo fa FL
  below : Below W.heap.size W w
  len : nds.length = cs.length
  nds : ∀ x ∈ nds, 1 ≤ x ∧ x ≤ n
  rise : ∀ i j, i < j → j < cs.length → cs.getD i 0 < cs.getD j 0
  e : ∀ i, i < cs.length → E ≤ cs.getD i 0
  mE : bm < E
  lE : bl < E
  rE : br < E
  xE : X < E
  yE : Y < E
  fE : ∀ g, fa = some ⟨g, 0, none⟩ → g < E
  x0 : W.heap.size ≤ X
  y0 : W.heap.size ≤ Y
  b0 : W.heap.size ≤ br
  WE : W.heap.size ≤ E
  Ew : E ≤ w.heap.size
section
variable {W w w4 w5 : World} {X Y bm bl br E : Nat} {n : Int} {zs : List Int} {lo : Nat} {fa : Option Addr} {FL : List Int} {v v' : Value} {cs : List Nat} {nds : List Int}
theorem getD_snoc_lt {α : Type} (l : List α) (x d : α) (i : Nat) (h : i < l.length) : (l ++ [x]).getD i d = l.getD i d := by
  rw [List.getD_eq_getElem?_getD, List.getD_eq_getElem?_getD, List.getElem?_append_left h]
theorem getD_snoc_eq {α : Type} (l : List α) (x d : α) : (l ++ [x]).getD l.length d = x := by
  rw [List.getD_eq_getElem?_getD, List.getElem?_append_right (Nat.le_refl _)]
  simp
theorem RB.next (h : RB W w X Y bm bl br E n zs lo fa FL v cs nds) (hb : Below w.heap.size w w4) : RB W w4 X Y bm bl br E n zs lo fa FL v cs nds := by
  refine ⟨h.m.below hb, h.lay.below hb, h.run.below hb, ?_, fun k hk => (h.boxes k hk).below hb, h.mem.below hb, h.fl.below hb, past h.below hb, h.len, h.nds, h.rise, h.e, h.mE, h.lE, h.rE, h.xE, h.yE, h.fE, h.x0, h.y0, h.b0, h.WE, Nat.le_trans h.Ew hb.size⟩
  obtain ⟨hl, ⟨rfl, h0⟩ | ⟨g, cap, cur, rfl, hb2, hg, hn, hc, hs, ht⟩⟩ := h.own
  · exact ⟨hl, Or.inl ⟨rfl, h0⟩⟩
  · exact ⟨hl, Or.inr ⟨g, cap, cur, rfl, hb2, (hb.block g (Array.getElem?_eq_some_iff.1 hg).1).trans hg, hn, hc, hs, ht⟩⟩
/-- Which blocks stay while a machine is appended. -/
theorem RB.kept {C : Nat} {nd : Int} {T : TypeId} (h : RB W w X Y bm bl br E n zs lo fa FL v cs nds) (hn : NewAl w C 1 n (alNew n nd) w4) (hg : (w4.alloc (.cells #[ptr C] T)).grownBy w5 v.ownBlock) :
    (∀ b, b < E → w5.heap[b]? = w.heap[b]?) ∧ (∀ k, k < cs.length → w5.heap[cs.getD k 0]? = w.heap[cs.getD k 0]?) ∧ w5.heap[C]? = w4.heap[C]? ∧ w.heap.size ≤ w5.heap.size := by
  have hs := hn.below.size
  have hs5 := hg.size
  simp at hs5
  have key : ∀ b, b < w4.heap.size → some b ≠ v.ownBlock → w5.heap[b]? = w4.heap[b]? := fun b hb hne => by
    rw [hg.block b (by simp; omega) hne, Below.heap_alloc _ _ _ hb]
  have hE : ∀ d, some d = v.ownBlock → E ≤ d ∧ d < w.heap.size ∧ ∃ cur, w.heap[d]? = some (.cells cur 33 (0, 0)) := by
    intro d he
    rcases h.own.2 with ⟨rfl, _⟩ | ⟨g, cap, cur, rfl, hge, hgg, _⟩
    · cases he
    · obtain rfl : d = g := Option.some.inj he
      exact ⟨hge, (Array.getElem?_eq_some_iff.1 hgg).1, cur, hgg⟩
  have Ew := h.Ew
  refine ⟨fun b hb => ?_, fun k hk => ?_, ?_, by omega⟩
  · rw [key b (by omega) (fun he => by have := (hE b he).1; omega)]
    exact hn.below.block b (by omega)
  · have hlt := (h.boxes k hk).lt
    rw [key _ (by omega) (fun he => by
      obtain ⟨_, _, cur, hcur⟩ := hE _ he
      exact unlikeT (h.boxes k hk) hcur (by decide) rfl)]
    exact hn.below.block _ hlt
  · have hc := hn.c
    exact key C hn.box.lt (fun he => by have := (hE C he).2.1; omega)
theorem RB.more {C : Nat} {nd : Int} {T : TypeId} (h : RB W w X Y bm bl br E n zs lo fa FL v cs nds) (hn : NewAl w C 1 n (alNew n nd) w4) (hnd : 1 ≤ nd ∧ nd ≤ n)
    (hown : w5.ownsRow E 33 1 v' (cs.length + 1) (cs.map ptr ++ [ptr C])) (hg : (w4.alloc (.cells #[ptr C] T)).grownBy w5 v.ownBlock) :
    RB W (w5.setCell ⟨br, 0, none⟩ v') X Y bm bl br E n zs lo fa FL v' (cs ++ [C]) (nds ++ [nd]) := by
  obtain ⟨k1, k2, k3, k4⟩ := h.kept hn hg
  have mE := h.mE
  have lE := h.lE
  have rE := h.rE
  have xE := h.xE
  have yE := h.yE
  have Ew := h.Ew
  have hbr : ∀ {b : Nat} {ds : Array Value} {U : TypeId}, w.heap[b]? = some (.cells ds U (0, 0)) → U ≠ 46 → b ≠ br := fun hb hU => unlikeT hb h.run hU
  have hcs : (cs ++ [C]).length = cs.length + 1 := by simp
  obtain ⟨cx, hx⟩ := h.mem.typeX
  obtain ⟨cy, hy⟩ := h.mem.typeY
  have hsz : (w5.setCell ⟨br, 0, none⟩ v').heap.size = w5.heap.size := by simp [World.setCell]
  have hC := hn.c
  refine ⟨Box.other ((k1 bm mE).trans h.m) (hbr h.m (by decide)) _ _, Box.other ((k1 bl lE).trans h.lay) (hbr h.lay (by decide)) _ _, ?_, ?_, fun k hk => ?_, ?_, ?_, ?_, by rw [hcs, List.length_append, h.len]; rfl, fun x hx => ?_, fun i j hij hj => ?_, fun i hi => ?_, mE, lE, rE, xE, yE, h.fE, h.x0, h.y0, h.b0, h.WE, by rw [hsz]; omega⟩
  · have hb : Box w5 br #[v] 46 := (k1 br rE).trans h.run
    exact hb.put 0 v'
  · rw [hcs, List.map_append]
    obtain ⟨hl, ⟨hv, h0⟩ | ⟨g, cap, cur, hv, hb2, hgg, h6, h7, h8, h9⟩⟩ := hown
    · exact ⟨hl, Or.inl ⟨hv, h0⟩⟩
    · exact ⟨hl, Or.inr ⟨g, cap, cur, hv, hb2, (Below.heap_setCell _ _ _ _ (by show g ≠ br; omega)).trans hgg, h6, h7, h8, h9⟩⟩
  · rw [hcs] at hk
    by_cases hlt : k < cs.length
    · rw [getD_snoc_lt _ _ _ _ hlt, getD_snoc_lt _ _ _ _ (by rw [h.len]; exact hlt)]
      exact Box.other ((k2 k hlt).trans (h.boxes k hlt)) (hbr (h.boxes k hlt) (by decide)) _ _
    · obtain rfl : k = cs.length := by omega
      have e2 : (nds ++ [nd]).getD cs.length 0 = nd := by rw [← h.len]; exact getD_snoc_eq _ _ _
      rw [getD_snoc_eq, e2]
      have hb : Box w5 C (alCells 1 n (alNew n nd)) 39 := k3.trans hn.box
      exact Box.other hb (by omega) _ _
  · exact (h.mem.moved (k1 X xE) (k1 Y yE)).other (Ne.symm (hbr hx (by decide))) (Ne.symm (hbr hy (by decide))) _ _
  · rcases h.fl with hl | ⟨g, h1, h2, ex, h3⟩
    · exact Or.inl hl
    · exact Or.inr ⟨g, h1, h2, ex, (Below.heap_setCell _ _ _ _ (by show g ≠ br; exact hbr h3 (by decide))).trans ((k1 g (h.fE g h1)).trans h3)⟩
  · refine Below.setCell ?_ h.b0 _
    refine Below.grown (Below.alloc (past h.below hn.below) (past h.below hn.below).size _) hg (by have := (past h.below hn.below).size; simp; omega) ?_
    intro k hk
    have hWE := h.WE
    rcases h.own.2 with ⟨rfl, _⟩ | ⟨g, cap, cur, rfl, hge, _⟩
    · cases hk
    · obtain rfl : g = k := Option.some.inj hk
      omega
  · rcases List.mem_append.1 hx with hx | hx
    · exact h.nds x hx
    · obtain rfl := List.mem_singleton.1 hx
      exact hnd
  · rw [hcs] at hj
    rw [getD_snoc_lt _ _ _ i (by omega)]
    by_cases hlt : j < cs.length
    · rw [getD_snoc_lt _ _ _ _ hlt]; exact h.rise i j hij hlt
    · obtain rfl : j = cs.length := by omega
      rw [getD_snoc_eq]
      have := (h.boxes i hij).lt
      omega
  · rw [hcs] at hi
    by_cases hlt : i < cs.length
    · rw [getD_snoc_lt _ _ _ _ hlt]; exact h.e i hlt
    · obtain rfl : i = cs.length := by omega
      rw [getD_snoc_eq]; omega

/-- So many flags, none of them set. -/
def flags0 (M : Nat) : Array Value := (List.replicate M (Value.bool false)).toArray
theorem Tryinfo_bool : (Try.prog.info? 4).map (fun i => (i.zero, i.size, i.bytes)) = some (some (.bool false), 1, 1) := by kernel_rfl
theorem make_flags (w : World) (M : Nat) (hM : M ≤ 1000) :
    (Instr.makeSlice 47 (.int .i64 (M : Int)) (.int .i64 (M : Int))).run Try.prog w = .ok (.slice (some ⟨w.heap.size, 0, none⟩) M M) (w.alloc (.cells (flags0 M) 4)) := by
  obtain ⟨i, hi, h0, h1, h2⟩ := info_parts Tryinfo_bool
  have h := run_make (P := Try.prog) w 47 4 i (.bool false) Try.underlying47 hi h0 .i64 .i64 M M (by omega) (by omega) (by rw [h2]; omega) (by omega)
  rw [h1] at h
  simp only [Int.toNat_natCast, Nat.mul_one] at h
  rw [h]
  congr 3
  unfold flags0 madeCells
  apply Array.ext
  · simp
  · intro j hj1 hj2
    simp [Value.cells, Nat.mod_one]
theorem ptrs_of_owns {w : World} {base : Nat} {v : Value} {cs : List Nat} (h0 : 0 < cs.length) (h : w.ownsRow base 33 1 v cs.length (cs.map ptr)) :
    ∃ g cap cur, v = .slice (some ⟨g, 0, none⟩) cs.length cap ∧ base ≤ g ∧ Box w g cur 33 ∧ ∀ k, k < cs.length → cur[k]? = some (ptr (cs.getD k 0)) := by
  obtain ⟨hl, ⟨rfl, h1⟩ | ⟨g, cap, cur, rfl, hb, hg, hn, hc, hs, ht⟩⟩ := h
  · omega
  · refine ⟨g, cap, cur, rfl, hb, hg, fun k hk => ?_⟩
    have e : (cur.toList.take (cs.length * 1))[k]? = (cs.map ptr)[k]? := by rw [ht]
    rw [List.getElem?_take, if_pos (by omega), List.getElem?_map, List.getElem?_eq_getElem hk] at e
    rw [List.getD_eq_getElem?_getD, List.getElem?_eq_getElem hk]
    simpa using e
/-- The race begins. -/
theorem Race.made {M g cap : Nat} {cur : Array Value} (h : RB W w X Y bm bl br E n zs lo fa FL (.slice (some ⟨g, 0, none⟩) M cap) cs nds) (hM : cs.length = M) (n0 : 1 ≤ n) (hcur : Box w g cur 33) (hrow : ∀ k, k < M → cur[k]? = some (ptr (cs.getD k 0))) :
    Race W ((w.alloc (.cells (flags0 M) 4)).alloc (.cells #[.slice (some ⟨w.heap.size, 0, none⟩) M M] 47)) ⟨X, Y, bm, bl, br, w.heap.size + 1, g, w.heap.size, cap, M, fun k => cs.getD k 0⟩ n zs M (fun k => alNew n (nds.getD k 0)) lo fa FL := by
  subst hM
  have hb : Below w.heap.size w ((w.alloc (.cells (flags0 cs.length) 4)).alloc (.cells #[.slice (some ⟨w.heap.size, 0, none⟩) cs.length cs.length] 47)) := ((Below.refl _ _).alloc (Nat.le_refl _) _).alloc (by simp) _
  have hW := h.below.size
  refine ⟨h.m.below hb, h.lay.below hb, h.run.below hb, ?_, ⟨cur, hcur.below hb, hrow⟩, ⟨flags0 cs.length, (Box.new w _ _).alloc _, fun k hk => ?_⟩, fun k hk => (h.boxes k hk).below hb, h.mem.below hb, h.fl.below hb, past h.below hb, fun i j hi hj hij => ?_, h.x0, h.y0, hW, fun k hk => ?_⟩
  · have := Box.new (w.alloc (.cells (flags0 cs.length) 4)) #[.slice (some ⟨w.heap.size, 0, none⟩) cs.length cs.length] 47
    simpa using this
  · have hz : (n == 0) = false := by simp; omega
    show (flags0 cs.length)[k]? = some (.bool (n == 0))
    rw [hz]
    unfold flags0
    simp [hk]
  · show cs.getD i 0 ≠ cs.getD j 0
    rcases Nat.lt_or_gt_of_ne hij with hlt | hlt
    · have := h.rise i j hlt hj; omega
    · have := h.rise j i hlt hi; omega
  · have h1 := h.e k hk
    have h2 := h.WE
    show W.heap.size ≤ cs.getD k 0
    omega
end
section
variable {n : Int} {zs0 zs : List Int} {M : Nat} {A : Nat → Al}
theorem RaceOk.next (h : RaceOk n zs0 zs M A) {k : Nat} (hk : k < M) : RaceOk n zs0 (nextZs n zs (A k)) M (upd A k (nextAl n zs (A k))) := by
  unfold nextZs nextAl
  by_cases hl : (A k).left = 0
  · rw [if_pos hl, if_pos hl, upd_id]
    exact h
  · rw [if_neg hl, if_neg hl]
    exact h.step hk (by have := (h.each k hk).left0; omega)
end
theorem nextAl_fuel (n : Int) (zs : List Int) (a : Al) (l0 : 0 ≤ a.left) : (nextAl n zs a).left = 0 ∨ (a.left ≠ 0 ∧ fuel (nextAl n zs a) + 1 ≤ fuel a) := by
  unfold nextAl
  by_cases hl : a.left = 0
  · rw [if_pos hl]; exact Or.inl hl
  · rw [if_neg hl]
    rcases stepAl_fuel n zs a (by omega) with h | h
    · exact Or.inl h
    · exact Or.inr ⟨hl, h⟩
end Go.Proofs.Ytglkpajnhdamkaa.life
