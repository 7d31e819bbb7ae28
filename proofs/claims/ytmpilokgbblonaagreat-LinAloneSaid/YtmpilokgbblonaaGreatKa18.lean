/- A search is made of a history's calls. -/
import Derived.Test.YtmpilokgbblonaaGreatKa17
import Derived.Deep.RegionLaw
import Derived.Test.YtmpilokgbblonaaGreatKa07
import Derived.Test.YtmpilokgbblonaaGreatKa08
namespace Go.Proofs.YtmpilokgbblonaaGreat.lin
open Go.RowKit Go.Maps
open hist (ClV befB past new_block Went At cells9 len9 Blk9)
open spec (Rw Row)

def mustAt (L : List ClV) (i : Nat) : Bool := match L[i]? with | some c => mustC c | none => false
def kindAt (L : List ClV) (i : Nat) : Int := match L[i]? with | some c => c.K | none => 0
/-- What is noted of the first k calls. -/
def muTo (L : List ClV) : Nat → Nat
  | 0 => 0
  | k + 1 => if mustAt L k = true then withG (muTo L k) k else muTo L k
def tkTo (L : List ClV) : Nat → Nat
  | 0 => 0
  | k + 1 => if mustAt L k = true ∧ kindAt L k = 5 then withG (tkTo L k) k else tkTo L k
def amAll (s : Int) (L : List ClV) : Nat → List Nat
  | 0 => List.replicate L.length 0
  | k + 1 => if mustAt L k = true then amTo s L k L.length (amAll s L k) else amAll s L k
theorem mu_bit (L : List ClV) : ∀ k i, (muTo L k).testBit i = true ↔ i < k ∧ mustAt L i = true
  | 0, i => by simp [muTo]
  | k + 1, i => by
    unfold muTo
    split
    · rename_i h
      rw [bit_with, Bool.or_eq_true, mu_bit L k i, decide_eq_true_eq]
      constructor
      · rintro (⟨h1, h2⟩ | rfl)
        · exact ⟨by omega, h2⟩
        · exact ⟨by omega, h⟩
      · rintro ⟨h1, h2⟩
        by_cases e : k = i
        · exact Or.inr e
        · exact Or.inl ⟨by omega, h2⟩
    · rename_i h
      rw [mu_bit L k i]
      constructor
      · rintro ⟨h1, h2⟩; exact ⟨by omega, h2⟩
      · rintro ⟨h1, h2⟩
        have : i ≠ k := fun e => h (e ▸ h2)
        exact ⟨by omega, h2⟩
theorem tk_bit (L : List ClV) : ∀ k i, (tkTo L k).testBit i = true ↔ i < k ∧ mustAt L i = true ∧ kindAt L i = 5
  | 0, i => by simp [tkTo]
  | k + 1, i => by
    unfold tkTo
    split
    · rename_i h
      rw [bit_with, Bool.or_eq_true, tk_bit L k i, decide_eq_true_eq]
      constructor
      · rintro (⟨h1, h2⟩ | rfl)
        · exact ⟨by omega, h2⟩
        · exact ⟨by omega, h⟩
      · rintro ⟨h1, h2⟩
        by_cases e : k = i
        · exact Or.inr e
        · exact Or.inl ⟨by omega, h2⟩
    · rename_i h
      rw [tk_bit L k i]
      constructor
      · rintro ⟨h1, h2⟩; exact ⟨by omega, h2⟩
      · rintro ⟨h1, h2⟩
        have : i ≠ k := fun e => h (e ▸ h2)
        exact ⟨by omega, h2⟩
theorem amAll_len (s : Int) (L : List ClV) : ∀ k, (amAll s L k).length = L.length
  | 0 => by simp [amAll]
  | k + 1 => by
    unfold amAll
    split
    · rw [amTo_len, amAll_len s L k]
    · exact amAll_len s L k
theorem am_bit (s : Int) (L : List ClV) : ∀ k j, j < L.length → ∀ i, ((amAll s L k).getD j 0).testBit i = true ↔ i < k ∧ mustAt L i = true ∧ befM s L i j = true
  | 0, j, hj, i => by
    unfold amAll
    rw [List.getD_eq_getElem?_getD, List.getElem?_eq_getElem (by simpa using hj)]
    simp
  | k + 1, j, hj, i => by
    unfold amAll
    have ih := am_bit s L k j hj i
    split
    · rename_i h
      rw [amTo_get s L k L.length (amAll s L k) (by rw [amAll_len]; exact hj)]
      by_cases hb : befM s L k j = true
      · rw [if_pos ⟨hj, hb⟩, bit_with, Bool.or_eq_true, ih, decide_eq_true_eq]
        constructor
        · rintro (⟨h1, h2⟩ | rfl)
          · exact ⟨by omega, h2⟩
          · exact ⟨by omega, h, hb⟩
        · rintro ⟨h1, h2⟩
          by_cases e : k = i
          · exact Or.inr e
          · exact Or.inl ⟨by omega, h2⟩
      · rw [if_neg (fun hh => hb hh.2), ih]
        constructor
        · rintro ⟨h1, h2⟩; exact ⟨by omega, h2⟩
        · rintro ⟨h1, h2, h3⟩
          have : i ≠ k := fun e => hb (e ▸ h3)
          exact ⟨by omega, h2, h3⟩
    · rename_i h
      rw [ih]
      constructor
      · rintro ⟨h1, h2⟩; exact ⟨by omega, h2⟩
      · rintro ⟨h1, h2⟩
        have : i ≠ k := fun e => h (e ▸ h2.1)
        exact ⟨by omega, h2⟩
/-- A group of numbers below 32 has room. -/
theorem mask_lt {g : Nat} (h : ∀ i, g.testBit i = true → i < 32) : g < 4294967296 := by
  have : g < 2 ^ 32 := Nat.lt_pow_two_of_testBit g fun i hi => by
    cases hb : g.testBit i
    · rfl
    · have := h i hb; omega
  omega
/-- Where none has to stand, nothing is noted. -/
theorem noted_same {s : Int} {L : List ClV} {k k' : Nat} (h : ∀ j, k ≤ j → j < k' → mustAt L j = false) (hk : k ≤ k') : muTo L k' = muTo L k ∧ tkTo L k' = tkTo L k ∧ amAll s L k' = amAll s L k := by
  induction k' with
  | zero => rw [Nat.le_zero.1 hk]; exact ⟨rfl, rfl, rfl⟩
  | succ n ih =>
    by_cases e : k = n + 1
    · rw [e]; exact ⟨rfl, rfl, rfl⟩
    · have hm := h n (by omega) (by omega)
      obtain ⟨h1, h2, h3⟩ := ih (fun j h1 h2 => h j h1 (by omega)) (by omega)
      rw [muTo, tkTo, amAll, hm, if_neg (by decide), if_neg (fun hh => absurd hh.1 (by decide)), if_neg (by decide)]
      exact ⟨h1, h2, h3⟩
/-- Who must stand may. -/
def AllR (s : Int) (L : List ClV) : Prop := ∀ i, mustAt L i = true → mayAt s L i = true
theorem AllR.not {s : Int} {L : List ClV} (h : AllR s L) {j : Nat} (hj : mayAt s L j = false) : mustAt L j = false := by
  cases hm : mustAt L j
  · rfl
  · rw [h j hm] at hj; exact absurd hj (by decide)
theorem noted_first {s : Int} {L : List ClV} (h : AllR s L) : muTo L (bd s L 0) = 0 ∧ tkTo L (bd s L 0) = 0 ∧ amAll s L (bd s L 0) = List.replicate L.length 0 :=
  noted_same (k := 0) (fun _ _ hj => h.not (bd_first hj)) (Nat.zero_le _)
theorem noted_next {s : Int} {L : List ClV} (h : AllR s L) {p k : Nat} (hp : p < (keptL s L).length) (hk : bd s L p = k) (hk1 : k + 1 ≤ bd s L (p + 1)) : muTo L (bd s L (p + 1)) = muTo L (k + 1) ∧ tkTo L (bd s L (p + 1)) = tkTo L (k + 1) ∧ amAll s L (bd s L (p + 1)) = amAll s L (k + 1) :=
  noted_same (fun _ h1 h2 => h.not (bd_gap hp (by omega) h2)) hk1
def tTo (w : World) (s : Int) (L : List ClV) (A9 : Option Addr) (c9 k : Nat) : SP := ⟨w.heap.size + 1 + 1 + 1, w.heap.size + 1, w.heap.size + 1 + 1, w.heap.size, c9, A9, muTo L k, tkTo L k, amAll s L k, s⟩
theorem small_to (w : World) (s : Int) (L : List ClV) (A9 : Option Addr) (c9 k : Nat) (hL : L.length ≤ 24) (hk : k ≤ L.length) : Small (tTo w s L A9 c9 k) L := by
  refine ⟨hL, mask_lt fun i hi => ?_, mask_lt fun i hi => ?_, fun j => ?_⟩
  · have := ((mu_bit L k i).1 hi).1; omega
  · have := ((tk_bit L k i).1 hi).1; omega
  · by_cases hj : j < L.length
    · exact mask_lt fun i hi => by have := ((am_bit s L k j hj i).1 hi).1; omega
    · show (amAll s L k).getD j 0 < _
      rw [List.getD_eq_getElem?_getD, List.getElem?_eq_none (by rw [amAll_len]; omega)]
      simp
/-- What a search knows of its calls. -/
structure Masks (t : SP) (L : List ClV) : Prop where
  small : Small t L
  mu : ∀ i, t.mu.testBit i = true ↔ i < L.length ∧ mustAt L i = true
  tk : ∀ i, t.tk.testBit i = true ↔ i < L.length ∧ mustAt L i = true ∧ kindAt L i = 5
  am : ∀ j, mayAt t.sh L j = true → ∀ i, (t.am.getD j 0).testBit i = true ↔ i < L.length ∧ mustAt L i = true ∧ befL L i j = true
theorem masks_to (w : World) (s : Int) (L : List ClV) (A9 : Option Addr) (c9 : Nat) (hL : L.length ≤ 24) : Masks (tTo w s L A9 c9 L.length) L :=
  ⟨small_to w s L A9 c9 _ hL (Nat.le_refl _), mu_bit L _, tk_bit L _, fun _ hj i => by
    rw [← befM_yes (s := s) hj]
    exact am_bit s L _ _ (may_at_lt hj) i⟩
theorem Tryzinfo_grp : (Tryz.prog.info? 79).map (fun i => (i.zero, i.size, i.bytes)) = some (some (.int .u32 0), 1, 4) := by kernel_rfl
theorem make_grps (w : World) (n : Nat) (hn : n ≤ 1000) : (Instr.makeSlice 108 (.int .i64 (n : Int)) (.int .i64 (n : Int))).run Tryz.prog w = .ok (.slice (some ⟨w.heap.size, 0, none⟩) n n) (w.alloc (.cells (List.replicate n (.int .u32 0)).toArray 79)) := by
  obtain ⟨i, hi, h0, h1, h2⟩ := info_parts Tryzinfo_grp
  exact make_one w _ _ i _ 4 Tryz.underlying108 hi h0 h1 h2 (by omega) rfl n hn
/-- A new search. -/
structure NewS (w w' : World) (t : SP) (L : List ClV) : Prop where
  srch : Srch w' t L
  apart : Apart t
  masks : Masks t L
  dead : w'.heap[t.D]? = some (.map #[] 0)
  pairs : w'.heap[t.R]? = some (.map #[] 0)
  below : Below w.heap.size w w'
  new : ∀ b, fS t b → w.heap.size ≤ b

/-- A search that is being made: the first k calls have been looked at. -/
structure MkS (w0 w : World) (s : Int) (L : List ClV) (A0 : Option Addr) (k : Nat) (A : Option Addr) (c : Nat) : Prop where
  box : Line1 w (w0.heap.size + 1 + 1 + 1) 112 [.slice A (keptTo s L k).length c, .int .u32 0, .int .u32 0, .slice (some ⟨w0.heap.size, 0, none⟩) L.length L.length, .map (some (w0.heap.size + 1)), .map (some (w0.heap.size + 1 + 1))]
  row : hist.Own cellsI 9 85 w (.slice A (keptTo s L k).length c) (keptTo s L k)
  ahd : Line1 w w0.heap.size 79 (lineU (List.replicate L.length 0))
  dead : w.heap[w0.heap.size + 1]? = some (.map #[] 0)
  pairs : w.heap[w0.heap.size + 1 + 1]? = some (.map #[] 0)
  calls : At cells9 9 w A0 L
  below : Below w0.heap.size w0 w
  new : ∀ g, (Value.slice A (keptTo s L k).length c).ownBlock = some g → w0.heap.size + 1 + 1 + 1 < g
  old : ∀ b, A0 = some b → b.block < w0.heap.size
section
variable {w0 w w' : World} {s : Int} {L : List ClV} {A0 A : Option Addr} {k c : Nat}
theorem MkS.next (h : MkS w0 w s L A0 k A c) (hb : Below w.heap.size w w') : MkS w0 w' s L A0 k A c :=
  ⟨h.box.below hb, h.row.below hb, h.ahd.below hb, (hb.block _ (Array.getElem?_eq_some_iff.1 h.dead).1).trans h.dead, (hb.block _ (Array.getElem?_eq_some_iff.1 h.pairs).1).trans h.pairs, h.calls.later hb, past h.below hb, h.new, h.old⟩
theorem MkS.skip (h : MkS w0 w s L A0 k A c) (e : keptTo s L (k + 1) = keptTo s L k) : MkS w0 w s L A0 (k + 1) A c := by
  obtain ⟨h1, h2, h3, h4, h5, h6, h7, h8, h9⟩ := h
  rw [← e] at h1 h2 h8
  exact ⟨h1, h2, h3, h4, h5, h6, h7, h8, h9⟩
/-- The world of the search that is made, ahead of its notes. -/
def newW (w : World) (n : Nat) : World :=
  (((w.alloc (.cells (Array.replicate n (.int .u32 0)) 79)).alloc (.map #[] 0)).alloc (.map #[] 0)).alloc (.cells #[.slice none 0 0, .int .u32 0, .int .u32 0, .slice (some ⟨w.heap.size, 0, none⟩) n n, .map (some (w.heap.size + 1)), .map (some (w.heap.size + 1 + 1))] 112)
theorem new_base (w : World) (s : Int) (A0 : Option Addr) (L : List ClV) (h : At cells9 9 w A0 L) (hlt : ∀ b, A0 = some b → b.block < w.heap.size) (n : Nat) (hn : L.length = n) : MkS w (newW w n) s L A0 0 none 0 := by
  subst hn
  unfold newW
  generalize hwa : w.alloc (.cells (Array.replicate L.length (.int .u32 0)) 79) = wa
  have sa : wa.heap.size = w.heap.size + 1 := by rw [← hwa]; simp
  have ba : Below w.heap.size w wa := by rw [← hwa]; exact (Below.refl _ _).alloc (Nat.le_refl _) _
  have ga : wa.heap[w.heap.size]? = some (.cells (Array.replicate L.length (.int .u32 0)) 79 (0, 0)) := by rw [← hwa]; exact new_block _ _ _
  generalize hwb : wa.alloc (.map #[] 0) = wb
  have sb : wb.heap.size = w.heap.size + 1 + 1 := by rw [← hwb, ← sa]; simp
  have bb : Below wa.heap.size wa wb := by rw [← hwb]; exact (Below.refl _ _).alloc (Nat.le_refl _) _
  have db : wb.heap[w.heap.size + 1]? = some (.map #[] 0) := by rw [← hwb, ← sa]; exact heap_alloc_new wa _
  generalize hwc : wb.alloc (.map #[] 0) = wc
  have sc : wc.heap.size = w.heap.size + 1 + 1 + 1 := by rw [← hwc, ← sb]; simp
  have bc : Below wb.heap.size wb wc := by rw [← hwc]; exact (Below.refl _ _).alloc (Nat.le_refl _) _
  have rc : wc.heap[w.heap.size + 1 + 1]? = some (.map #[] 0) := by rw [← hwc, ← sb]; exact heap_alloc_new wb _
  have bd : ∀ o, Below wc.heap.size wc (wc.alloc o) := fun o => (Below.refl _ _).alloc (Nat.le_refl _) _
  refine ⟨⟨?_⟩, hist.Own.nil _ _, ⟨?_⟩, ?_, ?_, (((h.later ba).later bb).later bc).later (bd _), past (past (past ba bb) bc) (bd _), fun g hg => by simp [Value.ownBlock] at hg, hlt⟩
  · have := new_block wc #[.slice none 0 0, .int .u32 0, .int .u32 0, .slice (some ⟨w.heap.size, 0, none⟩) L.length L.length, .map (some (w.heap.size + 1)), .map (some (w.heap.size + 1 + 1))] 112
    rw [sc] at this
    exact this
  · rw [(bd _).block _ (by omega), bc.block _ (by omega), bb.block _ (by omega), ga]
    simp [lineU]
  · rw [(bd _).block _ (by omega), bc.block _ (by omega), db]
  · rw [(bd _).block _ (by omega), rc]
theorem oneI (i : Nat) (x : Nat × ClV) : ∀ u ∈ cellsI i x, u.oneCell' = true := hist.one9 x.1 x.2
/-- One call more is kept. -/
theorem MkS.more (h : MkS w0 w s L A0 k A c) (hL : L.length ≤ 24) {d : ClV} (hk : L[k]? = some d) (hm : mayC s d = true) {w4 : World} (hw4 : w4 = w.drew.alloc (.cells #[.int .i64 d.B, .int .i64 d.D, .int .i64 (k : Int), .int .i64 d.T, .int .i64 d.K, .int .i64 d.Y, .int .i64 d.C, .bool d.O, .int .i64 d.V] 85)) :
    ∃ v' w5, (Builtin.append_ #[71, 71] 71 #[.slice A (keptTo s L k).length c, .slice (some ⟨w.heap.size, 0, none⟩) 1 1]).run Tryz.prog w4 = .ok v' w5 ∧ w5.frozen? ⟨w0.heap.size + 1 + 1 + 1, 0, none⟩ = false ∧ w5.cell? ⟨w0.heap.size + 1 + 1 + 1, 0, none⟩ = some (.slice A (keptTo s L k).length c) ∧
      (∃ A' c', v' = .slice A' ((keptTo s L k).length + 1) c' ∧ MkS w0 (w5.setCell ⟨w0.heap.size + 1 + 1 + 1, 0, none⟩ v') s L A0 (k + 1) A' c') := by
  subst hw4
  obtain ⟨i0, hi, hz0, hz1, hz2⟩ := info_parts hist.Tryzinfo_call
  have hX := h.box.lt
  have b4 : Below w.heap.size w (w.drew.alloc (.cells #[.int .i64 d.B, .int .i64 d.D, .int .i64 (k : Int), .int .i64 d.T, .int .i64 d.K, .int .i64 d.Y, .int .i64 d.C, .bool d.O, .int .i64 d.V] 85)) := ((Below.refl _ _).drew).alloc (Nat.le_refl _) _
  have s4 : (w.drew.alloc (.cells #[.int .i64 d.B, .int .i64 d.D, .int .i64 (k : Int), .int .i64 d.T, .int .i64 d.K, .int .i64 d.Y, .int .i64 d.C, .bool d.O, .int .i64 d.V] 85)).heap.size = w.heap.size + 1 := by simp
  have hlen : (keptTo s L k).length ≤ 24 := by
    have h1 := kept_len (s := s) (L := L) k
    have h2 := (List.getElem?_eq_some_iff.1 hk).1
    omega
  obtain ⟨v', w5, hrun, hown, hgr, hat, A', c', hv'⟩ := hist.append_row lenI (w.drew.alloc (.cells #[.int .i64 d.B, .int .i64 d.D, .int .i64 (k : Int), .int .i64 d.T, .int .i64 d.K, .int .i64 d.Y, .int .i64 d.C, .bool d.O, .int .i64 d.V] 85)) 71 71 85 i0 _ 72 Tryz.underlying71 hi hz0 hz1 hz2 rfl (by decide) (.slice A (keptTo s L k).length c) (keptTo s L k) (k, d) (h.row.below b4) w.heap.size (by
      exact hist.new_cells w.drew [.int .i64 d.B, .int .i64 d.D, .int .i64 (k : Int), .int .i64 d.T, .int .i64 d.K, .int .i64 d.Y, .int .i64 d.C, .bool d.O, .int .i64 d.V] _) (oneI _ _) (by unfold maxLen; omega) (by omega)
  subst hv'
  rw [← kept_yes hk hm] at hown
  have hkl : (keptTo s L (k + 1)).length = (keptTo s L k).length + 1 := by rw [kept_yes hk hm]; simp
  have hblk : ∀ b, b < w.heap.size → (Value.slice A (keptTo s L k).length c).ownBlock ≠ some b → w5.heap[b]? = w.heap[b]? := fun b hb hne => (hgr.block b (by omega) (fun e => hne e.symm)).trans (b4.block b hb)
  have hsz := hgr.size
  have hne : ∀ b, b ≤ w0.heap.size + 1 + 1 + 1 → (Value.slice A (keptTo s L k).length c).ownBlock ≠ some b := fun b hb e => by
    have := h.new b e
    omega
  have hbox : w5.heap[w0.heap.size + 1 + 1 + 1]? = w.heap[w0.heap.size + 1 + 1 + 1]? := hblk _ hX (hne _ (Nat.le_refl _))
  have B5 := h.box.moved hbox
  refine ⟨_, w5, hrun, B5.free 0, B5.cell 0, some A', c', rfl, ?_⟩
  have hset : ∀ b, b ≠ w0.heap.size + 1 + 1 + 1 → (w5.setCell ⟨w0.heap.size + 1 + 1 + 1, 0, none⟩ (.slice (some A') ((keptTo s L k).length + 1) c')).heap[b]? = w5.heap[b]? := fun b hb => Below.heap_setCell _ _ _ _ hb
  have hnew : ∀ g, (Value.slice (some A') ((keptTo s L k).length + 1) c').ownBlock = some g → w0.heap.size + 1 + 1 + 1 < g := fun g hg => by
    rcases hat with hat | hat
    · exact h.new g (hat ▸ hg)
    · rw [hg] at hat
      have := Option.some.inj hat
      omega
  refine ⟨?_, ?_, ?_, ?_, ?_, ?_, ?_, ?_, h.old⟩
  · rw [hkl]; exact B5.put 0 _
  · rw [hkl]
    exact hown.moved fun g hg => hset g (by have := hnew g hg; omega)
  · exact h.ahd.moved ((hset _ (by omega)).trans (hblk _ h.ahd.lt (hne _ (by omega))))
  · rw [hset _ (by omega), hblk _ (by omega) (hne _ (by omega))]; exact h.dead
  · rw [hset _ (by omega), hblk _ (by omega) (hne _ (by omega))]; exact h.pairs
  · exact h.calls.moved fun b hb hl => by
      have h0 := h.old b hb
      rw [hset _ (by omega), hblk _ hl (hne _ (by omega))]
  · refine h.below.trans ⟨hgr.os.trans b4.os, hgr.tape.trans b4.tape, hgr.output.trans b4.output, ?_, fun b hb => ?_⟩
    · rw [set_size]; omega
    · rw [hset _ (by omega), hblk _ (by have := h.below.size; omega) (hne _ (by omega))]
  · rw [hkl]; exact hnew
end

/-- A search of kept calls, none noted yet. -/
theorem MkS.start {w0 w : World} {s : Int} {L : List ClV} {A0 A : Option Addr} {c : Nat} (h : MkS w0 w s L A0 L.length A c) (hr : AllR s L) : Srch w (tTo w0 s L A c (bd s L 0)) L := by
  obtain ⟨h1, h2, h3⟩ := noted_first hr
  unfold tTo
  rw [h1, h2, h3]
  exact ⟨h.box, h.ahd, h.row.at lenI, by simp⟩
theorem MkS.far {w0 w : World} {s : Int} {L : List ClV} {A0 A : Option Addr} {k c : Nat} (h : MkS w0 w s L A0 k A c) : ∀ b, A = some b → w0.heap.size + 1 + 1 + 1 < b.block := fun b hb => by
  obtain ⟨A', c', he, _, _, h4⟩ := h.row.slice
  have hA : A = A' := by injection he
  have h5 := h4 b (hA ▸ hb)
  refine h.new b.block ?_
  rw [hb, h5]
  rfl
set_option maxRecDepth 100000 in
set_option maxHeartbeats 8000000 in
theorem newSearch_any (w : World) (s : Int) (A9 : Option Addr) (c9 : Nat) (L : List ClV) (h : At cells9 9 w A9 L) (hlt : ∀ b, A9 = some b → b.block < w.heap.size) (hr : AllR s L) (n : Nat) (hn : L.length = n) (h24 : n ≤ 24) :
    Calls Tryz.prog 30 #[.int .i64 s, .slice A9 n c9] w fun e w' => ∃ t, e = .returned (.pointer (some ⟨t.X, 0, none⟩)) ∧ t.sh = s ∧ NewS w w' t L := by
  have H := Lib.hid h
  have HLT := Lib.hid hlt
  have HN := Lib.hid hn
  have HRR := Lib.hid hr
  have hmk : ∀ w : World, (Instr.makeSlice 108 (.int .i64 (n : Int)) (.int .i64 (n : Int))).run Tryz.prog w = .ok (.slice (some ⟨w.heap.size, 0, none⟩) n n) (w.alloc (.cells (List.replicate n (.int .u32 0)).toArray 79)) := fun w => make_grps w n (by omega)
  have hl0 : (n : Int) ≤ 24 := by omega
  have hL24 : Hid (L.length ≤ 24) := Lib.hid (by omega)
  have hMay := may_any
  have hMust := must_any
  have hNote := note_any
  unfold clA at hMay hMust hNote
  have HMY := Lib.hid hMay
  have HM := Lib.hid hMust
  have HNT := Lib.hid hNote
  clear h hlt hn hr hMay hMust hNote
  go_enter Tryz.func30, Tryz.ntmps30
  have hmm := @run_makeMap Tryz.prog
  go_wp2
  clear hmm hmk
  have b1 := new_base w s A9 L H.out HLT.out n HN.out
  unfold newW at b1
  generalize (((w.alloc (.cells (Array.replicate n (.int .u32 0)) 79)).alloc (.map #[] 0)).alloc (.map #[] 0)).alloc (.cells #[.slice none 0 0, .int .u32 0, .int .u32 0, .slice (some ⟨w.heap.size, 0, none⟩) n n, .map (some (w.heap.size + 1)), .map (some (w.heap.size + 1 + 1))] 112) = w1 at *
  have B1 := Lib.hid b1
  clear b1
  go_loopw [19] (fun j wr => ∃ k : Nat, k ≤ n ∧ j = .int .i64 (k : Int) ∧ ∃ A c, MkS w wr s L A9 k A c) (fun j _ => n - (intOf j).toNat)
  case atStart => exact ⟨0, Nat.zero_le _, rfl, none, 0, B1.out⟩
  case round =>
    obtain ⟨k, hk, rfl, A, c, hM⟩ := hrel
    have MR := Lib.hid hM
    by_cases hlt : k < n
    · have hkl : k < L.length := by rw [HN.out]; exact hlt
      have hki : (k : Int) < (n : Int) := by omega
      obtain ⟨b, hb9, p0, p1, p2, p3, p4, p5, p6, p7, p8⟩ := (hM.calls : At cells9 9 wr A9 L).ca k hkl
      have hLk : L[k]? = some L[k] := List.getElem?_eq_getElem hkl
      have HLK := Lib.hid hLk
      generalize L[k] = d at *
      obtain rfl : A9 = some b := hb9
      have NB : Hid (Blk9 (wr.alloc (.cells #[.int .i64 d.B, .int .i64 d.D, .int .i64 (k : Int), .int .i64 d.T, .int .i64 d.K, .int .i64 d.Y, .int .i64 d.C, .bool d.O, .int .i64 d.V] 85)) wr.heap.size k d) := Lib.hid ⟨new_block _ _ _⟩
      have bB : Below wr.heap.size wr (wr.alloc (.cells #[.int .i64 d.B, .int .i64 d.D, .int .i64 (k : Int), .int .i64 d.T, .int .i64 d.K, .int .i64 d.Y, .int .i64 d.C, .bool d.O, .int .i64 d.V] 85)) := (Below.refl _ _).alloc (Nat.le_refl _) _
      have M2 := Lib.hid (MR.out.next bB)
      clear hM hkl hLk bB
      cases hm : mayC s d
      · have HM2 := Lib.hid hm
        have KN := Lib.hid (kept_no HLK.out hm)
        clear hm
        go_wp2_with (go_at_call 34; go_loud (refine (HMY.out _ s k d).mono ?_; rintro e w2 ⟨rfl, hb2⟩; rw [HM2.out]; have M3 := Lib.hid (M2.out.next hb2); clear hb2))
        go_roundw
        case rel => exact ⟨k + 1, by omega, by go_num, A, c, M3.out.skip KN.out⟩
        case measure => simp [intOf]; omega
      · have HM2 := Lib.hid hm
        clear hm
        go_upto_region 6 with (go_at_call 34; go_loud (refine (HMY.out _ s k d).mono ?_; rintro e w2 ⟨rfl, hb2⟩; rw [HM2.out]; have M3 := Lib.hid (M2.out.next hb2); have B3 := Lib.hid (NB.out.below hb2); clear hb2))
        obtain ⟨v', w5, hrun, hfz, hsz, A', c', hv', hM5⟩ := M3.out.more hL24.out HLK.out HM2.out rfl
        subst hv'
        have s0 : w2.cell? ⟨w.heap.size + 1 + 1 + 1, 0, none⟩ = some (.slice A (keptTo s L k).length c) := M3.out.box.cell 0
        obtain ⟨q0, q1, q2, q3, q4, q5, q6, q7, q8⟩ := B3.out.cells
        have hqb := B3.out.lt
        have hsx := M3.out.box.lt
        have HR := Lib.hid hrun
        have M5 := Lib.hid hM5
        clear p0 p1 p2 p3 p4 p5 p6 p7 p8 hrun hM5
        generalize (keptTo s L k).length = m at *
        have FIN : Hid (∃ A c, MkS w (w5.setCell ⟨w.heap.size + 1 + 1 + 1, 0, none⟩ (.slice A' (m + 1) c')) s L (some b) (k + 1) A c) := Lib.hid ⟨A', c', M5.out⟩
        clear MR M2 NB HLK hki HRR HMY HM HNT H HLT B1 M3 B3 M5 HM2 hL24 HN
        go_region_law (refine quiet.step_known rfl (.tmp 30) (.tmp 32) 71 rfl (.slice A m c) (.slice (some ⟨w2.heap.size, 0, none⟩) 1 1) _ w5 rfl rfl HR.out ?_)
        all_goals
          go_wp2_with fail
          go_roundw
          case rel => exact ⟨k + 1, by omega, by go_num, FIN.out⟩
          case measure => simp [intOf]; omega
    · have hkn : k = L.length := by rw [HN.out]; omega
      have M0 : MkS w wr s L A9 L.length A c := hkn ▸ MR.out
      have S0 := Lib.hid (M0.start HRR.out)
      have HFA := Lib.hid M0.far
      have hD : wr.heap[w.heap.size + 1]? = some (.map #[] 0) := M0.dead
      have hP : wr.heap[w.heap.size + 1 + 1]? = some (.map #[] 0) := M0.pairs
      have HDP := Lib.hid (And.intro hD hP)
      have HBW := Lib.hid M0.below
      have HXL := Lib.hid M0.box.lt
      have hkl0 : (keptL s L).length ≤ L.length := kept_len _
      obtain ⟨m, hm⟩ : ∃ m, m = (keptL s L).length := ⟨_, rfl⟩
      have HKN := Lib.hid hm
      have hm0 : (m : Int) ≤ 24 := by have := HN.out; omega
      obtain ⟨s0, -⟩ := S0.out.cs
      simp only [tTo] at s0
      rw [← hm] at s0
      clear hM MR M0 hD hP hkl0 hm hkn B1
      go_wp2
      clear s0
      generalize wr = wz at *
      go_loopw [42] (fun j wr => ∃ p : Nat, p ≤ m ∧ j = .int .i64 (p : Int) ∧ Srch wr (tTo w s L A c (bd s L p)) L ∧ Went (fun b => b = w.heap.size + 1 + 1 + 1 ∨ b = w.heap.size) (fun b => b = w.heap.size + 1 + 1 + 1 ∨ b = w.heap.size) wz wr) (fun j _ => m - (intOf j).toNat)
      case atStart => exact ⟨0, Nat.zero_le _, rfl, S0.out, Went.refl _ _⟩
      case round =>
        obtain ⟨p, hp, rfl, hS, hW⟩ := hrel
        have SR := Lib.hid hS
        have WR := Lib.hid hW
        by_cases hlp : p < m
        · have hpi : (p : Int) < (m : Int) := by omega
          have hpl : p < (keptL s L).length := by rw [← HKN.out]; exact hlp
          obtain ⟨k2, d, he, hbd, hkl, hLk, hmay, hnx⟩ := kept_at hpl
          obtain ⟨b, hb9, p0, p1, p2, p3, p4, p5, p6, p7, p8⟩ := kept_ci (show hist.At cellsI 9 wr A (keptL s L) from hS.calls) hpl he
          obtain rfl : A = some b := hb9
          have HLK := Lib.hid hLk
          have HMAY : Hid (mayC (tTo w s L (some b) c k2).sh d = true) := Lib.hid hmay
          have hLe : L[k2] = d := (List.getElem?_eq_some_iff.1 hLk).2
          have hmu : mustAt L k2 = mustC d := by unfold mustAt; rw [hLk]
          have hkd : kindAt L k2 = d.K := by unfold kindAt; rw [hLk]
          obtain ⟨n1, n2, n3⟩ := noted_next HRR.out hpl hbd hnx
          rw [hbd] at SR
          have HX : Hid ((tTo w s L (some b) c k2).X ≠ (tTo w s L (some b) c k2).ga ∧ ∀ b', (tTo w s L (some b) c k2).A9 = some b' → b'.block ≠ (tTo w s L (some b) c k2).X ∧ b'.block ≠ (tTo w s L (some b) c k2).ga) := Lib.hid ⟨by simp only [tTo]; omega, fun b' hb' => by have := HFA.out b' hb'; simp only [tTo]; omega⟩
          have HSM := Lib.hid (small_to w s L (some b) c k2 hL24.out (Nat.le_of_lt hkl))
          have NB := Lib.hid (⟨new_block wr _ _⟩ : Blk9 (wr.alloc (.cells #[.int .i64 d.B, .int .i64 d.D, .int .i64 (k2 : Int), .int .i64 d.T, .int .i64 d.K, .int .i64 d.Y, .int .i64 d.C, .bool d.O, .int .i64 d.V] 85)) wr.heap.size k2 d)
          have bB : Below wr.heap.size wr (wr.alloc (.cells #[.int .i64 d.B, .int .i64 d.D, .int .i64 (k2 : Int), .int .i64 d.T, .int .i64 d.K, .int .i64 d.Y, .int .i64 d.C, .bool d.O, .int .i64 d.V] 85)) := (Below.refl _ _).alloc (Nat.le_refl _) _
          have SR2 := Lib.hid (SR.out.below bB)
          have WR2 := Lib.hid (WR.out.next bB)
          clear hS hW hkl hLk hLe hmay hnx hbd he hpl bB
          cases hm : mustC d
          · have HM2 := Lib.hid hm
            have HT : Hid (tTo w s L (some b) c (bd s L (p + 1)) = tTo w s L (some b) c k2) := Lib.hid (by
              unfold tTo
              rw [n1, n2, n3, show muTo L (k2 + 1) = muTo L k2 by rw [muTo]; rw [hmu, hm, if_neg (by decide)], show tkTo L (k2 + 1) = tkTo L k2 by rw [tkTo]; rw [hmu, hm, if_neg (fun h => absurd h.1 (by decide))], show amAll s L (k2 + 1) = amAll s L k2 by rw [amAll]; rw [hmu, hm, if_neg (by decide)]])
            clear hm hmu hkd n1 n2 n3
            go_wp2_with (go_at_call 37; go_loud (refine (HM.out _ k2 d).mono ?_; rintro e w2 ⟨rfl, hb2⟩; rw [HM2.out]; have SR3 := Lib.hid (SR2.out.below hb2); have WR3 := Lib.hid (WR2.out.next hb2); clear hb2))
            go_roundw
            case rel => exact ⟨p + 1, by omega, by go_num, by rw [HT.out]; exact SR3.out, WR3.out⟩
            case measure => simp [intOf]; omega
          · have HM2 := Lib.hid hm
            have HT : Hid (∀ wx, Srch wx { tTo w s L (some b) c k2 with mu := withG (tTo w s L (some b) c k2).mu k2, tk := if d.K = 5 then withG (tTo w s L (some b) c k2).tk k2 else (tTo w s L (some b) c k2).tk, am := amTo s L k2 L.length (tTo w s L (some b) c k2).am } L → Srch wx (tTo w s L (some b) c (bd s L (p + 1))) L) := Lib.hid (fun wx h => by
              have e : tTo w s L (some b) c (bd s L (p + 1)) = { tTo w s L (some b) c k2 with mu := withG (tTo w s L (some b) c k2).mu k2, tk := if d.K = 5 then withG (tTo w s L (some b) c k2).tk k2 else (tTo w s L (some b) c k2).tk, am := amTo s L k2 L.length (tTo w s L (some b) c k2).am } := by
                unfold tTo
                rw [n1, n2, n3, show muTo L (k2 + 1) = withG (muTo L k2) k2 by rw [muTo]; rw [hmu, hm, if_pos rfl], show amAll s L (k2 + 1) = amTo s L k2 L.length (amAll s L k2) by rw [amAll]; rw [hmu, hm, if_pos rfl], show tkTo L (k2 + 1) = if d.K = 5 then withG (tkTo L k2) k2 else tkTo L k2 by rw [tkTo]; rw [hmu, hm, hkd]; simp]
              rw [e]
              exact h)
            clear hm hmu hkd n1 n2 n3
            go_wp2_with (first
              | (go_at_call 50; have _t := SR3.out; go_loud (refine (HNT.out _ (tTo w s L (some b) c k2) L SR3.out HX.out.1 HX.out.2 HSM.out k2 d HLK.out HMAY.out).mono ?_; rintro e w3 ⟨rfl, hN⟩; have SR4 := Lib.hid (HT.out _ hN.srch); have WR4 := Lib.hid (WR3.out.trans hN.went); clear hN))
              | (go_at_call 37; go_loud (refine (HM.out _ k2 d).mono ?_; rintro e w2 ⟨rfl, hb2⟩; rw [HM2.out]; have SR3 := Lib.hid (SR2.out.below hb2); have WR3 := Lib.hid (WR2.out.next hb2); have BR3 := Lib.hid (NB.out.below hb2); obtain ⟨q0, q1, q2, q3, q4, q5, q6, q7, q8⟩ := BR3.out.cells; clear hb2)))
            go_roundw
            case rel => exact ⟨p + 1, by omega, by go_num, SR4.out, WR4.out⟩
            case measure => simp [intOf]; omega
        · have hpn : p = m := by omega
          have HE : Hid (NewS w wr (tTo w s L A c L.length) L) := Lib.hid (by
            have hsz := HBW.out.size
            have hxl := HXL.out
            have hW := WR.out
            have hSF := SR.out
            rw [hpn, HKN.out, bd_all] at hSF
            refine ⟨hSF, ⟨by simp only [tTo]; omega, by simp only [tTo]; omega, by simp only [tTo]; omega, by simp only [tTo]; omega, by simp only [tTo]; omega, fun b hb => ?_, fun b hb => ?_⟩, masks_to w s L A c hL24.out, ?_, ?_, ?_, fun b hb => ?_⟩
            · have := HFA.out b hb; simp only [tTo]; omega
            · have := HFA.out b hb; simp only [tTo]; omega
            · exact (hW.block _ (Array.getElem?_eq_some_iff.1 HDP.out.1).1 (by omega)).trans HDP.out.1
            · exact (hW.block _ (Array.getElem?_eq_some_iff.1 HDP.out.2).1 (by omega)).trans HDP.out.2
            · exact hW.below HBW.out hsz (fun b hb => by omega)
            · rcases hb with rfl | rfl <;> simp only [tTo] <;> omega)
          clear hpn
          go_wp2
          go_returns
          exact ⟨tTo w s L A c L.length, rfl, rfl, HE.out⟩
end Go.Proofs.YtmpilokgbblonaaGreat.lin
