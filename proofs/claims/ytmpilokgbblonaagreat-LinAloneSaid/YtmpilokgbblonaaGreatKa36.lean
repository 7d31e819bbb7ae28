/- Rows of groups with room; what a search knows of pairs. -/
import Derived.Test.YtmpilokgbblonaaGreatKa35
import Derived.Laws.Cover4
import Derived.Test.YtmpilokgbblonaaGreatKa04
namespace Go.Proofs.YtmpilokgbblonaaGreat.lin
open Go.RowKit Go.Maps
open hist (past new_block Went)

theorem Tryzinfo_group : (Tryz.prog.info? 79).map (fun i => (i.zero, i.size, i.bytes)) = some (some (.int .u32 0), 1, 4) := by kernel_rfl
/-- A group, as a value. -/
abbrev gv (x : Nat) : Value := .int .u32 (x : Int)
/-- A row of groups from cell o on, with room for c. -/
structure URow (w : World) (g o c : Nat) (xs : List Nat) : Prop where
  len : xs.length ≤ c
  big : c ≤ maxLen
  blk : ∃ cur, w.heap[g]? = some (.cells cur 79 (0, 0)) ∧ o + c ≤ cur.size ∧ ∀ j, j < xs.length → cur[o + j]? = some (gv (xs.getD j 0))
section
variable {w w' : World} {g o c : Nat} {xs : List Nat}
theorem URow.lt (h : URow w g o c xs) : g < w.heap.size := by
  obtain ⟨cur, hb, _⟩ := h.blk
  exact (Array.getElem?_eq_some_iff.1 hb).1
theorem URow.moved (h : URow w g o c xs) (hb : w'.heap[g]? = w.heap[g]?) : URow w' g o c xs := ⟨h.len, h.big, by rw [hb]; exact h.blk⟩
theorem URow.below (h : URow w g o c xs) (hb : Below w.heap.size w w') : URow w' g o c xs := h.moved (hb.block g h.lt)
theorem URow.cell (h : URow w g o c xs) {j : Nat} (hj : j < xs.length) : w.cell? ⟨g, o + j, none⟩ = some (gv (xs.getD j 0)) := by
  obtain ⟨cur, hb, _, hc⟩ := h.blk
  rw [Joins.cell_of_block hb]
  exact hc j hj
theorem URow.free (h : URow w g o c xs) (i : Nat) : w.frozen? ⟨g, i, none⟩ = false := by
  obtain ⟨cur, hb, _⟩ := h.blk
  exact Joins.unfrozen_of_block hb i
theorem URow.tail {x : Nat} (h : URow w g o c (x :: xs)) : URow w g (o + 1) (c - 1) xs := by
  obtain ⟨cur, hb, hs, hc⟩ := h.blk
  have hl := h.len
  have hg := h.big
  simp only [List.length_cons] at hl
  exact ⟨by omega, by omega, cur, hb, by omega, fun j hj => by
    rw [show o + 1 + j = o + (j + 1) by omega, hc (j + 1) (by simp; omega)]
    rfl⟩
/-- A row of one, just made. -/
theorem urow_one (w : World) (x : Nat) : URow (w.alloc (.cells #[gv x] 79)) w.heap.size 0 1 [x] :=
  ⟨by simp, by decide, _, heap_alloc_new w _, by simp, fun j hj => by
    obtain rfl : j = 0 := by simpa using hj
    rfl⟩
/-- One group more. -/
theorem push_one (w : World) (ty : TypeId) (x p lo : Nat) (h : URow w g o c xs) (hlo : lo ≤ g) (hw : lo ≤ w.heap.size) (n : Nat) (hn : xs.length = n) (hl : n ≤ 100000000) (hp : w.cell? ⟨p, 0, none⟩ = some (gv x)) :
    ∃ g' o' c' w', (Builtin.append_ #[108, 108] ty #[.slice (some ⟨g, o, none⟩) n c, .slice (some ⟨p, 0, none⟩) 1 1]).run Tryz.prog w = .ok (.slice (some ⟨g', o', none⟩) (n + 1) c') w' ∧ URow w' g' o' c' (xs ++ [x]) ∧ lo ≤ g' ∧ Below lo w w'
      ∧ (∀ b, b < w.heap.size → b ≠ g → w'.heap[b]? = w.heap[b]?) ∧ (g' = g ∨ g' = w.heap.size) := by
  subst hn
  obtain ⟨i0, hi, hz0, hz1, hz2⟩ := info_parts Tryzinfo_group
  have hnews : ∀ j v, [gv x][j]? = some v → w.cell? ((⟨p, 0, none⟩ : Addr).add j) = some v := by
    intro j v hj
    cases j with
    | zero =>
      obtain rfl : gv x = v := by simpa using hj
      rw [Addr.add_lit]
      exact hp
    | succ j => simp at hj
  obtain ⟨cur, hb, hs, hc⟩ := h.blk
  have hlen := h.len
  have hbig := h.big
  by_cases hr : xs.length + 1 ≤ c
  · have hin : o + xs.length < cur.size := by omega
    have hrun := run_append_room_src (P := Tryz.prog) w 108 108 ty 79 i0 Tryz.underlying108 hi g o xs.length c _ 1 [gv x] (Src.ofSlice w Tryz.underlying108 ⟨p, 0, none⟩ 1 1 [gv x] (by rw [hz1]; rfl) hnews (fun u hu => by
      obtain rfl : u = gv x := by simpa using hu
      rfl)) hr (fun j hj => by
        obtain rfl : j = 0 := by simpa using hj
        rw [hz1, Joins.cell_of_block hb]
        simp
        omega) (fun j _ => Joins.unfrozen_of_block hb _)
    rw [hz1, Nat.mul_one] at hrun
    have e : w.setCells g (o + xs.length) [gv x] = w.setCell ⟨g, o + xs.length, none⟩ (gv x) := by simp [World.setCells]
    rw [e] at hrun
    refine ⟨g, o, c, _, hrun, ⟨by simpa using hr, hbig, _, Joins.block_setCell (i := o + xs.length) hb _, by simpa using hs, fun j hj => ?_⟩, hlo, (Below.refl lo w).setCell (p := ⟨g, o + xs.length, none⟩) hlo _, fun b _ hne => Below.heap_setCell _ _ _ _ hne, Or.inl rfl⟩
    rw [Array.getElem?_setIfInBounds, List.getD_eq_getElem?_getD]
    by_cases hj2 : j < xs.length
    · rw [if_neg (by omega), List.getElem?_append_left hj2, hc j hj2, List.getD_eq_getElem?_getD]
    · obtain rfl : j = xs.length := by simp at hj; omega
      rw [if_pos rfl, if_pos hin]
      simp
  · have hcl : c = xs.length := by omega
    subst hcl
    have hrun := run_append_grow (P := Tryz.prog) w 108 ty 79 i0 (.int .u32 0) Tryz.underlying108 hi hz0 ⟨g, o, none⟩ xs.length xs.length (xs.map gv) (by rw [hz1]; simp) (fun j v hj => by
      rw [Addr.add_lit]
      rw [List.getElem?_map] at hj
      obtain ⟨y, hy, rfl⟩ := Option.map_eq_some_iff.1 hj
      have hjl := (List.getElem?_eq_some_iff.1 hy).1
      rw [h.cell hjl, List.getD_eq_getElem?_getD, hy]
      rfl) ⟨p, 0, none⟩ 1 1 [gv x] (by rw [hz1]; rfl) hnews (by omega) (by omega) (by rw [hz2]; exact growslice_fits (by omega) (by omega))
    refine ⟨_, 0, _, _, hrun, ⟨?_, ?_, _, heap_alloc_new w.drew _, ?_, fun j hj => ?_⟩, hw, ((Below.refl lo w).drew).alloc hw _, fun b hb _ => Below.heap_alloc _ _ b hb, Or.inr rfl⟩
    · simpa using grownCap_ge w _ _ _
    · exact grownCap_le_maxLen w _ _ _ (by unfold maxLen; omega)
    · have := grownCap_ge w (xs.length + 1) xs.length 79
      simp [size_zeroCells, Value.cells]
      omega
    · rw [Nat.zero_add, Array.getElem?_append_left (by simp at hj; simp; omega), List.getD_eq_getElem?_getD]
      by_cases hjl : j < xs.length
      · rw [Array.getElem?_append_left (by simpa using hjl), List.getElem?_append_left hjl, List.getElem?_eq_getElem hjl]
        simp [hjl]
      · obtain rfl : j = xs.length := by simp at hj; omega
        rw [Array.getElem?_append_right (by simp)]
        simp
end
/-- A slice of groups, nil or not. -/
def URw (w : World) (A : Option Addr) (c : Nat) (xs : List Nat) : Prop := (A = none ∧ c = 0 ∧ xs = []) ∨ ∃ g o, A = some ⟨g, o, none⟩ ∧ URow w g o xs.length xs
theorem URw.moved {w w' : World} {A : Option Addr} {c : Nat} {xs : List Nat} (h : URw w A c xs) (hb : ∀ a, A = some a → a.block < w.heap.size → w'.heap[a.block]? = w.heap[a.block]?) : URw w' A c xs := by
  rcases h with h | ⟨g, o, rfl, h⟩
  · exact Or.inl h
  · exact Or.inr ⟨g, o, rfl, h.moved (hb _ rfl h.lt)⟩
theorem URw.below {w w' : World} {A : Option Addr} {c : Nat} {xs : List Nat} (h : URw w A c xs) (hb : Below w.heap.size w w') : URw w' A c xs := h.moved fun _ _ hl => hb.block _ hl
/-- Where a row's block is, there is no map. -/
theorem URw.not_map {w : World} {A : Option Addr} {c : Nat} {xs : List Nat} (h : URw w A c xs) {a : Addr} (ha : A = some a) {es : Array MapEntry} {k : Nat} {B : Nat} (hb : w.heap[B]? = some (.map es k)) : a.block ≠ B := fun e => by
  rcases h with ⟨h, _⟩ | ⟨g, o, h, hr⟩
  · rw [h] at ha; cases ha
  · rw [h] at ha
    cases ha
    obtain ⟨cur, h1, _⟩ := hr.blk
    rw [show g = B from e, hb] at h1
    cases h1

theorem URw.cells {w : World} {A : Option Addr} {c : Nat} {xs : List Nat} (h : URw w A c xs) {a : Addr} (ha : A = some a) : ∃ cur, w.heap[a.block]? = some (.cells cur 79 (0, 0)) := by
  rcases h with ⟨h, _⟩ | ⟨g, o, h, hr⟩
  · rw [h] at ha; cases ha
  · rw [h] at ha
    cases ha
    obtain ⟨cur, h1, _⟩ := hr.blk
    exact ⟨cur, h1⟩
/-- A slice, in a map, stands for itself. -/
def heldElem (v : Value) : Option (DataW Value × List MemPlace) := some (.held v, [])
/-- What is known of pairs: of some groups, each one's row. -/
structure PairM (No : Nat → Prop) (Gd : Nat → List Nat → Prop) (w : World) (R : Nat) (T : DataW Value) (Ks : List Nat) : Prop where
  own : w.ownsMap Tryz.prog 79 heldElem R Ks.length T
  isMap : IsMap T
  has : ∀ x : Nat, x < 4294967296 → (Maps.has T (.int .u32 (x : Int)) = true ↔ x ∈ Ks)
  nodup : Ks.Nodup
  small : ∀ x ∈ Ks, x < 4294967296
  rows : ∀ x ∈ Ks, ∃ A l c, (∀ z, T.atKey (.int .u32 (x : Int)) z = .held (.slice A l.length c)) ∧ URw w A c l ∧ (∀ a, A = some a → ¬ No a.block) ∧ Gd x l
theorem Tryzzero_groups (w : World) : (zeroValue 108).run Tryz.prog w = .ok (.slice none 0 0) w := by kernel_rfl
section
variable {No : Nat → Prop} {Gd : Nat → List Nat → Prop} {w w' : World} {R : Nat} {T : DataW Value} {Ks : List Nat}
theorem PairM.lt (h : PairM No Gd w R T Ks) : R < w.heap.size := h.own.lt
/-- Nothing but what no row lies in is written into. -/
theorem PairM.moved (h : PairM No Gd w R T Ks) (hb : w'.heap[R]? = w.heap[R]?) (hr : ∀ b, b < w.heap.size → ¬ No b → (∃ cur, w.heap[b]? = some (.cells cur 79 (0, 0))) → w'.heap[b]? = w.heap[b]?) : PairM No Gd w' R T Ks := by
  obtain ⟨⟨es, clock, h1, h2⟩, h3, h4, h5, h6, h7⟩ := h
  refine ⟨⟨es, clock, by rw [hb]; exact h1, h2⟩, h3, h4, h5, h6, fun x hx => ?_⟩
  obtain ⟨A, l, c, e, hA, hN, hg⟩ := h7 x hx
  exact ⟨A, l, c, e, hA.moved fun a ha hl => hr _ hl (hN a ha) (hA.cells ha), hN, hg⟩
/-- Other blocks in which no row lies. -/
theorem PairM.reno (h : PairM No Gd w R T Ks) {No' : Nat → Prop} (hN : ∀ b, No' b → No b ∨ w.heap.size ≤ b) : PairM No' Gd w R T Ks := by
  obtain ⟨h1, h2, h3, h4, h5, h7⟩ := h
  refine ⟨h1, h2, h3, h4, h5, fun x hx => ?_⟩
  obtain ⟨A, l, c, e, hA, hn, hg⟩ := h7 x hx
  refine ⟨A, l, c, e, hA, fun a ha hno => ?_, hg⟩
  rcases hN _ hno with h8 | h8
  · exact hn a ha h8
  · rcases hA with ⟨e2, _⟩ | ⟨g, o, e2, hr⟩
    · rw [e2] at ha; cases ha
    · rw [e2] at ha
      cases ha
      exact absurd hr.lt (by have h9 : w.heap.size ≤ g := h8; omega)
theorem PairM.below (h : PairM No Gd w R T Ks) (hb : Below w.heap.size w w') : PairM No Gd w' R T Ks := h.moved (hb.block R h.lt) fun b hl _ _ => hb.block b hl
theorem pair_made (No : Nat → Prop) (Gd : Nat → List Nat → Prop) (w : World) (B : Nat) (hB : w.heap[B]? = some (.map #[] 0)) : PairM No Gd w B (.map []) [] := by
  have hown : w.ownsMap Tryz.prog 79 heldElem B 0 (.map []) := by
    obtain ⟨es, clock, h1, h2⟩ := World.ownsMap_made w Tryz.prog 79 heldElem
    rw [heap_alloc_new w _] at h1
    obtain ⟨rfl, rfl⟩ : es = #[] ∧ clock = 0 := by
      have := Option.some.inj h1
      injection this with a b
      exact ⟨a.symm, b.symm⟩
    exact ⟨_, _, hB, h2⟩
  exact ⟨hown, isMap_empty, fun x _ => by simp [Maps.has], List.nodup_nil, fun x h => by simp at h, fun x h => by simp at h⟩
theorem PairM.len_le (h : PairM No Gd w R T Ks) : Ks.length ≤ 4294967296 := nodup_le _ Ks h.nodup h.small
/-- Is it known? -/
theorem PairM.look (h : PairM No Gd w R T Ks) {x : Nat} (hx : x < 4294967296) (wx : World) (hb : wx.heap[R]? = w.heap[R]?) :
    (x ∉ Ks ∧ (Instr.lookup 110 (.map (some R)) (gv x) true).run Tryz.prog wx = .ok (.tuple #[.slice none 0 0, .bool false]) wx)
      ∨ ∃ A l c, x ∈ Ks ∧ URw w A c l ∧ (∀ a, A = some a → ¬ No a.block) ∧ Gd x l ∧ (Instr.lookup 110 (.map (some R)) (gv x) true).run Tryz.prog wx = .ok (.tuple #[.slice A l.length c, .bool true]) wx := by
  have hown : wx.ownsMap Tryz.prog 79 heldElem R Ks.length T := by
    obtain ⟨es, clock, h1, h2⟩ := h.own
    exact ⟨es, clock, by rw [hb]; exact h1, h2⟩
  obtain ⟨v, ps, hrun, hv⟩ := hown.look_ok group_keyed Tryz.underlying110 (Tryzzero_groups wx) (zd := .held (.slice none 0 0)) (zp := []) rfl (group_key hx)
  have hv2 : T.atKey (.int .u32 (x : Int)) (.held (.slice none 0 0)) = .held v := (congrArg Prod.fst (Option.some.inj hv)).symm
  cases hh : Maps.has T (.int .u32 (x : Int))
  · refine Or.inl ⟨fun hm => ?_, ?_⟩
    · rw [(h.has x hx).2 hm] at hh
      exact absurd hh (by decide)
    · rw [atKey_of_not_has hh] at hv2
      obtain rfl := DataW.held.inj hv2
      rw [hh] at hrun
      exact hrun
  · have hm := (h.has x hx).1 hh
    obtain ⟨A, l, c, e, hA, hN, hg⟩ := h.rows x hm
    rw [e] at hv2
    obtain rfl := DataW.held.inj hv2
    rw [hh] at hrun
    exact Or.inr ⟨A, l, c, hm, hA, hN, hg, hrun⟩
/-- What is known is there. -/
theorem PairM.get (h : PairM No Gd w R T Ks) {x : Nat} (hx : x ∈ Ks) : ∃ A l c, URw w A c l ∧ (∀ a, A = some a → ¬ No a.block) ∧ Gd x l ∧ (Instr.lookup 110 (.map (some R)) (gv x) false).run Tryz.prog w = .ok (.slice A l.length c) w := by
  obtain ⟨A, l, c, e, hA, hN, hg⟩ := h.rows x hx
  obtain ⟨v, ps, hrun, hv⟩ := h.own.lookup group_keyed Tryz.underlying110 (Tryzzero_groups w) (zd := .held (.slice none 0 0)) (zp := []) rfl (group_key (h.small x hx))
  have hv2 := (congrArg Prod.fst (Option.some.inj hv)).symm
  rw [e] at hv2
  have e3 : v = .slice A l.length c := (DataW.held.inj hv2).symm
  rw [e3] at hrun
  exact ⟨A, l, c, hA, hN, hg, hrun⟩
/-- One is known, or known anew. -/
theorem PairM.put (h : PairM No Gd w R T Ks) {x : Nat} (hx : x < 4294967296) {A : Option Addr} {c : Nat} {l : List Nat} (hA : URw w A c l) (hN : ∀ a, A = some a → ¬ No a.block) (hg : Gd x l) :
    ∃ w' T', (Instr.mapUpdate 110 (.map (some R)) (gv x) (.slice A l.length c)).run Tryz.prog w = .ok () w' ∧ PairM No Gd w' R T' (more Ks x) ∧ w.grownBy w' (some R) := by
  obtain ⟨w', hrun, ho, hgr⟩ := h.own.update group_keyed Tryz.underlying110 (by have := h.len_le; unfold maxLen; omega) (group_key hx) (show heldElem (.slice A l.length c) = some (.held (.slice A l.length c), []) from rfl)
  have hil := group_keyed.key (group_key hx)
  have hh : ∀ y : Nat, y < 4294967296 → (Maps.has (T.put (.int .u32 (x : Int)) (.held (.slice A l.length c))) (.int .u32 (y : Int)) = true ↔ y ∈ more Ks x) := fun y hy => by
    rw [mem_more]
    by_cases e : y = x
    · subst e
      rw [has_put_same h.isMap hil]
      simp
    · rw [has_put_other (fun e2 => e (by have := (Lit.int.inj e2).2; omega)), h.has y hy]
      simp [e]
  have hs : ∀ y ∈ more Ks x, y < 4294967296 := fun y hy => (mem_more.1 hy).elim (h.small y) (fun e => by rw [e]; exact hx)
  refine ⟨w', _, hrun, ⟨?_, h.isMap.put _ _, hh, more_nodup h.nodup, hs, fun y hy => ?_⟩, hgr⟩
  · rw [← keys_size ho hh (more_nodup h.nodup) hs]
    exact owns_exact ho
  · have keep : ∀ {A : Option Addr} {c : Nat} {l : List Nat}, URw w A c l → URw w' A c l := fun hA => hA.moved fun a ha hl => hgr.block _ hl fun e => by
      obtain ⟨es, clock, hb, _⟩ := h.own
      exact hA.not_map ha hb (Option.some.inj e)
    by_cases e : y = x
    · subst e
      exact ⟨A, l, c, fun z => atKey_put_same h.isMap hil _ z, keep hA, hN, hg⟩
    · have hy2 : y ∈ Ks := (mem_more.1 hy).elim id (fun e2 => absurd e2 e)
      obtain ⟨A2, l2, c2, e2, hA2, hN2, hg2⟩ := h.rows y hy2
      exact ⟨A2, l2, c2, fun z => by rw [atKey_put_other (fun e3 => e (by have := (Lit.int.inj e3).2; omega))]; exact e2 z, keep hA2, hN2, hg2⟩
end
end Go.Proofs.YtmpilokgbblonaaGreat.lin
/- Orders by which calls stand in them: a stack's search, pair by pair. By lists alone. -/
namespace Go.Proofs.YtmpilokgbblonaaGreat.lin

section
variable (S : Sys (List Int)) (take : Nat → Bool) (key : Nat → Int) (suits : Int → Nat → Bool)
/-- Calls that can come; what lies under the mark -1 is never taken. -/
def GoesK : Nat → List Int → List Nat → Prop
  | g, _, [] => ∀ i, i < S.n → S.must i = true → g.testBit i = true
  | g, M, i :: cs => Free S g i ∧ S.tells M i = true ∧ (take i = true → M.head? ≠ some (-1)) ∧ GoesK (withG g i) (S.step M i) cs
/-- Pairs, one behind the other: each a Put, pairs, and the Take of the Put's item. -/
inductive Lev : Nat → Nat → Prop
  | refl (g : Nat) : Lev g g
  | pair (g p b t g2 : Nat) : take p = false → Free S g p → Lev (withG g p) b → Free S b t → take t = true → suits (key p) t = true → Lev (withG b t) g2 → Lev g g2
/-- One pair. -/
def PairG (g g' : Nat) : Prop := ∃ p b t, take p = false ∧ Free S g p ∧ Lev S take key suits (withG g p) b ∧ Free S b t ∧ take t = true ∧ suits (key p) t = true ∧ g' = withG b t
def GoodS (g : Nat) (M : List Int) : Prop := ∃ cs, GoesK S take g M cs
end
section
variable {S : Sys (List Int)} {take : Nat → Bool} {key : Nat → Int} {suits : Int → Nat → Bool} {miss : Nat → Bool}
theorem goesK_goes : ∀ {cs : List Nat} {g : Nat} {M : List Int}, GoesK S take g M cs → Goes S g M cs
  | [], _, _, h => h
  | _ :: _, _, _, h => ⟨h.1, h.2.1, goesK_goes h.2.2.2⟩
theorem goes_goesK (hk : ∀ i M, S.may i = true → (∀ x ∈ M, 0 ≤ x) → ∀ x ∈ S.step M i, 0 ≤ x) : ∀ {cs : List Nat} {g : Nat} {M : List Int}, (∀ x ∈ M, 0 ≤ x) → Goes S g M cs → GoesK S take g M cs
  | [], _, _, _, h => h
  | i :: cs, g, M, hM, h => ⟨h.1, h.2.1, fun _ e => by
      cases M with
      | nil => simp at e
      | cons m M =>
        have := hM m (List.mem_cons_self ..)
        simp at e
        omega, goes_goesK hk (hk i M h.1.may hM) h.2.2⟩
theorem goesK_less {c : Nat} (hc : S.must c = false) : ∀ {cs : List Nat} {g : Nat} {M : List Int}, GoesK S take (withG g c) M cs → GoesK S take g M cs
  | [], g, M, h => fun i hi hm => by
    have e : c ≠ i := fun e => by rw [e, hm] at hc; exact absurd hc (by decide)
    have := h i hi hm
    rwa [bit_other e] at this
  | i :: cs, g, M, h => by
    obtain ⟨⟨h1, h2, h3, h4⟩, h5, h7, h6⟩ := h
    refine ⟨⟨h1, ?_, h3, fun k hk hm hb => ?_⟩, h5, h7, ?_⟩
    · rw [bit_with] at h2
      cases hg : g.testBit i
      · rfl
      · rw [hg] at h2; simp at h2
    · have e : c ≠ k := fun e => by rw [e, hm] at hc; exact absurd hc (by decide)
      have := h4 k hk hm hb
      rwa [bit_other e] at this
    · rw [with_comm] at h6
      exact goesK_less hc h6
/-- What never takes what lies under the mark can come over anything. -/
theorem goesK_over (hB : Bags S take key suits miss) (hs : ∀ i M, S.may i = true → take i = false → S.step M i = key i :: M) : ∀ {cs : List Nat} {g : Nat} {X : List Int} (M : List Int), GoesK S take g (X ++ [-1]) cs → GoesK S take g (X ++ M) cs
  | [], _, _, _, h => h
  | i :: cs, g, X, M, h => by
    obtain ⟨h1, h2, h3, h4⟩ := h
    cases ht : take i
    · rw [hs i _ h1.may ht] at h4
      refine ⟨h1, by rw [hB.putT i (X ++ M) h1.may ht (X ++ [-1])]; exact h2, fun e => by rw [ht] at e; exact absurd e (by decide), ?_⟩
      rw [hs i _ h1.may ht]
      exact goesK_over hB hs (X := key i :: X) M h4
    · cases X with
      | nil => exact absurd rfl (h3 ht)
      | cons x X =>
        rw [List.cons_append, hB.takeS i x _ ht] at h4
        rw [List.cons_append, hB.takeT i x _ ht] at h2
        refine ⟨h1, by rw [List.cons_append, hB.takeT i x _ ht]; exact h2, fun e => h3 e, ?_⟩
        rw [List.cons_append, hB.takeS i x _ ht]
        exact goesK_over hB hs (X := X) M h4
/-- An item is taken, behind pairs; or it is never touched. -/
theorem goesK_split (hB : Bags S take key suits miss) (hs : ∀ i M, S.may i = true → take i = false → S.step M i = key i :: M) : ∀ (n : Nat) (cs : List Nat) (g : Nat) (k : Int) (M : List Int), cs.length ≤ n → GoesK S take g (k :: M) cs →
    (∃ gb t, Lev S take key suits g gb ∧ Free S gb t ∧ take t = true ∧ suits k t = true ∧ (∃ qs, qs.length < cs.length ∧ GoesK S take (withG gb t) M qs) ∧ (∀ M2 qs2, GoesK S take (withG gb t) M2 qs2 → ∃ cs2, GoesK S take g (k :: M2) cs2)) ∨ ∃ cs2, GoesK S take g [-1] cs2
  | _, [], _, _, _, _, h => Or.inr ⟨[], h⟩
  | 0, c :: cs, _, _, _, hn, _ => absurd hn (by simp)
  | n + 1, c :: cs, g, k, M, hn, h => by
    have hn2 : cs.length ≤ n := by simpa using hn
    obtain ⟨h1, h2, h3, h4⟩ := h
    cases ht : take c
    · have put : ∀ M2 cs2, GoesK S take (withG g c) (key c :: M2) cs2 → GoesK S take g M2 (c :: cs2) := fun M2 cs2 hg =>
        ⟨h1, by rw [hB.putT c _ h1.may ht (k :: M)]; exact h2, fun e => by rw [ht] at e; exact absurd e (by decide), by rw [hs c _ h1.may ht]; exact hg⟩
      rw [hs c _ h1.may ht] at h4
      rcases goesK_split hB hs n cs (withG g c) (key c) (k :: M) hn2 h4 with ⟨gb, t, a1, a2, a3, a4, ⟨qs, a5, a6⟩, a7⟩ | ⟨cs2, hc2⟩
      · rcases goesK_split hB hs n qs (withG gb t) k M (by omega) a6 with ⟨gb2, t2, b1, b2, b3, b4, ⟨qs2, b5, b6⟩, b7⟩ | ⟨cs2, hc2⟩
        · refine Or.inl ⟨gb2, t2, .pair g c gb t gb2 ht h1 a1 a2 a3 a4 b1, b2, b3, b4, ⟨qs2, by simp; omega, b6⟩, fun M2 q hq => ?_⟩
          obtain ⟨c1, hc1⟩ := b7 M2 q hq
          obtain ⟨c2, hc2⟩ := a7 (k :: M2) c1 hc1
          exact ⟨c :: c2, put _ _ hc2⟩
        · obtain ⟨c3, hc3⟩ := a7 [-1] cs2 hc2
          exact Or.inr ⟨c :: c3, put _ _ hc3⟩
      · exact Or.inr ⟨c :: cs2, put _ _ (goesK_over hB hs (X := []) [key c, -1] hc2)⟩
    · rw [hB.takeS c k M ht] at h4
      rw [hB.takeT c k M ht] at h2
      exact Or.inl ⟨g, c, .refl g, h1, ht, h2, ⟨cs, by simp, h4⟩, fun M2 qs2 hq => ⟨c :: qs2, h1, by rw [hB.takeT c k M2 ht]; exact h2, fun e => h3 e, by rw [hB.takeS c k M2 ht]; exact hq⟩⟩
/-- Where a Take has to come yet, one of these comes next. -/
theorem goodS_next (hB : Bags S take key suits miss) (hs : ∀ i M, S.may i = true → take i = false → S.step M i = key i :: M) {g : Nat} {M : List Int} (h : GoodS S take g M) (hm : ∃ i, i < S.n ∧ S.must i = true ∧ g.testBit i = false) :
    (∃ g', PairG S take key suits g g' ∧ GoodS S take g' M) ∨ (∃ p, take p = false ∧ Free S g p ∧ GoodS S take (withG g p) [-1]) ∨ (∃ t, take t = true ∧ Free S g t ∧ M = [] ∧ miss t = true ∧ GoodS S take (withG g t) [])
      ∨ ∃ t m M', take t = true ∧ Free S g t ∧ M = m :: M' ∧ m ≠ -1 ∧ suits m t = true ∧ GoodS S take (withG g t) M' := by
  obtain ⟨cs, hg⟩ := h
  generalize hn : cs.length = n
  induction n generalizing cs with
  | zero =>
    obtain ⟨i, hi, hmi, hgi⟩ := hm
    rw [List.eq_nil_of_length_eq_zero hn] at hg
    have := hg i hi hmi
    rw [hgi] at this
    exact absurd this (by decide)
  | succ n ih =>
    cases cs with
    | nil => simp at hn
    | cons c cs =>
      obtain ⟨h1, h2, h3, h4⟩ := hg
      cases ht : take c
      · rw [hs c M h1.may ht] at h4
        rcases goesK_split hB hs cs.length cs (withG g c) (key c) M (Nat.le_refl _) h4 with ⟨gb, t, a1, a2, a3, a4, ⟨qs, _, a6⟩, _⟩ | ⟨cs2, hc2⟩
        · exact Or.inl ⟨withG gb t, ⟨c, gb, t, ht, h1, a1, a2, a3, a4, rfl⟩, qs, a6⟩
        · exact Or.inr (Or.inl ⟨c, ht, h1, cs2, hc2⟩)
      · cases M with
        | nil =>
          rw [hB.noneS c ht] at h4
          cases hmc : S.must c
          · exact ih cs (goesK_less hmc h4) (by simpa using hn)
          · exact Or.inr (Or.inr (Or.inl ⟨c, ht, h1, rfl, hB.noneT c ht h2 hmc, cs, h4⟩))
        | cons m M' =>
          rw [hB.takeS c m M' ht] at h4
          rw [hB.takeT c m M' ht] at h2
          exact Or.inr (Or.inr (Or.inr ⟨c, m, M', ht, h1, rfl, fun e => h3 ht (by rw [e]; rfl), h2, cs, h4⟩))
end
end Go.Proofs.YtmpilokgbblonaaGreat.lin
