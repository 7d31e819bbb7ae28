/- Two rows, one behind the other, in a new one; a meaning's items. -/
import Derived.Test.YtmpilokgbblonaaGreatKa13
import Derived.Deep.AppendSrc
import Derived.Maps.AppendAt
import Derived.Laws.AppendOwnNone
import Derived.Deep.RegionHeld3
import Derived.Handy
import Derived.Test.YtmpilokgbblonaaGreatKa10
import Derived.Laws.MakeOwn
import Derived.Test.YtmpilokgbblonaaGreatKa07
namespace Go.Proofs.YtmpilokgbblonaaGreat.spec
open Go.RowKit task

theorem Tryzinfo_int : (Tryz.prog.info? 3).map (fun i => (i.zero, i.size, i.bytes)) = some (some (.int .i64 0), 1, 8) := by kernel_rfl

/-- Numbers of the call's own, in a row from its head on, or nil. -/
def Own (w : World) (lo : Nat) (v : Value) (xs : List Int) : Prop := w.ownsRow lo 3 1 v xs.length (xs.map (Value.int .i64))
theorem Own.nil (w : World) (lo : Nat) : Own w lo (.slice none 0 0) [] := World.ownsRow_nil _ _ _ _
theorem Own.moved {w w' : World} {lo : Nat} {v : Value} {xs : List Int} (h : Own w lo v xs) (hb : ∀ g, v.ownBlock = some g → w'.heap[g]? = w.heap[g]?) : Own w' lo v xs := by
  obtain ⟨hl, ⟨rfl, h0⟩ | ⟨g, cap, cur, rfl, hge, hg, hn, hc, hs, ht⟩⟩ := h
  · exact ⟨hl, Or.inl ⟨rfl, h0⟩⟩
  · exact ⟨hl, Or.inr ⟨g, cap, cur, rfl, hge, (hb g rfl).trans hg, hn, hc, hs, ht⟩⟩
theorem Own.at {w : World} {lo : Nat} {v : Value} {xs : List Int} (h : Own w lo v xs) {g : Nat} (hg : v.ownBlock = some g) : lo ≤ g ∧ g < w.heap.size := World.ownsRow.lt h g hg
theorem Own.below {w w' : World} {lo : Nat} {v : Value} {xs : List Int} (h : Own w lo v xs) (hb : Below w.heap.size w w') : Own w' lo v xs := h.moved fun g hg => hb.block g (h.at hg).2
theorem Own.rw {w : World} {lo : Nat} {v : Value} {xs : List Int} (h : Own w lo v xs) : ∃ A c g, v = .slice A xs.length c ∧ Rw w g A c xs ∧ (A ≠ none → lo ≤ g) := by
  obtain ⟨A, c, g, h1, h2, h3, _⟩ := Rw.ofOwns h
  exact ⟨A, c, g, h1, h2, h3⟩
/-- A slice of numbers, nil or not, appended to one's own: how it runs. -/
theorem append_rw (w : World) (ty : TypeId) (lo : Nat) (v : Value) (xs ys : List Int) (g c : Nat) (A : Option Addr) (h : Own w lo v xs) (hr : Rw w g A c ys) (hlo : lo ≤ w.heap.size) (hn : xs.length + ys.length ≤ 100000) :
    ∃ v' w', (Builtin.append_ #[29, 29] ty #[v, .slice A ys.length c]).run Tryz.prog w = .ok v' w' ∧ Own w' lo v' (xs ++ ys) ∧ w.grownBy w' v.ownBlock ∧ (v'.ownBlock = v.ownBlock ∨ v'.ownBlock = some w.heap.size) := by
  obtain ⟨i0, hi, hz0, hz1, hz2⟩ := info_parts Tryzinfo_int
  rcases hr with ⟨rfl, rfl, rfl⟩ | ⟨o, rfl, hr⟩
  · have hrun := run_append_owned_none (P := Tryz.prog) (w := w) lo 29 ty 3 i0 1 Tryz.underlying29 hi v xs.length (xs.map (Value.int .i64)) h
    refine ⟨v, w, hrun, by rw [List.append_nil]; exact h, ⟨rfl, rfl, rfl, Nat.le_refl _, fun _ _ _ => rfl⟩, Or.inl rfl⟩
  · obtain ⟨v', w', h1, h2, h3, _, h4⟩ := run_append_own_at (P := Tryz.prog) w lo 29 ty 3 i0 (.int .i64 0) 1 8 Tryz.underlying29 hi hz0 hz1 hz2 rfl (by decide) v xs.length (xs.map (Value.int .i64)) h
      ⟨g, o, none⟩ ys.length c (ys.map (Value.int .i64)) (by simp) (fun j u hj => by rw [Addr.add_lit]; exact hr.vals j u hj) (one_vals ys) (by unfold maxLen; omega) (by omega) hlo
    refine ⟨v', w', h1, ?_, h3, h4⟩
    unfold Own
    rw [List.map_append, List.length_append]
    exact h2
theorem wpList_known {P : Program} {w : World} {ops : Array Oper} {rest : List Oper} {o : Oper} {a : Act} {Q : Exit → Act → World → Prop} (hgd : o.guard = none) (s x : Operand) (t : TypeId)
    (ho : o.op = .call { callee := .builtin .append, args := #[s, x], argTypes := #[t, t] }) (v u v' : Value) (w' : World) (hs : a.eval s = v) (hx : a.eval x = u)
    (hrun : (Builtin.append_ #[t, t] o.type #[v, u]).run P w = .ok v' w') (h : wpList P ops Q rest (a.put o.dst v') w') : wpList P ops Q (o :: rest) a w := by
  refine wpList_plain hgd fun K hK => ?_
  unfold Oper.wp
  simp [execOp, ho, resolve, invoke, builtin, hs, hx, hrun, Result.andThen]
  exact hK _ _ h

/-- Room made for n numbers. -/
theorem grow_any (w : World) (n : Nat) (hn : n ≤ 100000) :
    Calls Tryz.prog 76 #[.slice none 0 0, .int .i64 (n : Int)] w fun e w' => ∃ v, e = .returned v ∧ Own w' w.heap.size v [] ∧ Below w.heap.size w w' := by
  by_cases h0 : n = 0
  · subst h0
    refine (Any8.slices_Grow_room Tryz.laysGrow none 0 0 0 w (by omega) (by omega) (by omega) (by omega)).mono ?_
    rintro e w' ⟨rfl, rfl⟩
    exact ⟨_, rfl, Own.nil _ _, Below.refl _ _⟩
  · obtain ⟨i0, hi, hz0, hz1, hz2⟩ := info_parts Tryzinfo_int
    refine (Any8.slices_Grow_grow Tryz.laysGrow i0 (.int .i64 0) hi hz0 (by omega) none 0 0 n [] w (by omega) (by omega) (by rw [hz2]; omega) (by omega) (by simp) (fun _ => rfl) (fun a ha => by cases ha)).mono ?_
    intro e w' hp
    simp only [show Tryz.laysGrow_ren.t 25 = 3 from rfl, Nat.zero_add] at hp
    obtain ⟨rfl, rfl⟩ := hp
    have hge := grownCap_ge w n 0 3
    have hcm := grownCap_le_maxLen w n 0 3 (by unfold maxLen; omega)
    refine ⟨_, rfl, World.ownsRow_made w.drew _ _ (Nat.le_refl _) hcm ?_, ((Below.refl _ _).drew).alloc (Nat.le_refl _) _⟩
    simp [size_zeroCells, Value.cells]
    omega

set_option maxRecDepth 100000 in
set_option maxHeartbeats 2000000 in
theorem concat_any (w : World) (b g1 g2 c1 c2 : Nat) (A1 A2 : Option Addr) (xs ys : List Int) (T : TypeId) (hb : w.heap[b]? = some (.cells #[.slice A1 xs.length c1, .slice A2 ys.length c2] T (0, 0))) (h1 : Rw w g1 A1 c1 xs) (h2 : Rw w g2 A2 c2 ys) (hn : xs.length + ys.length ≤ 1000) :
    Calls Tryz.prog 62 #[.slice (some ⟨b, 0, none⟩) 2 2] w fun e w' => ∃ v, e = .returned v ∧ Own w' w.heap.size v (xs ++ ys) ∧ Below w.heap.size w w' := by
  have H1 := Lib.hid h1
  have H2 := Lib.hid h2
  have k0 : w.cell? ⟨b, 0, none⟩ = some (.slice A1 xs.length c1) := by rw [Joins.cell_of_block hb]; rfl
  have k1 : w.cell? ⟨b, 1, none⟩ = some (.slice A2 ys.length c2) := by rw [Joins.cell_of_block hb]; rfl
  have hlt : b < w.heap.size := (Array.getElem?_eq_some_iff.1 hb).1
  clear h1 h2 hb
  have hx0 : (xs.length : Int) ≤ 1000 := by omega
  have hy0 : (xs.length : Int) + (ys.length : Int) ≤ 1000 := by omega
  have HS : Hid ((xs.length : Int) + (ys.length : Int) = ((xs.length + ys.length : Nat) : Int)) := by show _ = _; omega
  have HN := Lib.hid hn
  clear hn
  go_enter Tryz.func62, Tryz.ntmps62
  go_wp2
  refine wp_loop_rounds 3 ?_
  repeat any_goals (rw [rounds_succ]; go_wp2_with (go_at_call 76; rw [HS.out]; refine (grow_any _ _ (by have := HN.out; omega)).mono ?_; rintro e w1 ⟨v, rfl, ho, hb⟩; have O1 := Lib.hid ho; have B1 := Lib.hid hb; clear ho hb))
  obtain ⟨v2, w2, hrun2, o2, gr2, _⟩ := append_rw w1 29 w.heap.size v [] xs g1 c1 A1 O1.out (H1.out.below B1.out) B1.out.size (by simp; omega)
  have B2 := Lib.hid (B1.out.grown gr2 B1.out.size (fun g hg => (O1.out.at hg).1))
  have O2 := Lib.hid o2
  obtain ⟨v3, w3, hrun3, o3, gr3, _⟩ := append_rw w2 29 w.heap.size v2 ([] ++ xs) ys g2 c2 A2 O2.out (H2.out.below B2.out) B2.out.size (by simp; omega)
  have B3 := Lib.hid (B2.out.grown gr3 B2.out.size (fun g hg => (O2.out.at hg).1))
  have O3 := Lib.hid o3
  have f0 : w1.cell? ⟨b, 0, none⟩ = some (.slice A1 xs.length c1) := (B1.out.cell hlt).trans k0
  have f1 : w2.cell? ⟨b, 1, none⟩ = some (.slice A2 ys.length c2) := (B2.out.cell hlt).trans k1
  have R2 := Lib.hid hrun2
  have R3 := Lib.hid hrun3
  clear o2 o3 gr2 gr3 k0 k1 hrun2 hrun3
  refine wp_loop_rounds 3 ?_
  rw [rounds_succ]
  go_wp2_with (at_builtin; refine wpList_known rfl (.tmp 31) (.tmp 32) 29 rfl v _ v2 w2 rfl rfl R2.out ?_)
  rw [rounds_succ]
  go_wp2_with (at_builtin; refine wpList_known rfl (.tmp 31) (.tmp 32) 29 rfl v2 _ v3 w3 rfl rfl R3.out ?_)
  rw [rounds_succ]
  go_wp2
  go_returns
  exact ⟨v3, rfl, by have := O3.out; rwa [List.nil_append] at this, B3.out⟩

theorem rw_cap {w : World} {g c : Nat} {A : Option Addr} {xs : List Int} (h : Rw w g A c xs) : xs.length ≤ c ∧ c ≤ 9223372036854775807 := by
  rcases h with ⟨_, rfl, rfl⟩ | ⟨o, _, h⟩
  · simp
  · exact ⟨h.len, h.big⟩
theorem turn_items (us vs : List Int) : turnL us.length (us ++ vs) = us.reverse ++ vs := by
  unfold turnL
  rw [List.take_left, List.drop_left]
theorem new_block_drew (w : World) (cs : Array Value) (T : TypeId) : (w.alloc (.cells cs T)).drew.heap[w.heap.size]? = some (.cells cs T (0, 0)) := heap_alloc_new w _
/-- Two rows in one, behind a block more. -/
structure Joined (w w1 : World) (v : Value) (n : Nat) (xs : List Int) (g c : Nat) (A : Option Addr) : Prop where
  val : v = .slice A n c
  row : Rw w1 g A c xs
  new : A ≠ none → w.heap.size ≤ g
  below : Below w.heap.size w w1
theorem Joined.of {w w0 w1 : World} {v : Value} {xs : List Int} {n : Nat} (hn : xs.length = n) (h0 : Below w.heap.size w w0) (h : Own w1 w0.heap.size v xs) (hb : Below w0.heap.size w0 w1) : ∃ g c A, Joined w w1 v n xs g c A := by
  subst hn
  obtain ⟨A, c, g, rfl, h1, h2⟩ := h.rw
  exact ⟨g, c, A, rfl, h1, fun hA => Nat.le_trans h0.size (h2 hA), past h0 hb⟩

set_option maxRecDepth 100000 in
set_option maxHeartbeats 2000000 in
theorem items_any (w : World) (X : Nat) (s : Int) (t : Parts) (h : Two w X s t) (hl : t.items.length ≤ 1000) :
    Calls Tryz.prog 38 #[.pointer (some ⟨X, 0, none⟩)] w fun e w' => (∃ A c g, e = .returned (.slice A t.items.length c) ∧ Rw w' g A c t.items ∧ (A ≠ none → w.heap.size ≤ g)) ∧ Below w.heap.size w w' := by
  have c0 := h.c0
  have c1 := h.c1
  have hX := h.lt
  have H := Lib.hid h
  clear h
  obtain ⟨p, q, A, B, ca, cb, us, vs⟩ := t
  rw [Parts.items_len] at *
  simp only at *
  have HL := Lib.hid hl
  have hle : us.length ≤ us.length + vs.length := by omega
  clear hl
  have B0 : ∀ o : Obj, Below w.heap.size w (w.alloc o).drew := fun o => ((Below.refl _ _).alloc (Nat.le_refl _) o).drew
  have HB0 := Lib.hid B0
  clear B0
  go_enter Tryz.func38, Tryz.ntmps38
  go_wp2
  go_region_held3 (fun wx => wx.cell? ⟨X, 0, none⟩ = some (.slice A us.length ca) ∧ wx.cell? ⟨X, 1, none⟩ = some (.slice B vs.length cb)) (go_keep)
    ((go_at_call 62; refine (concat_any _ w.heap.size p q ca cb A B us vs _ (new_block_drew w _ _) (H.out.a.below (HB0.out _)) (H.out.b.below (HB0.out _)) HL.out).mono ?_; rintro e w1 ⟨v, rfl, ho, hb⟩; obtain ⟨g', c', A', hj⟩ := Joined.of (List.length_append ..) (HB0.out _) ho hb; obtain ⟨rfl, hr, hnew, hb1⟩ := hj; have R := Lib.hid hr; have N := Lib.hid hnew; have B1 := Lib.hid hb1; obtain ⟨d0, d1⟩ : w1.cell? ⟨X, 0, none⟩ = some (.slice A us.length ca) ∧ w1.cell? ⟨X, 1, none⟩ = some (.slice B vs.length cb) := ⟨(H.out.below hb1).c0, (H.out.below hb1).c1⟩; clear ho hb hr hnew hb1))
  have hcap : us.length ≤ c' := by have := (rw_cap R.out).1; simp at this; omega
  go_wp2_with (go_at_call 63; refine (reverse_any _ g' c' us.length A' (us ++ vs) R.out (by simp)).mono ?_; rintro e w2 ⟨rfl, hr2, hw2⟩; rw [turn_items] at hr2; have R2 := Lib.hid hr2; have W2 := Lib.hid hw2; clear hr2 hw2)
  all_goals
    go_returns
    refine ⟨⟨A', c', g', rfl, R2.out, N.out⟩, ?_⟩
    exact W2.out.below B1.out B1.out.size (fun b hb => by rw [hb.2]; exact N.out hb.1)
end Go.Proofs.YtmpilokgbblonaaGreat.spec
/- The state of items in a list: their text. Rows of one cell an element, that a call makes and fills. -/
namespace Go.Proofs.YtmpilokgbblonaaGreat.lin
open Go.RowKit
open hist (past new_block Went)
open spec (Rw Row)

/-- A block of one-cell elements. -/
structure Line1 (w : World) (B : Nat) (T : TypeId) (vs : List Value) : Prop where
  box : w.heap[B]? = some (.cells vs.toArray T (0, 0))
section
variable {w w' : World} {B : Nat} {T : TypeId} {vs : List Value}
theorem Line1.lt (h : Line1 w B T vs) : B < w.heap.size := (Array.getElem?_eq_some_iff.1 h.box).1
theorem Line1.moved (h : Line1 w B T vs) (hb : w'.heap[B]? = w.heap[B]?) : Line1 w' B T vs := ⟨hb.trans h.box⟩
theorem Line1.below (h : Line1 w B T vs) (hb : Below w.heap.size w w') : Line1 w' B T vs := h.moved (hb.block B h.lt)
theorem Line1.cell (h : Line1 w B T vs) (k : Nat) : w.cell? ⟨B, k, none⟩ = vs[k]? := by
  rw [Joins.cell_of_block h.box]
  simp
theorem Line1.free (h : Line1 w B T vs) (i : Nat) : w.frozen? ⟨B, i, none⟩ = false := Joins.unfrozen_of_block h.box i
theorem Line1.put (h : Line1 w B T vs) (k : Nat) (u : Value) : Line1 (w.setCell ⟨B, k, none⟩ u) B T (vs.set k u) := by
  refine ⟨?_⟩
  rw [Joins.block_setCell (i := k) h.box u]
  congr 3
  apply Array.ext'
  simp
theorem Line1.other (h : Line1 w B T vs) {B' : Nat} (hne : B' ≠ B) (k : Nat) (u : Value) : Line1 (w.setCell ⟨B', k, none⟩ u) B T vs :=
  h.moved (Below.heap_setCell _ _ _ _ (fun e => hne e.symm))
end
theorem make_one (w : World) (t e : TypeId) (i : TypeInfo) (z : Value) (bytes : Nat) (ht : Tryz.prog.underlying t = some (.slice e)) (hi : Tryz.prog.info? e = some i) (h0 : i.zero = some z) (h1 : i.size = 1) (h2 : i.bytes = bytes) (hb : bytes ≤ 64) (hz : z.cells = #[z]) (n : Nat) (hn : n ≤ 1000) :
    (Instr.makeSlice t (.int .i64 (n : Int)) (.int .i64 (n : Int))).run Tryz.prog w = .ok (.slice (some ⟨w.heap.size, 0, none⟩) n n) (w.alloc (.cells (List.replicate n z).toArray e)) := by
  have h := run_make (P := Tryz.prog) w t e i z ht hi h0 .i64 .i64 n n (by omega) (by omega) (by rw [h2]; have := Nat.mul_le_mul hb hn; omega) (by omega)
  rw [h1] at h
  simp only [Int.toNat_natCast, Nat.mul_one] at h
  have e1 : madeCells z.cells n = (List.replicate n z).toArray := by
    unfold madeCells
    apply Array.ext
    · simp
    · intro j hj1 hj2
      simp [hz, Nat.mod_one]
  rw [h, e1]
theorem Tryzinfo_i32 : (Tryz.prog.info? 21).map (fun i => (i.zero, i.size, i.bytes)) = some (some (.int .i32 0), 1, 4) := by kernel_rfl
theorem make_runes (w : World) (n : Nat) (hn : n ≤ 1000) : (Instr.makeSlice 132 (.int .i64 (n : Int)) (.int .i64 (n : Int))).run Tryz.prog w = .ok (.slice (some ⟨w.heap.size, 0, none⟩) n n) (w.alloc (.cells (List.replicate n (.int .i32 0)).toArray 21)) := by
  obtain ⟨i, hi, h0, h1, h2⟩ := info_parts Tryzinfo_i32
  exact make_one w _ _ i _ 4 Tryz.underlying132 hi h0 h1 h2 (by omega) rfl n hn
/-- The first k runes, and zeros behind them. -/
def textTo (xs : List Int) (k : Nat) : List Value := (xs.take k).map (Value.int .i32) ++ List.replicate (xs.length - k) (.int .i32 0)
theorem text_len {xs : List Int} {k : Nat} (h : k ≤ xs.length) : (textTo xs k).length = xs.length := by unfold textTo; simp; omega
theorem text_nil (xs : List Int) : textTo xs 0 = List.replicate xs.length (.int .i32 0) := by unfold textTo; simp
theorem text_succ {xs : List Int} {k : Nat} (h : k < xs.length) : (textTo xs k).set k (.int .i32 (xs.getD k 0)) = textTo xs (k + 1) := by
  unfold textTo
  have e : xs.length - k = (xs.length - (k + 1)) + 1 := by omega
  rw [List.set_append_right _ _ (by simp; omega), e, List.replicate_succ, List.take_succ_eq_append_getElem h, List.map_append]
  rw [List.length_map, List.length_take, Nat.min_eq_left (by omega), Nat.sub_self, List.set_cons_zero, List.append_assoc, List.getD_eq_getElem?_getD, List.getElem?_eq_getElem h]
  rfl
theorem text_all (xs : List Int) : textTo xs xs.length = xs.map (Value.int .i32) := by unfold textTo; simp

set_option maxHeartbeats 2000000 in
theorem stateOf_row (w : World) (g : Nat) (G o c : Nat) (xs : List Int) (hr : Row w G o c xs) (n : Nat) (hn : xs.length = n) (hl : n ≤ 1000) (hx : ∀ x ∈ xs, keyR x) :
    Calls Tryz.prog 52 #[.int .u32 (g : Int), .slice (some ⟨G, o, none⟩) n c] w fun e w' => e = .returned (stA g xs) ∧ Below w.heap.size w w' := by
  have HR := Lib.hid hr
  have HX := Lib.hid hx
  have HN := Lib.hid hn
  have hmk : ∀ w : World, (Instr.makeSlice 132 (.int .i64 (n : Int)) (.int .i64 (n : Int))).run Tryz.prog w = .ok (.slice (some ⟨w.heap.size, 0, none⟩) n n) (w.alloc (.cells (List.replicate n (.int .i32 0)).toArray 21)) := fun w => make_runes w n hl
  have hl0 : (n : Int) ≤ 1000 := by omega
  have hlt0 := hr.lt
  clear hr hx hn
  go_enter Tryz.func52, Tryz.ntmps52
  go_wp2
  go_loopw [13] (fun i wr => ∃ k : Nat, k ≤ n ∧ i = .int .i64 (k : Int) ∧ Below w.heap.size w wr ∧ Line1 wr w.heap.size 116 [.int .u32 0, .string ⟨#[]⟩] ∧ Line1 wr (w.heap.size + 1) 21 (textTo xs k)) (fun i _ => n - (intOf i).toNat)
  case atStart =>
    refine ⟨0, Nat.zero_le _, rfl, ((Below.refl _ _).alloc (Nat.le_refl _) _).alloc (by simp) _, (⟨new_block _ _ _⟩ : Line1 _ _ _ _).below ((Below.refl _ _).alloc (Nat.le_refl _) _), ⟨?_⟩⟩
    rw [text_nil, HN.out]
    have := new_block (w.alloc (.cells #[.int .u32 0, .string ⟨#[]⟩] 116)) (List.replicate n (.int .i32 0)).toArray 21
    simpa using this
  case round =>
    obtain ⟨k, hk, rfl, hb, h0, h1⟩ := hrel
    have HB := Lib.hid hb
    have H0 := Lib.hid h0
    have H1 := Lib.hid h1
    have t0 : wr.cell? ⟨w.heap.size, 0, none⟩ = some (.int .u32 0) := h0.cell 0
    have t1 : wr.cell? ⟨w.heap.size, 1, none⟩ = some (.string ⟨#[]⟩) := h0.cell 1
    have f0 := h0.free
    have f1 := h1.free
    clear h0 h1 hb
    by_cases hlt : k < n
    · have c0 := (HR.out.moved (HB.out.block G hlt0)).cell (j := k) (by rw [HN.out]; exact hlt)
      obtain ⟨x, hxk⟩ : ∃ x, x = xs.getD k 0 := ⟨_, rfl⟩
      have hx := HX.out x (by rw [hxk, List.getD_eq_getElem?_getD, List.getElem?_eq_getElem (by rw [HN.out]; exact hlt)]; exact List.getElem_mem _)
      have HXK := Lib.hid hxk
      rw [← hxk] at c0
      have hw : IntKind.i32.wrap x = x := by
        obtain ⟨x0, x1⟩ := hx
        simp [IntKind.wrap, IntKind.bits, IntKind.signed]
        omega
      obtain ⟨u, hc⟩ : ∃ u, wr.cell? ⟨w.heap.size + 1, k, none⟩ = some u := by
        rw [H1.out.cell, List.getElem?_eq_getElem (by rw [text_len (by rw [HN.out]; omega), HN.out]; exact hlt)]
        exact ⟨_, rfl⟩
      clear hxk hx
      go_wp2
      go_roundw
      case rel => exact ⟨k + 1, by omega, by go_num, HB.out.setCell (p := ⟨w.heap.size + 1, k, none⟩) (by show w.heap.size ≤ w.heap.size + 1; omega) _, H0.out.other (by omega) _ _, by
        rw [← text_succ (by rw [HN.out]; exact hlt), ← HXK.out]
        exact H1.out.put _ _⟩
      case measure => simp [intOf]; omega
    · have hkn : k = n := by omega
      have hnk : ¬ ((k : Int) < n) := by omega
      have hcv : (convert 132 9 (.slice (some ⟨w.heap.size + 1, 0, none⟩) n n)).run Tryz.prog wr = .ok (.string (runesBytes xs)) wr := by
        have := run_convert_runes (P := Tryz.prog) wr 132 9 21 ⟨w.heap.size + 1, 0, none⟩ n n xs (by rw [HN.out]; omega) Tryz.underlying132 Tryz.underlying21 Tryz.underlying9 (fun j hj => by
          rw [Addr.add_lit, Nat.zero_add, H1.out.cell, hkn, ← HN.out, text_all, List.getElem?_map, List.getElem?_eq_getElem hj, List.getD_eq_getElem?_getD, List.getElem?_eq_getElem hj]
          rfl)
        rw [this, ← HN.out, List.take_length]
      have L1 := H0.out.put 0 (.int .u32 (g : Int))
      have L2 := L1.put 1 (.string (runesBytes xs))
      have a1 : ((wr.setCell ⟨w.heap.size, 0, none⟩ (.int .u32 (g : Int))).setCell ⟨w.heap.size, 1, none⟩ (.string (runesBytes xs))).cell? ⟨w.heap.size, 0, none⟩ = some (.int .u32 (g : Int)) := L2.cell 0
      have a2 : ((wr.setCell ⟨w.heap.size, 0, none⟩ (.int .u32 (g : Int))).setCell ⟨w.heap.size, 1, none⟩ (.string (runesBytes xs))).cell? ⟨w.heap.size, 1, none⟩ = some (.string (runesBytes xs)) := L2.cell 1
      clear hkn L1 L2
      go_wp2
      refine bodyPost_ret (v := stA g xs) (by simp [results, Tryz.results52, go_sem, a1, a2, stA]) rfl ⟨rfl, (HB.out.setCell (p := ⟨w.heap.size, 0, none⟩) (Nat.le_refl _) _).setCell (p := ⟨w.heap.size, 1, none⟩) (Nat.le_refl _) _⟩
theorem stateOf_nil (w : World) (g : Nat) :
    Calls Tryz.prog 52 #[.int .u32 (g : Int), .slice none 0 0] w fun e w' => e = .returned (stA g []) ∧ Below w.heap.size w w' := by
  have hmk : ∀ w : World, (Instr.makeSlice 132 (.int .i64 0) (.int .i64 0)).run Tryz.prog w = .ok (.slice (some ⟨w.heap.size, 0, none⟩) 0 0) (w.alloc (.cells #[] 21)) := fun w => make_runes w 0 (by omega)
  have hcv : ∀ (w : World) (B : Nat), (convert 132 9 (.slice (some ⟨B, 0, none⟩) 0 0)).run Tryz.prog w = .ok (.string (runesBytes [])) w := fun w B =>
    run_convert_runes (P := Tryz.prog) w 132 9 21 ⟨B, 0, none⟩ 0 0 [] (Nat.le_refl _) Tryz.underlying132 Tryz.underlying21 Tryz.underlying9 (fun j hj => absurd hj (by simp))
  go_enter Tryz.func52, Tryz.ntmps52
  go_wp2
  go_rounds 1
  go_returns
  exact ⟨rfl, by go_grown⟩
theorem stateOf_any (w : World) (g G c : Nat) (A : Option Addr) (xs : List Int) (hr : Rw w G A c xs) (n : Nat) (hn : xs.length = n) (hl : n ≤ 1000) (hx : ∀ x ∈ xs, keyR x) :
    Calls Tryz.prog 52 #[.int .u32 (g : Int), .slice A n c] w fun e w' => e = .returned (stA g xs) ∧ Below w.heap.size w w' := by
  rcases hr with ⟨rfl, rfl, rfl⟩ | ⟨o, rfl, hr⟩
  · obtain rfl : n = 0 := by simpa using hn.symm
    exact stateOf_nil w g
  · exact stateOf_row w g G o c xs hr n hn hl hx
end Go.Proofs.YtmpilokgbblonaaGreat.lin
/- Histories whose calls don't overlap, event by event; histories of operations that are done one by one, each at its moment. By lists alone. -/
namespace Go.Proofs.YtmpilokgbblonaaGreat.lin
open hist (ClV EvV befB callsE pendE errE ValidE calls_begin calls_end pend_snoc valid_snoc valid_nil close_no closeC)
open spec (OpV nextL okB valI okR valR stateL allRight)
open task (rightB)

/-! One behind the other. -/
def beginE (v : EvV) : EvV := ⟨v.T, false, v.K, v.Y, 0, false, 0⟩
def endE (v : EvV) : EvV := ⟨v.T, true, 0, 0, v.C, v.O, v.V⟩
/-- Each is begun, and ended, before the next one is begun. -/
def altE (l : List EvV) : List EvV := l.flatMap fun v => [beginE v, endE v]
def altC (l : List EvV) : List ClV := l.mapIdx fun i v => ⟨v.T, 2 * (i : Int), 2 * (i : Int) + 1, v.K, v.Y, v.C, v.O, v.V⟩
theorem alt_snoc (l : List EvV) (v : EvV) : altE (l ++ [v]) = altE l ++ [beginE v] ++ [endE v] := by simp [altE]
theorem alt_len (l : List EvV) : (altE l).length = 2 * l.length := by
  induction l with
  | nil => rfl
  | cons v l ih =>
    have e : altE (v :: l) = beginE v :: endE v :: altE l := rfl
    rw [e, List.length_cons, List.length_cons, ih, List.length_cons]
    omega
theorem altC_len (l : List EvV) : (altC l).length = l.length := by simp [altC]
theorem altC_get {l : List EvV} {i : Nat} (hi : i < (altC l).length) : (altC l)[i] = ⟨(l[i]'(by rw [altC_len] at hi; exact hi)).T, 2 * (i : Int), 2 * (i : Int) + 1, (l[i]'(by rw [altC_len] at hi; exact hi)).K, (l[i]'(by rw [altC_len] at hi; exact hi)).Y, (l[i]'(by rw [altC_len] at hi; exact hi)).C, (l[i]'(by rw [altC_len] at hi; exact hi)).O, (l[i]'(by rw [altC_len] at hi; exact hi)).V⟩ := by
  simp [altC]
theorem alt_all (l : List EvV) : (∀ v ∈ l, 0 ≤ v.T ∧ v.T ≤ 7) → ValidE (altE l) ∧ (∀ t, pendE (altE l) t = false) ∧ callsE (altE l) = altC l := by
  induction l using hist.snocInd with
  | nil => exact fun _ => ⟨valid_nil, fun _ => rfl, rfl⟩
  | append_singleton l v ih =>
    intro h
    obtain ⟨h1, h2, h3⟩ := ih fun u hu => h u (List.mem_append_left _ hu)
    have hv := h v (List.mem_append_right _ (List.mem_singleton.2 rfl))
    have e1 : errE (altE l) (beginE v) = 0 := by
      unfold errE
      rw [if_neg (by show ¬ (v.T < 0 ∨ 7 < v.T); omega), h2]
      rfl
    have p1 : pendE (altE l ++ [beginE v]) v.T = true := by
      rw [pend_snoc]
      exact if_pos rfl
    have p2 : pendE (altE l ++ [beginE v]) (endE v).T = true := p1
    have e2 : errE (altE l ++ [beginE v]) (endE v) = 0 := by
      unfold errE
      rw [if_neg (by show ¬ (v.T < 0 ∨ 7 < v.T); omega), p2]
      rfl
    rw [alt_snoc]
    refine ⟨valid_snoc.2 ⟨valid_snoc.2 ⟨h1, e1⟩, e2⟩, fun t => ?_, ?_⟩
    · rw [pend_snoc, pend_snoc, h2]
      show (if v.T = t then false else if v.T = t then true else false) = false
      by_cases ht : v.T = t
      · rw [if_pos ht]
      · rw [if_neg ht, if_neg ht]
    · rw [calls_end rfl, calls_begin e1 rfl, h3, List.map_append, List.map_cons, List.map_nil]
      have hold : (altC l).map (closeC (endE v) (altE l ++ [beginE v]).length) = altC l := by
        conv => rhs; rw [← List.map_id (altC l)]
        refine List.map_congr_left fun c hc => close_no fun hh => ?_
        obtain ⟨i, hi, rfl⟩ := List.getElem_of_mem hc
        rw [altC_get hi] at hh
        have := hh.1
        simp only at this
        omega
      rw [hold]
      unfold altC
      rw [List.mapIdx_concat]
      congr 1
      rw [hist.close_yes ⟨by show (-1 : Int) < 0; omega, rfl⟩, List.length_append, alt_len]
      simp [beginE, endE]
/-- The operations of those told OK, of the first k. -/
def didL (l : List EvV) (k : Nat) : List OpV := ((l.take k).filter fun v => decide (v.C = 0)).map fun v => ⟨v.K, v.Y⟩
theorem didL_succ {l : List EvV} {k : Nat} (hk : k < l.length) : didL l (k + 1) = didL l k ++ if l[k].C = 0 then [⟨l[k].K, l[k].Y⟩] else [] := by
  unfold didL
  rw [List.take_succ_eq_append_getElem hk, List.filter_append, List.map_append]
  congr 1
  by_cases h : l[k].C = 0
  · simp [h]
  · simp [h]
theorem did_ops (l : List EvV) : ∀ k, k ≤ l.length → opsL (altC l) (idsOK (altC l) k) = didL l k
  | 0, _ => by simp [idsOK, opsL, didL]
  | k + 1, h => by
    have hk : k < (altC l).length := by rw [altC_len]; omega
    have hkl : k < l.length := by omega
    have eC : (altC l)[k].C = l[k].C := by rw [altC_get hk]
    rw [idsOK_succ hk, didL_succ hkl, eC]
    by_cases hc : l[k].C = 0
    · rw [if_pos hc, if_pos hc, ops_snoc hk, did_ops l k (by omega), altC_get hk]
    · rw [if_neg hc, if_neg hc, List.append_nil, List.append_nil, did_ops l k (by omega)]
theorem alt_line {s : Int} {l : List EvV} (hr : ∀ v ∈ l, rightB s v.K v.Y = true) : Line s (altC l) := by
  refine ⟨fun i h => ?_, fun i h => ?_, fun i j hi hj => ?_⟩
  · rw [altC_get h]
    simp only
    omega
  · rw [altC_get h]
    exact hr _ (List.getElem_mem _)
  · rw [altC_get hi, altC_get hj]
    unfold befB
    rw [Bool.eq_iff_iff, decide_eq_true_eq, decide_eq_true_eq]
    simp only
    omega
/-- Told as the document has it, of the first k. -/
def rightTo (s : Int) (l : List EvV) (k : Nat) : Prop := ∀ i (h : i < l.length), i < k → l[i].C = 0 → l[i].O = okR s (didL l i) l[i].K l[i].Y ∧ l[i].V = valR s (didL l i) l[i].K
theorem did_right {s : Int} {l : List EvV} (hr : ∀ v ∈ l, rightB s v.K v.Y = true) (k : Nat) : allRight s (didL l k) := by
  intro o ho
  obtain ⟨v, hv, rfl⟩ := List.mem_map.1 ho
  exact hr v (List.mem_of_mem_take (List.mem_filter.1 hv).1)
theorem alt_told {s : Int} {l : List EvV} (hr : ∀ v ∈ l, rightB s v.K v.Y = true) (k : Nat) : toldTo s (altC l) k ↔ rightTo s l k := by
  have key : ∀ i (h : i < l.length), toldC (stateL s (opsL (altC l) (idsOK (altC l) i))) ((altC l)[i]'(by rw [altC_len]; exact h)) = true ↔ (l[i].C = 0 ∧ l[i].O = okR s (didL l i) l[i].K l[i].Y ∧ l[i].V = valR s (didL l i) l[i].K) := by
    intro i h
    rw [did_ops l i (by omega)]
    have hi : i < (altC l).length := by rw [altC_len]; exact h
    rw [altC_get hi, told_same (did_right hr i) (hr _ (List.getElem_mem h))]
    unfold toldR
    have hd : ¬ (2 * (i : Int) + 1 < 0) := by omega
    simp [hd, and_assoc]
  constructor
  · intro h i hi hik hc
    have hi' : i < (altC l).length := by rw [altC_len]; exact hi
    exact ((key i hi).1 (h i hi' hik (by rw [altC_get hi']; exact hc))).2
  · intro h i hi hik hc
    have hi' : i < l.length := by rw [altC_len] at hi; exact hi
    rw [altC_get hi] at hc
    exact (key i hi').2 ⟨hc, h i hi' hik hc⟩
/-- A history in which no two overlap is linear just if each that was told OK was told what the meaning tells. -/
theorem alt_some {s : Int} {l : List EvV} (hr : ∀ v ∈ l, rightB s v.K v.Y = true) : (∃ r, (sysOf s (altC l)).Legal r) ↔ rightTo s l l.length := by
  rw [line_some (alt_line hr), altC_len, alt_told hr _]
end Go.Proofs.YtmpilokgbblonaaGreat.lin
