/- Two rows, one behind the other, in a new one; a meaning's items. -/
import Derived.Test.YtehjlmolnmiopaaSpMove
import Derived.Deep.AppendSrc
import Derived.Maps.AppendAt
import Derived.Laws.AppendOwnNone
import Derived.Deep.RegionHeld3
import Derived.Handy
namespace Go.Proofs.Ytehjlmolnmiopaa.spec
open Go.RowKit task

theorem Tryinfo_int : (Try.prog.info? 3).map (fun i => (i.zero, i.size, i.bytes)) = some (some (.int .i64 0), 1, 8) := by kernel_rfl

/-- Numbers of the call's own, in a row from its head on, or nil. -/
def Own (w : World) (lo : Nat) (v : Value) (xs : List Int) : Prop := w.ownsRow lo 3 1 v xs.length (xs.map (Value.int .i64))
theorem Own.nil (w : World) (lo : Nat) : Own w lo (.slice none 0 0) [] := World.ownsRow_nil _ _ _ _
theorem Own.moved {w w' : World} {lo : Nat} {v : Value} {xs : List Int} (h : Own w lo v xs) (hb : ∀ g, v.ownBlock = some g → w'.heap[g]? = w.heap[g]?) : Own w' lo v xs := by
  obtain ⟨hl, ⟨rfl, h0⟩ | ⟨g, cap, cur, rfl, hge, hg, hn, hc, hs, ht⟩⟩ := h
  · exact ⟨hl, Or.inl ⟨rfl, h0⟩⟩
  · exact ⟨hl, Or.inr ⟨g, cap, cur, rfl, hge, (hb g rfl).trans hg, hn, hc, hs, ht⟩⟩
theorem Own.at {w : World} {lo : Nat} {v : Value} {xs : List Int} (h : Own w lo v xs) {g : Nat} (hg : v.ownBlock = some g) : lo ≤ g ∧ g < w.heap.size := World.ownsRow.lt h g hg
theorem Own.below {w w' : World} {lo : Nat} {v : Value} {xs : List Int} (h : Own w lo v xs) (hb : Below w.heap.size w w') : Own w' lo v xs := h.moved fun g hg => hb.block g (h.at hg).2
theorem Own.rw {w : World} {lo : Nat} {v : Value} {xs : List Int} (h : Own w lo v xs) : ∃ A c g, v = .slice A xs.length c ∧ Rw w g A c xs ∧ (A ≠ none → lo ≤ g) := by
  obtain ⟨A, c, g, h1, h2, h3, _⟩ := Rw.ofOwns h
  exact ⟨A, c, g, h1, h2, h3⟩
/-- A slice of numbers, nil or not, appended to one's own: how it runs. -/
theorem append_rw (w : World) (ty : TypeId) (lo : Nat) (v : Value) (xs ys : List Int) (g c : Nat) (A : Option Addr) (h : Own w lo v xs) (hr : Rw w g A c ys) (hlo : lo ≤ w.heap.size) (hn : xs.length + ys.length ≤ 100000) :
    ∃ v' w', (Builtin.append_ #[29, 29] ty #[v, .slice A ys.length c]).run Try.prog w = .ok v' w' ∧ Own w' lo v' (xs ++ ys) ∧ w.grownBy w' v.ownBlock ∧ (v'.ownBlock = v.ownBlock ∨ v'.ownBlock = some w.heap.size) := by
  obtain ⟨i0, hi, hz0, hz1, hz2⟩ := info_parts Tryinfo_int
  rcases hr with ⟨rfl, rfl, rfl⟩ | ⟨o, rfl, hr⟩
  · have hrun := run_append_owned_none (P := Try.prog) (w := w) lo 29 ty 3 i0 1 Try.underlying29 hi v xs.length (xs.map (Value.int .i64)) h
    refine ⟨v, w, hrun, by rw [List.append_nil]; exact h, ⟨rfl, rfl, rfl, Nat.le_refl _, fun _ _ _ => rfl⟩, Or.inl rfl⟩
  · obtain ⟨v', w', h1, h2, h3, _, h4⟩ := run_append_own_at (P := Try.prog) w lo 29 ty 3 i0 (.int .i64 0) 1 8 Try.underlying29 hi hz0 hz1 hz2 rfl (by decide) v xs.length (xs.map (Value.int .i64)) h
      ⟨g, o, none⟩ ys.length c (ys.map (Value.int .i64)) (by simp) (fun j u hj => by rw [Addr.add_lit]; exact hr.vals j u hj) (one_vals ys) (by unfold maxLen; omega) (by omega) hlo
    refine ⟨v', w', h1, ?_, h3, h4⟩
    unfold Own
    rw [List.map_append, List.length_append]
    exact h2
theorem wpList_known {P : Program} {w : World} {ops : Array Oper} {rest : List Oper} {o : Oper} {a : Act} {Q : Exit → Act → World → Prop} (hgd : o.guard = none) (s x : Operand) (t : TypeId)
    (ho : o.op = .call { callee := .builtin .append, args := #[s, x], argTypes := #[t, t] }) (v u v' : Value) (w' : World) (hs : a.eval s = v) (hx : a.eval x = u)
    (hrun : (Builtin.append_ #[t, t] o.type #[v, u]).run P w = .ok v' w') (h : wpList P ops Q rest (a.put o.dst v') w') : wpList P ops Q (o :: rest) a w := by
  refine wpList_plain hgd fun K hK => ?_
  unfold Oper.wp
  simp [execOp, ho, resolve, invoke, builtin, hs, hx, hrun, Result.andThen]
  exact hK _ _ h

/-- Room made for n numbers. -/
theorem grow_any (w : World) (n : Nat) (hn : n ≤ 100000) :
    Calls Try.prog 44 #[.slice none 0 0, .int .i64 (n : Int)] w fun e w' => ∃ v, e = .returned v ∧ Own w' w.heap.size v [] ∧ Below w.heap.size w w' := by
  by_cases h0 : n = 0
  · subst h0
    refine (Any8.slices_Grow_room Try.laysGrow none 0 0 0 w (by omega) (by omega) (by omega) (by omega)).mono ?_
    rintro e w' ⟨rfl, rfl⟩
    exact ⟨_, rfl, Own.nil _ _, Below.refl _ _⟩
  · obtain ⟨i0, hi, hz0, hz1, hz2⟩ := info_parts Tryinfo_int
    refine (Any8.slices_Grow_grow Try.laysGrow i0 (.int .i64 0) hi hz0 (by omega) none 0 0 n [] w (by omega) (by omega) (by rw [hz2]; omega) (by omega) (by simp) (fun _ => rfl) (fun a ha => by cases ha)).mono ?_
    intro e w' hp
    simp only [show Try.laysGrow_ren.t 25 = 3 from rfl, Nat.zero_add] at hp
    obtain ⟨rfl, rfl⟩ := hp
    have hge := grownCap_ge w n 0 3
    have hcm := grownCap_le_maxLen w n 0 3 (by unfold maxLen; omega)
    refine ⟨_, rfl, World.ownsRow_made w.drew _ _ (Nat.le_refl _) hcm ?_, ((Below.refl _ _).drew).alloc (Nat.le_refl _) _⟩
    simp [size_zeroCells, Value.cells]
    omega

set_option maxRecDepth 100000 in
set_option maxHeartbeats 2000000 in
theorem concat_any (w : World) (b g1 g2 c1 c2 : Nat) (A1 A2 : Option Addr) (xs ys : List Int) (T : TypeId) (hb : w.heap[b]? = some (.cells #[.slice A1 xs.length c1, .slice A2 ys.length c2] T (0, 0))) (h1 : Rw w g1 A1 c1 xs) (h2 : Rw w g2 A2 c2 ys) (hn : xs.length + ys.length ≤ 1000) :
    Calls Try.prog 31 #[.slice (some ⟨b, 0, none⟩) 2 2] w fun e w' => ∃ v, e = .returned v ∧ Own w' w.heap.size v (xs ++ ys) ∧ Below w.heap.size w w' := by
  have H1 := Lib.hid h1
  have H2 := Lib.hid h2
  have k0 : w.cell? ⟨b, 0, none⟩ = some (.slice A1 xs.length c1) := by rw [Joins.cell_of_block hb]; rfl
  have k1 : w.cell? ⟨b, 1, none⟩ = some (.slice A2 ys.length c2) := by rw [Joins.cell_of_block hb]; rfl
  have hlt : b < w.heap.size := (Array.getElem?_eq_some_iff.1 hb).1
  clear h1 h2 hb
  have hx0 : (xs.length : Int) ≤ 1000 := by omega
  have hy0 : (xs.length : Int) + (ys.length : Int) ≤ 1000 := by omega
  have HS : Hid ((xs.length : Int) + (ys.length : Int) = ((xs.length + ys.length : Nat) : Int)) := by show _ = _; omega
  have HN := Lib.hid hn
  clear hn
  go_enter Try.func31, Try.ntmps31
  go_wp2
  refine wp_loop_rounds 3 ?_
  repeat any_goals (rw [rounds_succ]; go_wp2_with (go_at_call 44; rw [HS.out]; refine (grow_any _ _ (by have := HN.out; omega)).mono ?_; rintro e w1 ⟨v, rfl, ho, hb⟩; have O1 := Lib.hid ho; have B1 := Lib.hid hb; clear ho hb))
  obtain ⟨v2, w2, hrun2, o2, gr2, _⟩ := append_rw w1 29 w.heap.size v [] xs g1 c1 A1 O1.out (H1.out.below B1.out) B1.out.size (by simp; omega)
  have B2 := Lib.hid (B1.out.grown gr2 B1.out.size (fun g hg => (O1.out.at hg).1))
  have O2 := Lib.hid o2
  obtain ⟨v3, w3, hrun3, o3, gr3, _⟩ := append_rw w2 29 w.heap.size v2 ([] ++ xs) ys g2 c2 A2 O2.out (H2.out.below B2.out) B2.out.size (by simp; omega)
  have B3 := Lib.hid (B2.out.grown gr3 B2.out.size (fun g hg => (O2.out.at hg).1))
  have O3 := Lib.hid o3
  have f0 : w1.cell? ⟨b, 0, none⟩ = some (.slice A1 xs.length c1) := (B1.out.cell hlt).trans k0
  have f1 : w2.cell? ⟨b, 1, none⟩ = some (.slice A2 ys.length c2) := (B2.out.cell hlt).trans k1
  have R2 := Lib.hid hrun2
  have R3 := Lib.hid hrun3
  clear o2 o3 gr2 gr3 k0 k1 hrun2 hrun3
  refine wp_loop_rounds 3 ?_
  rw [rounds_succ]
  go_wp2_with (at_builtin; refine wpList_known rfl (.tmp 31) (.tmp 32) 29 rfl v _ v2 w2 rfl rfl R2.out ?_)
  rw [rounds_succ]
  go_wp2_with (at_builtin; refine wpList_known rfl (.tmp 31) (.tmp 32) 29 rfl v2 _ v3 w3 rfl rfl R3.out ?_)
  rw [rounds_succ]
  go_wp2
  go_returns
  exact ⟨v3, rfl, by have := O3.out; rwa [List.nil_append] at this, B3.out⟩

theorem rw_cap {w : World} {g c : Nat} {A : Option Addr} {xs : List Int} (h : Rw w g A c xs) : xs.length ≤ c ∧ c ≤ 9223372036854775807 := by
  rcases h with ⟨_, rfl, rfl⟩ | ⟨o, _, h⟩
  · simp
  · exact ⟨h.len, h.big⟩
theorem turn_items (us vs : List Int) : turnL us.length (us ++ vs) = us.reverse ++ vs := by
  unfold turnL
  rw [List.take_left, List.drop_left]
theorem new_block_drew (w : World) (cs : Array Value) (T : TypeId) : (w.alloc (.cells cs T)).drew.heap[w.heap.size]? = some (.cells cs T (0, 0)) := heap_alloc_new w _
/-- Two rows in one, behind a block more. -/
structure Joined (w w1 : World) (v : Value) (n : Nat) (xs : List Int) (g c : Nat) (A : Option Addr) : Prop where
  val : v = .slice A n c
  row : Rw w1 g A c xs
  new : A ≠ none → w.heap.size ≤ g
  below : Below w.heap.size w w1
theorem Joined.of {w w0 w1 : World} {v : Value} {xs : List Int} {n : Nat} (hn : xs.length = n) (h0 : Below w.heap.size w w0) (h : Own w1 w0.heap.size v xs) (hb : Below w0.heap.size w0 w1) : ∃ g c A, Joined w w1 v n xs g c A := by
  subst hn
  obtain ⟨A, c, g, rfl, h1, h2⟩ := h.rw
  exact ⟨g, c, A, rfl, h1, fun hA => Nat.le_trans h0.size (h2 hA), past h0 hb⟩

set_option maxRecDepth 100000 in
set_option maxHeartbeats 2000000 in
theorem items_any (w : World) (X : Nat) (s : Int) (t : Parts) (h : Two w X s t) (hl : t.items.length ≤ 1000) :
    Calls Try.prog 15 #[.pointer (some ⟨X, 0, none⟩)] w fun e w' => (∃ A c g, e = .returned (.slice A t.items.length c) ∧ Rw w' g A c t.items ∧ (A ≠ none → w.heap.size ≤ g)) ∧ Below w.heap.size w w' := by
  have c0 := h.c0
  have c1 := h.c1
  have hX := h.lt
  have H := Lib.hid h
  clear h
  obtain ⟨p, q, A, B, ca, cb, us, vs⟩ := t
  rw [Parts.items_len] at *
  simp only at *
  have HL := Lib.hid hl
  have hle : us.length ≤ us.length + vs.length := by omega
  clear hl
  have B0 : ∀ o : Obj, Below w.heap.size w (w.alloc o).drew := fun o => ((Below.refl _ _).alloc (Nat.le_refl _) o).drew
  have HB0 := Lib.hid B0
  clear B0
  go_enter Try.func15, Try.ntmps15
  go_wp2
  go_region_held3 (fun wx => wx.cell? ⟨X, 0, none⟩ = some (.slice A us.length ca) ∧ wx.cell? ⟨X, 1, none⟩ = some (.slice B vs.length cb)) (go_keep)
    ((go_at_call 31; refine (concat_any _ w.heap.size p q ca cb A B us vs _ (new_block_drew w _ _) (H.out.a.below (HB0.out _)) (H.out.b.below (HB0.out _)) HL.out).mono ?_; rintro e w1 ⟨v, rfl, ho, hb⟩; obtain ⟨g', c', A', hj⟩ := Joined.of (List.length_append ..) (HB0.out _) ho hb; obtain ⟨rfl, hr, hnew, hb1⟩ := hj; have R := Lib.hid hr; have N := Lib.hid hnew; have B1 := Lib.hid hb1; obtain ⟨d0, d1⟩ : w1.cell? ⟨X, 0, none⟩ = some (.slice A us.length ca) ∧ w1.cell? ⟨X, 1, none⟩ = some (.slice B vs.length cb) := ⟨(H.out.below hb1).c0, (H.out.below hb1).c1⟩; clear ho hb hr hnew hb1))
  have hcap : us.length ≤ c' := by have := (rw_cap R.out).1; simp at this; omega
  go_wp2_with (go_at_call 32; refine (reverse_any _ g' c' us.length A' (us ++ vs) R.out (by simp)).mono ?_; rintro e w2 ⟨rfl, hr2, hw2⟩; rw [turn_items] at hr2; have R2 := Lib.hid hr2; have W2 := Lib.hid hw2; clear hr2 hw2)
  all_goals
    go_returns
    refine ⟨⟨A', c', g', rfl, R2.out, N.out⟩, ?_⟩
    exact W2.out.below B1.out B1.out.size (fun b hb => by rw [hb.2]; exact N.out hb.1)
end Go.Proofs.Ytehjlmolnmiopaa.spec
