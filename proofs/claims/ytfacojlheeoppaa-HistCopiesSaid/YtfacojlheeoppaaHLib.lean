/- A history's other methods: what is told of it, copies; one call before another one. -/
import Derived.Test.YtfacojlheeoppaaHRow
import Derived.Test.YtfacojlheeoppaaHPure2
import Derived.BigQuiet
import Derived.Deep.RegionHeld3
import Derived.Lib.SliceRun
namespace Go.Proofs.Ytfacojlheeoppaa.hist
open Go.RowKit

theorem spanPend_any (w : World) (B D : Int) :
    Calls Try.prog 23 #[.agg #[.int .i64 B, .int .i64 D]] w fun e w' => e = .returned (.bool (decide (D < 0))) ∧ Below w.heap.size w w' := by
  go_enter Try.func23, Try.ntmps23
  go_wp2
  go_returns
  exact ⟨rfl, by go_grown⟩
theorem before_any (w : World) (B D B' D' : Int) :
    Calls Try.prog 22 #[.agg #[.int .i64 B, .int .i64 D], .agg #[.int .i64 B', .int .i64 D']] w fun e w' => e = .returned (.bool (befB D B')) ∧ Below w.heap.size w w' := by
  by_cases hd : D < 0
  · have e : befB D B' = false := decide_eq_false (by omega)
    rw [e]
    have hdd : decide (D < 0) = true := decide_eq_true hd
    clear e
    go_enter Try.func22, Try.ntmps22
    go_wp2_with (go_at_call 23; refine (spanPend_any _ B D).mono ?_; rintro e w1 ⟨rfl, hb⟩; have B1 := Lib.hid hb; clear hb; rw [hdd])
    go_returns
    exact ⟨rfl, past (by go_grown) B1.out⟩
  · have e : befB D B' = decide (D < B') := by unfold befB; rw [Bool.eq_iff_iff, decide_eq_true_eq, decide_eq_true_eq]; omega
    rw [e]
    have hdd : decide (D < 0) = false := decide_eq_false hd
    clear e
    go_enter Try.func22, Try.ntmps22
    go_wp2_with (go_at_call 23; refine (spanPend_any _ B D).mono ?_; rintro e w1 ⟨rfl, hb⟩; have B1 := Lib.hid hb; have q0 := hb.cell (p := ⟨w.heap.size, 1, none⟩) (by simp; omega); have q1 := hb.cell (p := ⟨w.heap.size + 1, 0, none⟩) (by simp); simp at q0 q1; clear hb; rw [hdd])
    go_returns
    exact ⟨rfl, past (by go_grown) B1.out⟩
/-- A call of the document's as an argument. -/
def clV (c : ClV) : Value := .agg #[.int .i64 c.T, .int .i64 c.B, .int .i64 c.D, .int .i64 c.K, .int .i64 c.Y, .int .i64 c.C, .bool c.O, .int .i64 c.V]
theorem refBefore_any (w : World) (c d : ClV) :
    Calls Try.prog 28 #[clV c, clV d] w fun e w' => e = .returned (.bool (befB c.D d.B)) ∧ Below w.heap.size w w' := by
  unfold clV
  by_cases hd : c.D < 0
  · have e : befB c.D d.B = false := decide_eq_false (by omega)
    rw [e]
    have hdd : decide (0 ≤ c.D) = false := decide_eq_false (by omega)
    clear e
    go_enter Try.func28, Try.ntmps28
    go_wp2
    go_returns
    exact ⟨rfl, by go_grown⟩
  · have e : befB c.D d.B = decide (c.D < d.B) := by unfold befB; rw [Bool.eq_iff_iff, decide_eq_true_eq, decide_eq_true_eq]; omega
    rw [e]
    have hdd : decide (0 ≤ c.D) = true := decide_eq_true (by omega)
    clear e
    go_enter Try.func28, Try.ntmps28
    go_wp2
    go_returns
    exact ⟨rfl, by go_grown⟩

/-- A history without events. -/
theorem hst_new {w : World} {X : Nat} (h : w.heap[X]? = some (.cells #[.slice none 0 0, .int .i64 0, .int .i64 0, .int .i64 0, .int .i64 0, .int .i64 0, .int .i64 0, .int .i64 0, .int .i64 0, .int .i64 0] 60 (0, 0))) : Hst w X (fun b => b = X) [] := by
  refine ⟨.slice none 0 0, fun _ => 0, ⟨valid_nil, opens_nil, ⟨_, h, rfl, rfl, rfl, fun t ht => ?_⟩, Own.nil _ _⟩, rfl, fun g hg => by simp [Value.ownBlock] at hg, fun b hb => by rw [hb]; exact (Array.getElem?_eq_some_iff.1 h).1⟩
  match t, ht with
  | 0, _ => rfl
  | 1, _ => rfl
  | 2, _ => rfl
  | 3, _ => rfl
  | 4, _ => rfl
  | 5, _ => rfl
  | 6, _ => rfl
  | 7, _ => rfl
theorem new_any (w : World) :
    Calls Try.prog 9 #[] w fun e w' => ∃ X f, e = .returned (.pointer (some ⟨X, 0, none⟩)) ∧ Hst w' X f [] ∧ (∀ b, f b → w.heap.size ≤ b) ∧ Below w.heap.size w w' := by
  go_enter Try.func9, Try.ntmps9
  go_wp2
  go_returns
  exact ⟨w.heap.size, _, rfl, hst_new (new_block _ _ _), fun b hb => Nat.le_of_eq hb.symm, by go_grown⟩
theorem len_any (w : World) (X : Nat) (f : Nat → Prop) (l : List EvV) (h : Hst w X f l) :
    Calls Try.prog 24 #[.pointer (some ⟨X, 0, none⟩)] w fun e w' => e = .returned (.int .i64 (l.length : Nat)) ∧ w = w' := by
  obtain ⟨v, o, h, _⟩ := h
  have c1 := h.c1
  clear h
  go_enter Try.func24, Try.ntmps24
  go_wp2
  go_returns
  exact ⟨rfl, rfl⟩
theorem hst_pending (w : World) (X : Nat) (f : Nat → Prop) (l : List EvV) (h : Hst w X f l) (t : Int) :
    Calls Try.prog 14 #[.pointer (some ⟨X, 0, none⟩), .int .i64 t] w fun e w' => e = .returned (.bool (pendE l t)) ∧ w = w' := by
  obtain ⟨v, o, h, _⟩ := h
  refine (pending_any w X v o l h t).mono fun e w' ⟨he, hw⟩ => ⟨?_, hw⟩
  rw [he]
  by_cases ht : 0 ≤ t ∧ t ≤ 7
  · rw [decide_eq_true ht, Bool.true_and]
  · rw [decide_eq_false ht, Bool.false_and, pend_out h.valid ht]

set_option maxHeartbeats 1000000 in
theorem clone_any (w : World) (v : Value) (L : List ClV) (h : Own cells9 9 51 w v L) (hL : L.length ≤ 1000) :
    Calls Try.prog 30 #[v] w fun e w' => ∃ v', e = .returned v' ∧ Grow cells9 9 51 w w' v' L := by
  have H := Lib.hid h
  obtain ⟨hl, ⟨rfl, h0⟩ | ⟨g, cap, cur, rfl, _, hb, h1, h2, h3, h4⟩⟩ := h
  · clear hl
    have qT : ∀ (w : World) (a : Option Addr) (n c n' c' : Nat), (binOp .eql 46 (.slice a n c) (.slice none n' c')).run Try.prog w = .ok (.bool a.isNone) w := fun w a n c n' c' => Lib.run_eql_slice_nil w _ _ a n c n' c' Try.underlying46
    go_enter Try.func30, Try.ntmps30
    go_wp2
    go_returns
    obtain rfl := List.eq_nil_of_length_eq_zero h0
    exact ⟨_, rfl, Grow.nil _ _ _ (Below.refl _ _)⟩
  · obtain ⟨i0, hi, hz0, hz1, hz2⟩ := info_parts Tryinfo_call
    have hrow : ((w.alloc (.cells #[] 51))).ownsRow w.heap.size 51 9 (.slice (some ⟨w.heap.size, 0, none⟩) 0 0) 0 [] := World.ownsRow_made w #[] 0 (Nat.le_refl _) (by unfold maxLen; omega) rfl
    obtain ⟨v', w', hrun, hown, hgr, _, hat⟩ := run_append_own_at (P := Try.prog) (w.alloc (.cells #[] 51)) w.heap.size 46 46 51 i0 _ 9 72 Try.underlying46 hi hz0 hz1 hz2 rfl (by decide) _ 0 [] hrow ⟨g, 0, none⟩ L.length cap (rowCells cells9 L 0) (row_len len9 L 0) (fun j u hj => (((Below.refl w.heap.size w).alloc (Nat.le_refl _) _).cell (by rw [Addr.add_lit]; exact (Array.getElem?_eq_some_iff.1 hb).1)).trans (H.out.cells (g := g) rfl j u hj)) (fun u hu => by
      obtain ⟨m, hm⟩ := List.getElem?_of_mem hu
      have hml := (List.getElem?_eq_some_iff.1 hm).1
      rw [row_len len9] at hml
      have e : m = m / 9 * 9 + m % 9 := by omega
      rw [e, row_get len9 L 0 _ _ (by omega)] at hm
      cases hc : L[m / 9]? with
      | none => rw [hc] at hm; simp at hm
      | some c =>
        rw [hc] at hm
        exact one9 _ _ u (List.mem_of_getElem? hm)) (by unfold maxLen; omega) (by omega) (by simp)
    have G : Hid (Grow cells9 9 51 w w' v' L) := by
      have hb0 : Below w.heap.size w (w.alloc (.cells #[] 51)) := (Below.refl _ _).alloc (Nat.le_refl _) _
      refine Lib.hid ⟨?_, fun g' hg' => ?_, hb0.grown hgr hb0.size (fun b hb => by simp [Value.ownBlock] at hb; omega)⟩
      · obtain ⟨k1, k2⟩ := hown
        refine ⟨by simpa using k1, ?_⟩
        rcases k2 with ⟨k2, k3⟩ | ⟨g2, c2, r2, e1, e2, e3, e4, e5, e6, e7⟩
        · exact Or.inl ⟨k2, by omega⟩
        · exact Or.inr ⟨g2, c2, r2, by rw [e1, Nat.zero_add], Nat.zero_le _, e3, by omega, e5, e6, by simpa using e7⟩
      · rcases hat with e | e
        · rw [hg'] at e
          simp [Value.ownBlock] at e
          omega
        · rw [hg'] at e
          have := Option.some.inj e
          simp at this
          omega
    have HR := Lib.hid hrun
    clear hrow hrun hown hgr hat hl h1 h2 h3 h4 hb
    have qT : ∀ (w : World) (a : Option Addr) (n c n' c' : Nat), (binOp .eql 46 (.slice a n c) (.slice none n' c')).run Try.prog w = .ok (.bool a.isNone) w := fun w a n c n' c' => Lib.run_eql_slice_nil w _ _ a n c n' c' Try.underlying46
    go_enter Try.func30, Try.ntmps30
    go_wp2_with (at_builtin; go_loud (refine wpList_known rfl (.tmp 5) (.tmp 6) 46 rfl _ _ v' w' rfl rfl HR.out ?_))
    go_returns
    exact ⟨v', rfl, G.out⟩

theorem calls_any (w : World) (X : Nat) (f : Nat → Prop) (l : List EvV) (h : Hst w X f l) (hl : l.length ≤ 1000) :
    Calls Try.prog 21 #[.pointer (some ⟨X, 0, none⟩)] w fun e w' => ∃ v', e = .returned v' ∧ Grow cells9 9 51 w w' v' (callsE l) := by
  obtain ⟨v, o, h, _⟩ := h
  have c0 := h.c0
  have HO := Lib.hid h.row
  have HL := Lib.hid (Nat.le_trans (calls_le h.valid) hl)
  clear h
  go_enter Try.func21, Try.ntmps21
  go_wp2_with (go_at_call 30; refine (clone_any _ v _ HO.out HL.out).mono ?_; rintro e w1 ⟨v1, rfl, hg⟩; have G1 := Lib.hid hg; clear hg)
  go_returns
  exact ⟨v1, rfl, G1.out⟩

/-- A copy's block and row. -/
theorem hst_copied {w w1 : World} {o : Nat → Nat} {l : List EvV} {v : Value} (hV : ValidE l) (ho : Opens l o) (hg : Grow cells9 9 51 w w1 v (callsE l)) :
    ∃ f', Hst (w1.alloc (.cells #[v, .int .i64 (l.length : Nat), .int .i64 (o 0 : Nat), .int .i64 (o 1 : Nat), .int .i64 (o 2 : Nat), .int .i64 (o 3 : Nat), .int .i64 (o 4 : Nat), .int .i64 (o 5 : Nat), .int .i64 (o 6 : Nat), .int .i64 (o 7 : Nat)] 60)) w1.heap.size f' l ∧ ∀ b, f' b → w.heap.size ≤ b := by
  have hs := hg.below.size
  refine ⟨fun b => w.heap.size ≤ b ∧ b < w1.heap.size + 1, ⟨v, o, ⟨hV, ho, ⟨_, new_block _ _ _, rfl, rfl, rfl, fun t ht => ?_⟩, hg.own.below ((Below.refl _ _).alloc (Nat.le_refl _) _)⟩, ⟨hs, by omega⟩, fun g h => ⟨hg.new g h, by have := hg.own.lt h; omega⟩, fun b hb => by simp; omega⟩, fun b hb => hb.1⟩
  match t, ht with
  | 0, _ => rfl
  | 1, _ => rfl
  | 2, _ => rfl
  | 3, _ => rfl
  | 4, _ => rfl
  | 5, _ => rfl
  | 6, _ => rfl
  | 7, _ => rfl
set_option maxHeartbeats 2000000 in
theorem copy_any (w : World) (X : Nat) (f : Nat → Prop) (l : List EvV) (h : Hst w X f l) (hl : l.length ≤ 1000) :
    Calls Try.prog 19 #[.pointer (some ⟨X, 0, none⟩)] w fun e w' => ∃ X' f', e = .returned (.pointer (some ⟨X', 0, none⟩)) ∧ Hst w' X' f' l ∧ (∀ b, f' b → w.heap.size ≤ b) ∧ Below w.heap.size w w' := by
  obtain ⟨v, o, h, _⟩ := h
  have c0 := h.c0
  have c1 := h.c1
  have q0 : w.cell? ⟨X, 2, none⟩ = _ := h.co (t := 0) (by omega)
  have q1 : w.cell? ⟨X, 3, none⟩ = _ := h.co (t := 1) (by omega)
  have q2 : w.cell? ⟨X, 4, none⟩ = _ := h.co (t := 2) (by omega)
  have q3 : w.cell? ⟨X, 5, none⟩ = _ := h.co (t := 3) (by omega)
  have q4 : w.cell? ⟨X, 6, none⟩ = _ := h.co (t := 4) (by omega)
  have q5 : w.cell? ⟨X, 7, none⟩ = _ := h.co (t := 5) (by omega)
  have q6 : w.cell? ⟨X, 8, none⟩ = _ := h.co (t := 6) (by omega)
  have q7 : w.cell? ⟨X, 9, none⟩ = _ := h.co (t := 7) (by omega)
  have HO := Lib.hid h.row
  have HV := Lib.hid h.valid
  have HP := Lib.hid h.opens
  have hX := h.lt
  have HL := Lib.hid (Nat.le_trans (calls_le h.valid) hl)
  clear h
  go_enter Try.func19, Try.ntmps19
  go_wp2
  go_region_held3 (fun wx => wx.cell? ⟨X, 0, none⟩ = some v ∧ wx.cell? ⟨X, 1, none⟩ = some (.int .i64 (l.length : Nat)) ∧ wx.cell? ⟨X, 2, none⟩ = some (.int .i64 (o 0 : Nat)) ∧ wx.cell? ⟨X, 3, none⟩ = some (.int .i64 (o 1 : Nat)) ∧ wx.cell? ⟨X, 4, none⟩ = some (.int .i64 (o 2 : Nat)) ∧ wx.cell? ⟨X, 5, none⟩ = some (.int .i64 (o 3 : Nat)) ∧ wx.cell? ⟨X, 6, none⟩ = some (.int .i64 (o 4 : Nat)) ∧ wx.cell? ⟨X, 7, none⟩ = some (.int .i64 (o 5 : Nat)) ∧ wx.cell? ⟨X, 8, none⟩ = some (.int .i64 (o 6 : Nat)) ∧ wx.cell? ⟨X, 9, none⟩ = some (.int .i64 (o 7 : Nat))) (go_keep)
    ((go_at_call 30; go_loud (refine (clone_any _ v _ (HO.out.below (Below.refl _ _).drew) HL.out).mono ?_; rintro e w1 ⟨v1, rfl, hg⟩; obtain ⟨A1, k1, rfl, -⟩ := hg.own.slice; have G1 := Lib.hid hg; have B1 := Lib.hid (((Below.refl w.heap.size w).drew).trans (hg.below.mono (by simp))); obtain ⟨d0, d1, d2, d3, d4, d5, d6, d7, d8, d9⟩ : w1.cell? ⟨X, 0, none⟩ = some v ∧ w1.cell? ⟨X, 1, none⟩ = some (.int .i64 (l.length : Nat)) ∧ w1.cell? ⟨X, 2, none⟩ = some (.int .i64 (o 0 : Nat)) ∧ w1.cell? ⟨X, 3, none⟩ = some (.int .i64 (o 1 : Nat)) ∧ w1.cell? ⟨X, 4, none⟩ = some (.int .i64 (o 2 : Nat)) ∧ w1.cell? ⟨X, 5, none⟩ = some (.int .i64 (o 3 : Nat)) ∧ w1.cell? ⟨X, 6, none⟩ = some (.int .i64 (o 4 : Nat)) ∧ w1.cell? ⟨X, 7, none⟩ = some (.int .i64 (o 5 : Nat)) ∧ w1.cell? ⟨X, 8, none⟩ = some (.int .i64 (o 6 : Nat)) ∧ w1.cell? ⟨X, 9, none⟩ = some (.int .i64 (o 7 : Nat)) := ⟨(B1.out.cell hX).trans c0, (B1.out.cell hX).trans c1, (B1.out.cell hX).trans q0, (B1.out.cell hX).trans q1, (B1.out.cell hX).trans q2, (B1.out.cell hX).trans q3, (B1.out.cell hX).trans q4, (B1.out.cell hX).trans q5, (B1.out.cell hX).trans q6, (B1.out.cell hX).trans q7⟩; clear hg)))
  go_wp2
  go_returns
  obtain ⟨f', h1, h2⟩ := hst_copied HV.out HP.out ⟨G1.out.own, G1.out.new, G1.out.below⟩
  exact ⟨w1.heap.size, f', rfl, h1, h2, B1.out.alloc B1.out.size _⟩
end Go.Proofs.Ytfacojlheeoppaa.hist
