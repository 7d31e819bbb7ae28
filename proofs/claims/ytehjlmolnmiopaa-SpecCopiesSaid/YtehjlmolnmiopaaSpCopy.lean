/- A meaning's copy; whether two are one. -/
import Derived.Test.YtehjlmolnmiopaaSpUndo
namespace Go.Proofs.Ytehjlmolnmiopaa.spec
open Go.RowKit task

theorem Rw.other {w : World} {g c : Nat} {A : Option Addr} {xs : List Int} (h : Rw w g A c xs) (X : Nat) : ∃ p, Rw w p A c xs ∧ (p = X ∨ A ≠ none ∧ p = g) := by
  rcases h with ⟨rfl, rfl, rfl⟩ | ⟨o, rfl, h⟩
  · exact ⟨X, Or.inl ⟨rfl, rfl, rfl⟩, Or.inl rfl⟩
  · exact ⟨g, Or.inr ⟨o, rfl, h⟩, Or.inr ⟨by simp, rfl⟩⟩
/-- Two copies of rows, and a block more: a meaning. -/
theorem copied {w w1 w2 : World} {g1 c1 g2 c2 : Nat} {A1 A2 : Option Addr} {us vs : List Int} {s : Int} (hb : Below w.heap.size w w1) (h1 : Rw w1 g1 A1 c1 us) (n1 : A1 ≠ none → w.heap.size ≤ g1) (hb2 : Below w1.heap.size w1 w2) (h2 : Rw w2 g2 A2 c2 vs) (n2 : A2 ≠ none → w1.heap.size ≤ g2) :
    ∃ f, Mean (w2.alloc (.cells #[.slice A1 us.length c1, .slice A2 vs.length c2, .int .i64 s] 33)) w2.heap.size f s (us.reverse ++ vs) ∧ ∀ b, f b → w.heap.size ≤ b := by
  have hs := hb.size
  have hs2 := hb2.size
  have hbx := (Below.refl w2.heap.size w2).alloc (Nat.le_refl _) (.cells #[.slice A1 us.length c1, .slice A2 vs.length c2, .int .i64 s] 33)
  have hl1 : A1 ≠ none → g1 < w1.heap.size := fun hA => h1.lt hA
  have hl2 : A2 ≠ none → g2 < w2.heap.size := fun hA => h2.lt hA
  obtain ⟨p, hp, hpe⟩ := ((h1.below hb2).below hbx).other w2.heap.size
  obtain ⟨q, hq, hqe⟩ := (h2.below hbx).other w2.heap.size
  refine ⟨fun b => b = w2.heap.size ∨ b = p ∨ b = q, ⟨⟨p, q, A1, A2, c1, c2, us, vs⟩, ⟨new_block w2 _ _, hp, hq, fun hA hB => ?_⟩, rfl, Or.inl rfl, Or.inr (Or.inl rfl), Or.inr (Or.inr rfl), fun b hb => ?_⟩, fun b hb => ?_⟩
  · show p ≠ q
    have a1 := hl1 hA
    have a2 := hl2 hB
    have a3 := n2 hB
    rcases hpe with e | ⟨_, e⟩ <;> rcases hqe with e' | ⟨_, e'⟩
    · have := hq.lt hB
      have := hp.lt hA
      intro _
      have hk := hp.kind hA
      obtain ⟨k, hk⟩ := hk
      rw [e] at hk
      exact shape_ne (new_block w2 #[.slice A1 us.length c1, .slice A2 vs.length c2, .int .i64 s] 33) hk rfl
    · omega
    · omega
    · omega
  · simp
    rcases hb with rfl | rfl | rfl
    · omega
    · rcases hpe with e | ⟨hA, e⟩
      · omega
      · have := hl1 hA; omega
    · rcases hqe with e | ⟨hA, e⟩
      · omega
      · have := hl2 hA; omega
  · rcases hb with rfl | rfl | rfl
    · omega
    · rcases hpe with e | ⟨hA, e⟩
      · omega
      · have := n1 hA; omega
    · rcases hqe with e | ⟨hA, e⟩
      · omega
      · have := n2 hA; omega

set_option maxRecDepth 100000 in
set_option maxHeartbeats 2000000 in
theorem copy_any (w : World) (X : Nat) (f : Nat → Prop) (s : Int) (L : List Int) (h : Mean w X f s L) (hl : L.length ≤ 1000) :
    Calls Try.prog 21 #[.pointer (some ⟨X, 0, none⟩)] w fun e w' => ∃ X' f', e = .returned (.pointer (some ⟨X', 0, none⟩)) ∧ Mean w' X' f' s L ∧ (∀ b, f' b → w.heap.size ≤ b) ∧ Below w.heap.size w w' := by
  obtain ⟨t, h, rfl, _⟩ := h
  have c0 := h.c0
  have c1 := h.c1
  have c2 := h.c2
  have H := Lib.hid h
  clear h
  obtain ⟨p, q, A, B, ca, cb, us, vs⟩ := t
  rw [Parts.items_len] at hl
  simp only at *
  have HU : Hid (us.length ≤ 1000) := by show _ ≤ _; omega
  have HV : Hid (vs.length ≤ 1000) := by show _ ≤ _; omega
  clear hl
  go_enter Try.func21, Try.ntmps21
  go_wp2
  go_region_held3 (fun wx => wx.cell? ⟨X, 0, none⟩ = some (.slice A us.length ca) ∧ wx.cell? ⟨X, 1, none⟩ = some (.slice B vs.length cb) ∧ wx.cell? ⟨X, 2, none⟩ = some (.int .i64 s)) (go_keep) (first
    | (go_at_call 36; have _t := B1.out; go_loud (refine (clone_any _ q cb B vs (H.out.below B1.out).b HV.out).mono ?_; rintro e w2 ⟨g2, A2, k2, rfl, hr2, hn2, hb2⟩; have R2 := Lib.hid hr2; have N2 := Lib.hid hn2; have B2 := Lib.hid hb2; have e0 := (H.out.below (past B1.out hb2)).c0; have e1 := (H.out.below (past B1.out hb2)).c1; have e2 := (H.out.below (past B1.out hb2)).c2; simp only at e0 e1 e2; clear hr2 hn2 hb2))
    | (go_at_call 36; go_loud (refine (clone_any _ p ca A us (H.out.below (Below.refl _ _).drew).a HU.out).mono ?_; rintro e w1 ⟨g1, A1, k1, rfl, hr1, hn1, hb1⟩; have R1 := Lib.hid hr1; have N1 := Lib.hid hn1; have B1 := Lib.hid (((Below.refl w.heap.size w).drew).trans (hb1.mono (by simp))); have d0 := (H.out.below B1.out).c0; have d1 := (H.out.below B1.out).c1; have d2 := (H.out.below B1.out).c2; simp only at d0 d1 d2; clear hr1 hn1 hb1)))
  go_wp2
  go_returns
  obtain ⟨f', hm, hf⟩ := copied (s := s) B1.out R1.out N1.out B2.out R2.out N2.out
  exact ⟨w2.heap.size, f', rfl, hm, hf, (past B1.out B2.out).alloc (past B1.out B2.out).size _⟩

set_option maxHeartbeats 1000000 in
theorem same_nil (w : World) (X : Nat) :
    Calls Try.prog 22 #[.pointer (some ⟨X, 0, none⟩), .pointer none] w fun e w' => e = .returned (.bool false) ∧ Below w.heap.size w w' := by
  go_enter Try.func22, Try.ntmps22
  go_wp2
  go_quiet (fail)
  go_wp2
  go_returns
  exact ⟨rfl, below_drewN (Below.refl _ _) _⟩
set_option maxRecDepth 100000 in
set_option maxHeartbeats 2000000 in
theorem same_any (w : World) (X X' : Nat) (f f' : Nat → Prop) (s s' : Int) (L L' : List Int) (h : Mean w X f s L) (h' : Mean w X' f' s' L') (hl : L.length ≤ 1000) (hl' : L'.length ≤ 1000) :
    Calls Try.prog 22 #[.pointer (some ⟨X, 0, none⟩), .pointer (some ⟨X', 0, none⟩)] w fun e w' => e = .returned (.bool (decide (s = s' ∧ L = L'))) ∧ Below w.heap.size w w' := by
  have c2 := h.cell2
  have c2' := h'.cell2
  have H := Lib.hid h
  have H' := Lib.hid h'
  have HL := Lib.hid hl
  have HL' := Lib.hid hl'
  clear h h' hl hl'
  by_cases hs : s = s'
  · subst hs
    have hd : decide (s = s ∧ L = L') = decide (L = L') := by simp
    rw [hd]
    clear hd
    go_enter Try.func22, Try.ntmps22
    go_wp2
    go_region_held3 (fun wx => wx.cell? ⟨X, 2, none⟩ = some (.int .i64 s) ∧ wx.cell? ⟨X', 2, none⟩ = some (.int .i64 s)) (go_keep) (first
      | (go_at_call 37; go_loud (refine (equal_any _ g1 k1 g2 k2 A1 A2 L L' (R1.out.below B2.out) R2.out (by have := HL.out; omega) (by have := HL'.out; omega)).mono ?_; rintro e w3 ⟨rfl, hw⟩; have B3 := Lib.hid (past (past B1.out B2.out) (drewN_below hw)); have f2 := (H.out.below B3.out).cell2; have f2' := (H'.out.below B3.out).cell2; clear hw))
      | (go_at_call 15; have _t := B1.out; go_loud (refine (items_mean _ X' f' s L' (H'.out.below B1.out) HL'.out).mono ?_; rintro e w2 ⟨A2, k2, g2, rfl, hr2, _, hb2⟩; have R2 := Lib.hid hr2; have B2 := Lib.hid hb2; have e2 := (H.out.below (past B1.out hb2)).cell2; have e2' := (H'.out.below (past B1.out hb2)).cell2; clear hr2 hb2))
      | (go_at_call 15; go_loud (refine (items_mean _ X f s L (H.out.below (Below.refl _ _).drew) HL.out).mono ?_; rintro e w1 ⟨A1, k1, g1, rfl, hr1, _, hb1⟩; have R1 := Lib.hid hr1; have B1 := Lib.hid (((Below.refl w.heap.size w).drew).trans (hb1.mono (by simp))); have d2 := (H.out.below B1.out).cell2; have d2' := (H'.out.below B1.out).cell2; clear hr1 hb1)))
    go_wp2
    go_returns
    exact ⟨rfl, B3.out⟩
  · have hd : decide (s = s' ∧ L = L') = false := decide_eq_false fun h => hs h.1
    rw [hd]
    have hsb : (s == s') = false := beq_eq_false_iff_ne.2 hs
    clear hd hs
    go_enter Try.func22, Try.ntmps22
    go_wp2
    go_quiet (fail)
    go_wp2
    go_returns
    exact ⟨rfl, below_drewN (Below.refl _ _) _⟩
end Go.Proofs.Ytehjlmolnmiopaa.spec
