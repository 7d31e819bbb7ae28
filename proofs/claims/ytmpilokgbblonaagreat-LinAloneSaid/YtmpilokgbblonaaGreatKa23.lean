/- A new meaning; a set's key put in and taken out; a row's item put in and taken out. -/
import Derived.Test.YtmpilokgbblonaaGreatKa14
namespace Go.Proofs.YtmpilokgbblonaaGreat.spec
open Go.RowKit task

theorem Moved.same {w w' : World} {X : Nat} {s : Int} {t : Parts} (h : Two w X s t) (hb : Below w.heap.size w w') : Moved w X s t t.items w' := ⟨t, h.below hb, rfl, Went.ofBelow hb, Or.inl rfl, Or.inl rfl⟩
theorem Moved.ahead {w w1 w' : World} {X : Nat} {s : Int} {t : Parts} {L : List Int} (hb : Below w.heap.size w w1) (h : Moved w1 X s t L w') : Moved w X s t L w' := by
  obtain ⟨t', h1, h2, h3, h4, h5⟩ := h
  exact ⟨t', h1, h2, Went.ahead hb h3, h4, h5⟩
theorem Moved.next {w w1 w' : World} {X : Nat} {s : Int} {t : Parts} {L : List Int} (h : Moved w X s t L w1) (hb : Below w1.heap.size w1 w') : Moved w X s t L w' := by
  obtain ⟨t', h1, h2, h3, h4, h5⟩ := h
  exact ⟨t', h1.below hb, h2, h3.next hb, h4.imp id (fun h => Nat.lt_of_lt_of_le h hb.size), h5.imp id (fun h => Nat.lt_of_lt_of_le h hb.size)⟩

theorem filter_all {p : Int → Bool} {L : List Int} (h : ∀ x ∈ L, p x = true) : L.filter p = L := List.filter_eq_self.2 h
theorem filter_no {p : Int → Bool} {L : List Int} (h : ∀ x ∈ L, p x = false) : L.filter p = [] := List.filter_eq_nil_iff.2 fun x hx => by rw [h x hx]; decide
theorem Place.take {L : List Int} {y : Int} {i : Nat} (h : Place L y i) : ∀ x ∈ L.take i, x < y := by
  intro x hx
  obtain ⟨k, hk, rfl⟩ := List.getElem_of_mem hx
  have hk2 : k < i := by simp at hk; omega
  have hkl : k < L.length := by simp at hk; omega
  have := h.less k hk2
  rw [List.getElem_take]
  simpa [List.getD_eq_getElem?_getD, List.getElem?_eq_getElem hkl] using this
theorem Place.drop {L : List Int} {y : Int} {i : Nat} (h : Place L y i) : ∀ x ∈ L.drop i, y ≤ x := by
  intro x hx
  obtain ⟨k, hk, rfl⟩ := List.getElem_of_mem hx
  have hkl : i + k < L.length := by simp at hk; omega
  have := h.more (i + k) (by omega) hkl
  rw [List.getElem_drop]
  simpa [List.getD_eq_getElem?_getD, List.getElem?_eq_getElem hkl] using this
theorem place_ins {L : List Int} {y : Int} {i : Nat} (h : Place L y i) : insL i y L = L.filter (fun x => decide (x < y)) ++ y :: L.filter (fun x => decide (y ≤ x)) := by
  have e1 : L.filter (fun x => decide (x < y)) = L.take i := by
    conv => lhs; rw [← List.take_append_drop i L]
    rw [List.filter_append, filter_all (fun x hx => decide_eq_true (h.take x hx)), filter_no (fun x hx => decide_eq_false (by have := h.drop x hx; omega)), List.append_nil]
  have e2 : L.filter (fun x => decide (y ≤ x)) = L.drop i := by
    conv => lhs; rw [← List.take_append_drop i L]
    rw [List.filter_append, filter_no (fun x hx => decide_eq_false (by have := h.take x hx; omega)), filter_all (fun x hx => decide_eq_true (h.drop x hx)), List.nil_append]
  rw [e1, e2]
  rfl
theorem place_del {L : List Int} {y : Int} {i : Nat} (hp : L.Pairwise (· < ·)) (h : Place L y i) (hm : y ∈ L) : i < L.length ∧ delL i L = L.filter (fun x => decide (x ≠ y)) := by
  obtain ⟨hi, hy⟩ := (place_mem hp h).1 hm
  refine ⟨hi, ?_⟩
  have hy2 : L[i] = y := by simpa [List.getD_eq_getElem?_getD, List.getElem?_eq_getElem hi] using hy
  have hd : L.drop i = y :: L.drop (i + 1) := by rw [List.drop_eq_getElem_cons hi, hy2]
  have hpd : (L.drop i).Pairwise (· < ·) := hp.sublist (List.drop_sublist i L)
  rw [hd, List.pairwise_cons] at hpd
  have e : L.filter (fun x => decide (x ≠ y)) = L.take i ++ L.drop (i + 1) := by
    conv => lhs; rw [← List.take_append_drop i L, hd]
    rw [List.filter_append, filter_all (fun x hx => decide_eq_true (by have := h.take x hx; omega)), List.filter_cons, if_neg (by simp), filter_all (fun x hx => decide_eq_true (by have := hpd.1 x hx; omega))]
  rw [e]
  rfl

/-- A key put into a set. -/
theorem next1 (s : Int) (L : List Int) (y : Int) : nextL s L 1 y = if y ∈ L then L else L.filter (fun x => decide (x < y)) ++ y :: L.filter (fun x => decide (y ≤ x)) := by
  unfold nextL
  rw [if_pos rfl]
theorem next2 (s : Int) (L : List Int) (y : Int) : nextL s L 2 y = L.filter (fun x => decide (x ≠ y)) := by
  unfold nextL
  rw [if_neg (by decide), if_pos rfl]
set_option maxHeartbeats 1000000 in
theorem insert_key (w : World) (X : Nat) (s y : Int) (t : Parts) (h : Two w X s t) (hl : t.items.length ≤ 999) (hp : t.items.Pairwise (· < ·)) :
    Calls Tryz.prog 70 #[.pointer (some ⟨X, 0, none⟩), .int .i64 y] w fun e w' => e = .returned (.bool (!decide (y ∈ t.items))) ∧ Moved w X s t (nextL s t.items 1 y) w' := by
  have H := Lib.hid h
  have HL := Lib.hid hl
  have HP := Lib.hid hp
  clear h hl hp
  rw [next1]
  by_cases hm : y ∈ t.items
  · have hd : decide (y ∈ t.items) = true := decide_eq_true hm
    rw [if_pos hm, hd]
    have HD := Lib.hid hd
    clear hm hd
    go_enter Tryz.func70, Tryz.ntmps70
    go_wp2_with (go_at_call 72; refine (find_any _ X y s t H.out (Nat.le_succ_of_le HL.out) HP.out).mono ?_; rw [HD.out]; rintro e w1 ⟨⟨i, hi, rfl⟩, hb⟩; have B := Lib.hid hb; clear hi hb)
    go_returns
    exact ⟨rfl, Moved.same H.out B.out⟩
  · have hd : decide (y ∈ t.items) = false := decide_eq_false hm
    rw [if_neg hm, hd]
    have HD := Lib.hid hd
    clear hm hd
    go_enter Tryz.func70, Tryz.ntmps70
    go_wp2_with (first
      | (go_at_call 72; refine (find_any _ X y s t H.out (Nat.le_succ_of_le HL.out) HP.out).mono ?_; rw [HD.out]; rintro e w1 ⟨⟨i, hi, rfl⟩, hb⟩; have B := Lib.hid hb; have HI := Lib.hid hi; clear hi hb)
      | (go_at_call 73; refine (put_any _ X y s t (H.out.below B.out) HL.out i _ rfl HI.out.le).mono ?_; rw [place_ins HI.out]; rintro e w2 ⟨rfl, hm⟩; have M := Lib.hid (Moved.ahead B.out hm); clear hm))
    go_returns
    exact ⟨rfl, M.out⟩
set_option maxHeartbeats 1000000 in
theorem remove_key (w : World) (X : Nat) (s y : Int) (t : Parts) (h : Two w X s t) (hl : t.items.length ≤ 999) (hp : t.items.Pairwise (· < ·)) :
    Calls Tryz.prog 71 #[.pointer (some ⟨X, 0, none⟩), .int .i64 y] w fun e w' => e = .returned (.bool (decide (y ∈ t.items))) ∧ Moved w X s t (nextL s t.items 2 y) w' := by
  have H := Lib.hid h
  have HL := Lib.hid hl
  have HP := Lib.hid hp
  clear h hl hp
  rw [next2]
  by_cases hm : y ∈ t.items
  · have hd : decide (y ∈ t.items) = true := decide_eq_true hm
    rw [hd]
    have HD := Lib.hid hd
    have HM := Lib.hid hm
    clear hm hd
    go_enter Tryz.func71, Tryz.ntmps71
    go_wp2_with (first
      | (go_at_call 72; refine (find_any _ X y s t H.out (Nat.le_succ_of_le HL.out) HP.out).mono ?_; rw [HD.out]; rintro e w1 ⟨⟨i, hi, rfl⟩, hb⟩; have B := Lib.hid hb; have HI := Lib.hid hi; have HE := Lib.hid (place_del HP.out hi HM.out); clear hi hb)
      | (go_at_call 80; refine (drop_any _ X s t (H.out.below B.out) (Nat.le_succ_of_le HL.out) i _ rfl HE.out.1).mono ?_; rw [HE.out.2]; rintro e w2 ⟨rfl, hm⟩; have M := Lib.hid (Moved.ahead B.out hm); clear hm))
    go_returns
    exact ⟨rfl, M.out⟩
  · have hd : decide (y ∈ t.items) = false := decide_eq_false hm
    have he : t.items.filter (fun x => decide (x ≠ y)) = t.items := filter_all fun x hx => decide_eq_true (fun e => hm (e ▸ hx))
    rw [hd, he]
    have HD := Lib.hid hd
    clear hm hd he
    go_enter Tryz.func71, Tryz.ntmps71
    go_wp2_with (go_at_call 72; refine (find_any _ X y s t H.out (Nat.le_succ_of_le HL.out) HP.out).mono ?_; rw [HD.out]; rintro e w1 ⟨⟨i, hi, rfl⟩, hb⟩; have B := Lib.hid hb; clear hi hb)
    go_returns
    exact ⟨rfl, Moved.same H.out B.out⟩

theorem entry_any (w : World) (X : Nat) (s : Int) (t : Parts) (h : Two w X s t) (hl : t.items.length ≤ 1000) :
    Calls Tryz.prog 74 #[.pointer (some ⟨X, 0, none⟩)] w fun e w' => e = .returned (.int .i64 ((if s = 4 then 0 else t.items.length : Nat))) ∧ ∃ n, w' = w.drewN n := by
  have c2 := h.c2
  have H := Lib.hid h
  have HL := Lib.hid hl
  clear h hl
  by_cases hs : s = 4
  · subst hs
    rw [if_pos rfl]
    go_enter Tryz.func74, Tryz.ntmps74
    go_wp2
    go_returns
    exact ⟨rfl, 0, rfl⟩
  · rw [if_neg hs]
    go_enter Tryz.func74, Tryz.ntmps74
    go_wp2_with (go_at_call 82; refine (len_any _ X s t H.out HL.out).mono ?_; rintro e w1 ⟨rfl, n, rfl⟩)
    go_returns
    exact ⟨rfl, n, rfl⟩

/-- The first item. -/
def headI (L : List Int) : Int := L.headD 0
set_option maxHeartbeats 1000000 in
theorem take_any (w : World) (X : Nat) (s : Int) (t : Parts) (h : Two w X s t) (hl : t.items.length ≤ 1000) :
    Calls Tryz.prog 75 #[.pointer (some ⟨X, 0, none⟩)] w fun e w' => e = .returned (.tuple #[.int .i64 (headI t.items), .bool (!t.items.isEmpty)]) ∧ Moved w X s t t.items.tail w' := by
  have H := Lib.hid h
  have HL := Lib.hid hl
  clear h hl
  cases hi : t.items with
  | nil =>
    have HI := Lib.hid hi
    clear hi
    go_enter Tryz.func75, Tryz.ntmps75
    go_wp2_with (go_at_call 87; refine (first_none _ X s t H.out HI.out).mono ?_; rintro e w1 ⟨rfl, n, rfl⟩)
    go_returns
    refine ⟨rfl, ?_⟩
    have hm := Moved.same H.out (below_drewN (Below.refl w.heap.size w) n)
    rw [HI.out] at hm
    exact hm
  | cons x L =>
    have HI := Lib.hid hi
    clear hi
    go_enter Tryz.func75, Tryz.ntmps75
    go_wp2_with (first
      | (go_at_call 87; refine (first_some _ X s t x L H.out HI.out HL.out).mono ?_; rintro e w1 ⟨rfl, n, rfl⟩)
      | (go_at_call 80; refine (drop_any _ X s t (H.out.drewN n) HL.out 0 _ rfl (by rw [HI.out]; simp)).mono ?_; rw [HI.out]; rintro e w2 ⟨rfl, hm⟩; have M := Lib.hid (Moved.ahead (below_drewN (Below.refl w.heap.size w) n) hm); clear hm))
    go_returns
    exact ⟨rfl, M.out⟩

/-- A shape that there is. -/
theorem new_right (w : World) (s : Int) (hs : 1 ≤ s ∧ s ≤ 4) :
    Calls Tryz.prog 26 #[.int .i64 s] w fun e w' => ∃ X f, e = .returned (.tuple #[.pointer (some ⟨X, 0, none⟩), .int .i64 0]) ∧ Mean w' X f s [] ∧ (∀ b, f b → w.heap.size ≤ b) ∧ Below w.heap.size w w' := by
  have hc : s = 1 ∨ s = 2 ∨ s = 3 ∨ s = 4 := by omega
  clear hs
  rcases hc with rfl | rfl | rfl | rfl
  all_goals
    go_enter Tryz.func26, Tryz.ntmps26
    go_wp2
    go_returns
    refine ⟨w.heap.size, fun b => b = w.heap.size, rfl, ⟨⟨w.heap.size, w.heap.size, none, none, 0, 0, [], []⟩, ⟨new_block w _ _, Or.inl ⟨rfl, rfl, rfl⟩, Or.inl ⟨rfl, rfl, rfl⟩, fun h => absurd rfl h⟩, rfl, rfl, rfl, rfl, fun b hb => by rw [hb]; simp⟩, fun b hb => Nat.le_of_eq hb.symm, (Below.refl _ _).alloc (Nat.le_refl _) _⟩
theorem new_wrong (w : World) (s : Int) (hs : ¬ (1 ≤ s ∧ s ≤ 4)) :
    Calls Tryz.prog 26 #[.int .i64 s] w fun e w' => e = .returned (.tuple #[.pointer none, .int .i64 1]) ∧ w = w' := by
  have h1 : (s == 1) = false := beq_eq_false_iff_ne.2 (by omega)
  have h2 : (s == 2) = false := beq_eq_false_iff_ne.2 (by omega)
  have h3 : (s == 3) = false := beq_eq_false_iff_ne.2 (by omega)
  have h4 : (s == 4) = false := beq_eq_false_iff_ne.2 (by omega)
  clear hs
  go_enter Tryz.func26, Tryz.ntmps26
  go_wp2
  go_returns
  exact ⟨rfl, rfl⟩
end Go.Proofs.YtmpilokgbblonaaGreat.spec
