/- A scan's step that gives a node back. -/
import Derived.Test.YtnphnhafifaaoaaGStep
namespace Go.Proofs.Ytnphnhafifaaoaa.guard
open Go.RowKit mem life

section
variable {W w w' : World} {X Y C D : Nat} {t n : Int} {zs zs' ws L : List Int} {j : Nat}
theorem IntRow_below {g : Nat} {U : List Int} (h : IntRow w g U) (hb : Below w.heap.size w w') : IntRow w' g U := h.moved (hb.block g h.lt)
theorem Looking.next (h : Looking W X Y C t n zs L ws w) (hb : Below w.heap.size w w') : Looking W X Y C t n zs L ws w' := by
  obtain ⟨nv, tv, hi, hsc, hn, ht⟩ := h
  exact ⟨nv, tv, hi, hsc.next hb, hn, ht.below hb⟩
theorem Giving.next (h : Giving W X Y C t n zs L ws j D w) (hb : Below w.heap.size w w') : Giving W X Y C t n zs L ws j D w' := by
  obtain ⟨nv, r, g, c, hi, hsc, hn, ht, hD, hbx, hrow, h1, h2⟩ := h
  exact ⟨nv, r, g, c, hi, hsc.next hb, hn, ht.below hb, hD, hbx.below hb, IntRow_below hrow hb, h1, h2⟩
/-- Who gives back is made, or is there. -/
def Gets (W : World) (X Y C : Nat) (t n : Int) (zs L ws : List Int) (j : Nat) (w : World) : Prop :=
  Calls Try.prog 41 #[.pointer (some ⟨C, 0, none⟩)] w fun e w' => ∃ D, e = .returned (.pointer (some ⟨D, 0, none⟩)) ∧ Giving W X Y C t n zs L ws j D w'
theorem gets_old (h : Giving W X Y C t n zs L ws j D w) : Gets W X Y C t n zs L ws j w := by
  obtain ⟨nv, r, g, c, hi, hsc, hr⟩ := h
  refine (giver_old D (hsc.box.at 7 rfl)).mono ?_
  rintro e w1 ⟨rfl, rfl⟩
  exact ⟨D, rfl, nv, r, g, c, hi, hsc, hr⟩
theorem gets_new (t0 : 1 ≤ t) (hl : L.length ≤ 1000) (hL : ∀ x ∈ L, 0 ≤ x ∧ x ≤ 1000) (h : Looking W X Y C t n zs L ws w) (hw : (ws.length : Int) = 2 * t) (hU : 0 < (untold ws L).length) : Gets W X Y C t n zs L ws 0 w := by
  obtain ⟨nv, tv, hi, hsc, hn, ht⟩ := h
  rcases ht with ⟨rfl, rfl⟩ | ⟨r, rfl, hr, hc⟩
  · simp at hw
    omega
  · rcases nums_now hi hsc hn with ⟨rfl, rfl⟩ | ⟨h0, g, c, rfl, _, hrow, hc0, hc1⟩
    · simp [untold] at hU
    · refine (giver_new r g _ c ws L hsc hc hrow rfl h0 hl hL hU).mono ?_
      rintro e w1 ⟨D, g2, c2, rfl, hD, hsc2, hc2, hb2, hrow2, hcc, hcm⟩
      exact ⟨D, rfl, _, r, g2, c2, hi, by rw [← hw]; exact hsc2, hn, hc2, hD, hb2, hrow2, by omega, hcm⟩

/-- Behind a node that was given back. -/
structure Gone (W : World) (X Y C : Nat) (t n : Int) (zs L ws : List Int) (j D : Nat) (w : World) : Prop where
  ready : ∃ nv r, Ints W X Y C ∧ Sc W w X Y C t n zs (.slice none 0 0) (.slice none 0 0) nv (2 * t) (.map (some r)) (.pointer (some ⟨D, 0, none⟩)) ∧ Nums W 0 nv L ∧ Cnt w r ws
  more : j < (untold ws L).length → Giving W X Y C t n zs L ws j D w
/-- The words, a node's life being one more. -/
def upLife (n : Int) (zs : List Int) (i : Int) : List Int := putLife n zs i (IntKind.u64.wrap (lifeIn n zs i + 1))
theorem untold_in {x : Int} {lo hi : Int} (hL : ∀ x ∈ L, lo ≤ x ∧ x ≤ hi) (h : x ∈ untold ws L) : lo ≤ x ∧ x ≤ hi := hL x (List.mem_filter.1 h).1
theorem sub_step {a j m : Nat} (h : a - j = m + 1) : a - (j + 1) = m := by omega
set_option maxHeartbeats 1000000 in
theorem gives (hs : Sound t n zs) (hl : L.length ≤ 1000) (hL : ∀ x ∈ L, 1 ≤ x ∧ x ≤ n) (h : Giving W X Y C t n zs L ws j D w) (hj : j < (untold ws L).length) :
    Calls Try.prog 42 #[.pointer (some ⟨D, 0, none⟩), .pointer (some ⟨X, 0, none⟩)] w fun e w' => e = .returned (.bool (decide (j + 1 = (untold ws L).length))) ∧ Gone W X Y C t n (upLife n zs ((untold ws L).getD j 0)) L ws (j + 1) D w' := by
  obtain ⟨nv, r, g, c, hi, hsc, hn, hc, hD, hb, hrow, h1, h2⟩ := h
  have hlen : (untold ws L).length ≤ L.length := List.length_filter_le _ _
  obtain ⟨m, hm⟩ : ∃ m, (untold ws L).length - j = m + 1 := ⟨(untold ws L).length - j - 1, by omega⟩
  have hin : 1 ≤ (untold ws L).getD j 0 ∧ (untold ws L).getD j 0 ≤ n := untold_in hL (by rw [List.getD_eq_getElem?_getD, List.getElem?_eq_getElem hj]; exact List.getElem_mem _)
  have hd := MemS_unlike hsc.mem hb (by decide) (by decide)
  obtain ⟨ex, hrb⟩ := id hrow
  have hgx := MemS_unlike hsc.mem hrb (by decide) (by decide)
  have hgD : g ≠ D := unlikeT hrb hb (by decide)
  have hCD : C ≠ D := unlikeT hsc.box hb (by decide)
  have hrX := Cnt_apart hsc.mem hsc.box hc
  have hrD : D ≠ r := hc.unlike hb
  rw [hm] at hb h1
  refine (give_one hs g j m c _ hsc.mem hb hd.1 hd.2 hgx.1 hgx.2 (hrow.cell hj) hin.1 hin.2 h1 (by omega) h2).mono ?_
  rintro e w' ⟨rfl, v', hgd, hv0, hv1⟩
  have hsc' : Sc W w' X Y C t n (upLife n zs ((untold ws L).getD j 0)) (.slice none 0 0) (.slice none 0 0) nv (2 * t) (.map (some r)) (.pointer (some ⟨D, 0, none⟩)) := by
    refine ⟨hgd.mem, (hgd.apart.block C hsc.box.lt hsc.unlike.1 hsc.unlike.2 hCD).trans hsc.box, ?_⟩
    have a := hsc.apart
    have b := hgd.apart
    exact ⟨b.os.trans a.os, b.tape.trans a.tape, b.output.trans a.output, Nat.le_trans a.size b.size, fun q hq hx hy hcc => (b.block q (Nat.lt_of_lt_of_le hq a.size) hx hy (by omega)).trans (a.block q hq hx hy hcc)⟩
  have hc' : Cnt w' r ws := hc.moved (hgd.apart.block r hc.lt hrX.1 hrX.2.1 (Ne.symm hrD))
  refine ⟨ret_bool ?_, ⟨nv, r, hi, hsc', hn, hc'⟩, fun hlt => ?_⟩
  · by_cases he : m = 0
    · rw [decide_eq_true (by omega)]; simp [he]
    · rw [decide_eq_false (by omega)]; simp [he]
  · have hpos : 0 < m := by omega
    have hv := hv1 hpos
    have e : (untold ws L).length - (j + 1) = m := sub_step hm
    obtain ⟨c', rfl, h3, h4⟩ := hv
    exact ⟨nv, r, g, c', hi, hsc', hn, hc', hD, by rw [e]; exact hgd.box, hrow.moved (hgd.apart.block g hrow.lt hgx.1 hgx.2 hgD), by rw [e]; exact h3, Nat.le_trans h4 h2⟩

/-- All slots were looked into. -/
structure Full (W w : World) (X Y C : Nat) (t n : Int) (zs : List Int) : Prop where
  sc : ∃ k f nv tv gv, Sc W w X Y C t n zs k f nv (2 * t) tv gv
set_option maxHeartbeats 2000000 in
/-- A node is given back, and others are left. -/
theorem step_give (hs : Sound t n zs) (hl : L.length ≤ 1000) (hL : ∀ x ∈ L, 1 ≤ x ∧ x ≤ n) (hf : Full W w X Y C t n zs) (hg : ∀ w1, Below w.heap.size w w1 → Gets W X Y C t n zs L ws j w1) (hj : j + 1 < (untold ws L).length) :
    Calls Try.prog 22 #[.pointer (some ⟨C, 0, none⟩), .pointer (some ⟨X, 0, none⟩)] w fun e w' => e = .returned (.bool false) ∧ ∃ D, Giving W X Y C t n (upLife n zs ((untold ws L).getD j 0)) L ws (j + 1) D w' := by
  obtain ⟨k, f, nv, tv, gv, hsc⟩ := hf
  have HS := Lib.hid hs
  have H0 := Lib.hid hsc
  have HG := Lib.hid hg
  have HL : Hid (L.length ≤ 1000 ∧ ∀ x ∈ L, 1 ≤ x ∧ x ≤ n) := Lib.hid ⟨hl, hL⟩
  have HJ := Lib.hid hj
  have d1 : decide (2 * t < 2 * t) = false := decide_eq_false (by omega)
  have d2 : decide (j + 1 = (untold ws L).length) = false := decide_eq_false (by omega)
  clear hs hsc hg hl hL hj
  go_enter Try.func22, Try.ntmps22
  go_wp2_with (first
    | (go_at_call 42; refine (gives HS.out HL.out.1 HL.out.2 H2.out (Nat.lt_of_succ_lt HJ.out)).mono ?_; rintro e w3 ⟨rfl, hgn⟩; rw [d2]; have H3 := Lib.hid hgn; clear hgn)
    | (go_at_call 41; refine (HG.out _ B1.out).mono ?_; rintro e w2 ⟨D, rfl, hgv⟩; have H2 := Lib.hid hgv; clear hgv)
    | (go_at_call 38; refine (looks_any W _ X Y C t n _ zs _ _ _ _ _ HS.out H0.out).mono ?_; rintro e w1 ⟨rfl, hb⟩; rw [d1]; have B1 := Lib.hid hb; clear hb))
  go_returns
  exact ⟨rfl, D, H3.out.more HJ.out⟩
set_option maxHeartbeats 2000000 in
/-- The last node is given back. -/
theorem step_over (hs : Sound t n zs) (hl : L.length ≤ 1000) (hL : ∀ x ∈ L, 1 ≤ x ∧ x ≤ n) (hf : Full W w X Y C t n zs) (hg : ∀ w1, Below w.heap.size w w1 → Gets W X Y C t n zs L ws j w1) (hj : j + 1 = (untold ws L).length) :
    Calls Try.prog 22 #[.pointer (some ⟨C, 0, none⟩), .pointer (some ⟨X, 0, none⟩)] w fun e w' => e = .returned (.bool true) ∧ Over W X Y C t n (upLife n zs ((untold ws L).getD j 0)) L ws w' := by
  obtain ⟨k, f, nv, tv, gv, hsc⟩ := hf
  have HS := Lib.hid hs
  have H0 := Lib.hid hsc
  have HG := Lib.hid hg
  have n1 := hs.n1
  have HL : Hid (L.length ≤ 1000 ∧ ∀ x ∈ L, 1 ≤ x ∧ x ≤ n) := Lib.hid ⟨hl, hL⟩
  have HL2 : Hid (∀ x ∈ L, 0 ≤ x ∧ x ≤ 1000) := Lib.hid fun x hx => by have := hL x hx; omega
  have HJ : Hid (j < (untold ws L).length) := Lib.hid (by omega)
  have d1 : decide (2 * t < 2 * t) = false := decide_eq_false (by omega)
  have d2 : decide (j + 1 = (untold ws L).length) = true := decide_eq_true hj
  clear hs hsc hg hl hL hj
  go_enter Try.func22, Try.ntmps22
  go_wp2_with (first
    | (go_at_call 43; refine (end_any K3.out.1 K3.out.2 (nums_now HI.out K3.out.1 HN.out) HL.out.1 HL2.out).mono ?_; rintro e w5 ⟨rfl, hd⟩; have H5 := Lib.hid hd; clear hd)
    | (go_at_call 42; refine (gives HS.out HL.out.1 HL.out.2 H2.out HJ.out).mono ?_; rintro e w3 ⟨rfl, ⟨⟨nv3, r3, hi3, hsc3, hn3, hc3⟩, _⟩⟩; rw [d2]; have HI := Lib.hid hi3; have HN := Lib.hid hn3; have K3 := Lib.hid (And.intro hsc3 hc3); clear hi3 hsc3 hn3 hc3)
    | (go_at_call 41; refine (HG.out _ B1.out).mono ?_; rintro e w2 ⟨D, rfl, hgv⟩; have H2 := Lib.hid hgv; clear hgv)
    | (go_at_call 38; refine (looks_any W _ X Y C t n _ zs _ _ _ _ _ HS.out H0.out).mono ?_; rintro e w1 ⟨rfl, hb⟩; rw [d1]; have B1 := Lib.hid hb; clear hb))
  go_returns
  exact ⟨rfl, _, H5.out⟩
end
end Go.Proofs.Ytnphnhafifaaoaa.guard
