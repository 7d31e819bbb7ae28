/- A search in the heap: its calls, which must stand, which of them are Takes, what must stand ahead of each, what led nowhere; which calls can be next. -/
import Derived.Test.YtmpilokgbblonaaGreatKa14
import Derived.Test.YtmpilokgbblonaaGreatKa15
import Derived.BigQuiet
import Derived.StillTailTactics
namespace Go.Proofs.YtmpilokgbblonaaGreat.lin
open Go.RowKit Go.Maps
open hist (ClV befB past new_block Went At cells9 len9 Blk9)
open spec (Rw Row)

/-- Where a search has what. -/
structure SP where
  X : Nat
  D : Nat
  R : Nat
  ga : Nat
  c9 : Nat
  A9 : Option Addr
  mu : Nat
  tk : Nat
  am : List Nat
  sh : Int
/-- All in blocks of their own. -/
structure Apart (t : SP) : Prop where
  xd : t.X ≠ t.D
  xr : t.X ≠ t.R
  gd : t.ga ≠ t.D
  gr : t.ga ≠ t.R
  dr : t.D ≠ t.R
  ad : ∀ b, t.A9 = some b → b.block ≠ t.D
  ar : ∀ b, t.A9 = some b → b.block ≠ t.R
def lineU (am : List Nat) : List Value := am.map fun (a : Nat) => Value.int .u32 (a : Int)
structure Srch (w : World) (t : SP) (L : List ClV) : Prop where
  box : Line1 w t.X 112 [.slice t.A9 (keptL t.sh L).length t.c9, .int .u32 (t.mu : Int), .int .u32 (t.tk : Int), .slice (some ⟨t.ga, 0, none⟩) L.length L.length, .map (some t.D), .map (some t.R)]
  row : Line1 w t.ga 79 (lineU t.am)
  calls : At cellsI 9 w t.A9 (keptL t.sh L)
  len : t.am.length = L.length
/-- All groups have room. -/
structure Small (t : SP) (L : List ClV) : Prop where
  n24 : L.length ≤ 24
  mu : t.mu < 4294967296
  tk : t.tk < 4294967296
  am : ∀ i, t.am.getD i 0 < 4294967296
section
variable {w w' : World} {t : SP} {L : List ClV}
/-- What a search writes into. -/
def fS (t : SP) (b : Nat) : Prop := b = t.D ∨ b = t.R
theorem Srch.moved (h : Srch w t L) (ha : Apart t) (hb : ∀ b, b < w.heap.size → ¬ fS t b → w'.heap[b]? = w.heap[b]?) : Srch w' t L :=
  ⟨h.box.moved (hb _ h.box.lt (fun e => e.elim ha.xd ha.xr)), h.row.moved (hb _ h.row.lt (fun e => e.elim ha.gd ha.gr)), h.calls.moved fun b hb1 hl => hb _ hl (fun e => e.elim (ha.ad b hb1) (ha.ar b hb1)), h.len⟩
theorem Srch.below (h : Srch w t L) (hb : Below w.heap.size w w') : Srch w' t L :=
  ⟨h.box.below hb, h.row.below hb, h.calls.later hb, h.len⟩
theorem Srch.cs (h : Srch w t L) : w.cell? ⟨t.X, 0, none⟩ = some (.slice t.A9 (keptL t.sh L).length t.c9) ∧ w.cell? ⟨t.X, 1, none⟩ = some (.int .u32 (t.mu : Int)) ∧ w.cell? ⟨t.X, 2, none⟩ = some (.int .u32 (t.tk : Int)) ∧ w.cell? ⟨t.X, 3, none⟩ = some (.slice (some ⟨t.ga, 0, none⟩) L.length L.length) ∧ w.cell? ⟨t.X, 4, none⟩ = some (.map (some t.D)) ∧ w.cell? ⟨t.X, 5, none⟩ = some (.map (some t.R)) :=
  ⟨h.box.cell 0, h.box.cell 1, h.box.cell 2, h.box.cell 3, h.box.cell 4, h.box.cell 5⟩
theorem Srch.am (h : Srch w t L) {i : Nat} (hi : i < L.length) : w.cell? ⟨t.ga, i, none⟩ = some (.int .u32 (t.am.getD i 0 : Nat)) := by
  rw [h.row.cell]
  unfold lineU
  rw [List.getElem?_map, List.getElem?_eq_getElem (by rw [h.len]; exact hi), List.getD_eq_getElem?_getD, List.getElem?_eq_getElem (by rw [h.len]; exact hi)]
  rfl
end
/-- Can a call be next, whatever it is told? -/
def freeB (t : SP) (L : List ClV) (g i : Nat) : Bool := mayAt t.sh L i && (!g.testBit i && coversB g (t.am.getD i 0))

set_option maxHeartbeats 1000000 in
theorem free_any (w : World) (t : SP) (L : List ClV) (h : Srch w t L) (hs : Small t L) (i g : Nat) (hi : mayAt t.sh L i = true) (hg : g < 4294967296) :
    Calls Tryz.prog 54 #[.pointer (some ⟨t.X, 0, none⟩), .int .i64 (i : Int), .int .u32 (g : Int)] w fun e w' => e = .returned (.bool (freeB t L g i)) ∧ Below w.heap.size w w' := by
  have hil0 := may_at_lt hi
  obtain ⟨s0, s1, s2, s3, s4, s5⟩ := h.cs
  have sa := h.am hil0
  have HS := Lib.hid hs
  have hi32 : i < 32 := by have := hs.n24; omega
  have h32 := Lib.hid hi32
  unfold freeB
  rw [hi, Bool.true_and]
  have hil : (i : Int) < (L.length : Int) := by omega
  have HA := Lib.hid (hs.am i)
  have HG := Lib.hid hg
  generalize t.am.getD i 0 = a at *
  clear h hs hi
  generalize L.length = n at *
  cases hbit : g.testBit i
  · have HB := Lib.hid hbit
    clear hbit
    go_enter Tryz.func54, Tryz.ntmps54
    go_wp2_with (first
      | (go_at_call 51; have _t := B2.out; go_loud (refine (covers_any _ g a HG.out HA.out).mono ?_; rintro e w3 ⟨rfl, hw⟩; subst hw))
      | (go_at_call 67; go_loud (refine (has_any _ g i HG.out h32.out).mono ?_; rintro e w1 ⟨rfl, hw⟩; subst hw; rw [HB.out]; have B2 := Lib.hid (Eq.refl 0))))
    go_returns
    exact ⟨rfl, Below.refl _ _⟩
  · have HB := Lib.hid hbit
    clear hbit
    go_enter Tryz.func54, Tryz.ntmps54
    go_wp2_with (go_at_call 67; go_loud (refine (has_any _ g i HG.out h32.out).mono ?_; rintro e w1 ⟨rfl, hw⟩; subst hw; rw [HB.out]))
    go_returns
    exact ⟨rfl, Below.refl _ _⟩

theorem has_still (w : World) (g i : Nat) (hg : g < 4294967296) (hi : i < 32) (b : Bool) (hb : g.testBit i = b) :
    Calls Tryz.prog 67 #[.int .u32 (g : Int), .int .i64 (i : Int)] w fun e w' => e = .returned (.bool b) ∧ Below w.heap.size w w' :=
  (has_any w g i hg hi).mono fun e w' ⟨h1, h2⟩ => ⟨by rw [h1, hb], by rw [← h2]; exact Below.refl _ _⟩
theorem covers_still (w : World) (g x : Nat) (hg : g < 4294967296) (hx : x < 4294967296) (b : Bool) (hb : coversB g x = b) :
    Calls Tryz.prog 51 #[.int .u32 (g : Int), .int .u32 (x : Int)] w fun e w' => e = .returned (.bool b) ∧ Below w.heap.size w w' :=
  (covers_any w g x hg hx).mono fun e w' ⟨h1, h2⟩ => ⟨by rw [h1, hb], by rw [← h2]; exact Below.refl _ _⟩
theorem with_still (w : World) (g i : Nat) (hg : g < 4294967296) (hi : i < 32) :
    Calls Tryz.prog 56 #[.int .u32 (g : Int), .int .i64 (i : Int)] w fun e w' => e = .returned (.int .u32 (withG g i : Nat)) ∧ w' = w :=
  (with_any w g i hg hi).mono fun _ _ ⟨h1, h2⟩ => ⟨h1, h2.symm⟩
/-- Ahead of a look at a call: what is read of the search, and the call's own block. -/
structure Sq (W w : World) (t : SP) (L : List ClV) (k : Nat) (d : ClV) : Prop where
  below : Below W.heap.size W w
  blk : Blk9 w W.heap.size k d
  srch : Srch w t L
theorem Sq.next {W w w' : World} {t : SP} {L : List ClV} {k : Nat} {d : ClV} (h : Sq W w t L k d) (hb : Below w.heap.size w w') : Sq W w' t L k d := ⟨past h.below hb, h.blk.below hb, h.srch.below hb⟩
theorem cells12 {w : World} {t : SP} {L : List ClV} {B k n a : Nat} {c : ClV} (h : Blk9 w B k c) (hs : Srch w t L) (hk : k < L.length) (hn : n = L.length) (ha : t.am.getD k 0 = a) : w.cell? ⟨B, 0, none⟩ = some (.int .i64 c.B) ∧ w.cell? ⟨B, 1, none⟩ = some (.int .i64 c.D) ∧ w.cell? ⟨B, 2, none⟩ = some (.int .i64 (k : Int)) ∧ w.cell? ⟨B, 3, none⟩ = some (.int .i64 c.T) ∧ w.cell? ⟨B, 4, none⟩ = some (.int .i64 c.K)
    ∧ w.cell? ⟨B, 5, none⟩ = some (.int .i64 c.Y) ∧ w.cell? ⟨B, 6, none⟩ = some (.int .i64 c.C) ∧ w.cell? ⟨B, 7, none⟩ = some (.bool c.O) ∧ w.cell? ⟨B, 8, none⟩ = some (.int .i64 c.V) ∧ w.cell? ⟨t.X, 2, none⟩ = some (.int .u32 (t.tk : Int)) ∧ w.cell? ⟨t.X, 3, none⟩ = some (.slice (some ⟨t.ga, 0, none⟩) n n) ∧ w.cell? ⟨t.ga, k, none⟩ = some (.int .u32 (a : Int)) := by
  obtain ⟨q0, q1, q2, q3, q4, q5, q6, q7, q8⟩ := h.cells
  obtain ⟨s0, s1, s2, s3, s4, s5⟩ := hs.cs
  subst hn
  subst ha
  exact ⟨q0, q1, q2, q3, q4, q5, q6, q7, q8, s2, s3, hs.am hk⟩
end Go.Proofs.YtmpilokgbblonaaGreat.lin
