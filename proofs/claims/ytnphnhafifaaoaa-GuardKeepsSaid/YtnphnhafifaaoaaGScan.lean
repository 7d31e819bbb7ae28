/- A machine that scans: its cells, how it is made, how it looks into a slot. -/
import Derived.Test.YtnphnhafifaaoaaGCut
import Derived.Deep.RegionHeld3
namespace Go.Proofs.Ytnphnhafifaaoaa.guard
open Go.RowKit mem life

/-- Its eight cells. -/
abbrev scCells (t n : Int) (k f nv : Value) (s : Int) (tv gv : Value) : Array Value := #[.int .i64 t, .int .i64 n, k, f, nv, .int .i64 s, tv, gv]
structure Row8 (w : World) (C : Nat) (t n : Int) (k f nv : Value) (s : Int) (tv gv : Value) : Prop where
  c0 : w.cell? ⟨C, 0, none⟩ = some (.int .i64 t)
  c1 : w.cell? ⟨C, 1, none⟩ = some (.int .i64 n)
  c2 : w.cell? ⟨C, 2, none⟩ = some k
  c3 : w.cell? ⟨C, 3, none⟩ = some f
  c4 : w.cell? ⟨C, 4, none⟩ = some nv
  c5 : w.cell? ⟨C, 5, none⟩ = some (.int .i64 s)
  c6 : w.cell? ⟨C, 6, none⟩ = some tv
  c7 : w.cell? ⟨C, 7, none⟩ = some gv
  f : ∀ i, w.frozen? ⟨C, i, none⟩ = false
theorem row8 {w : World} {C : Nat} {t n s : Int} {k f nv tv gv : Value} (h : Box w C (scCells t n k f nv s tv gv) 49) : Row8 w C t n k f nv s tv gv :=
  ⟨h.at 0 rfl, h.at 1 rfl, h.at 2 rfl, h.at 3 rfl, h.at 4 rfl, h.at 5 rfl, h.at 6 rfl, h.at 7 rfl, h.free⟩
theorem unlikeT {w : World} {a b : Nat} {cs ds : Array Value} {T U : TypeId} {f g : Nat × Nat} (h : w.heap[a]? = some (.cells cs T f)) (k : w.heap[b]? = some (.cells ds U g)) (hT : T ≠ U) : a ≠ b := by
  intro e
  subst e
  rw [h] at k
  cases k
  exact hT rfl
/-- A memory's blocks are of other types than these. -/
theorem MemS_unlike {w : World} {X Y b : Nat} {t n : Int} {zs : List Int} {cs : Array Value} {T : TypeId} (hm : MemS w X Y t n zs) (h : w.heap[b]? = some (.cells cs T (0, 0))) (h1 : T ≠ 68) (h2 : T ≠ 25) : b ≠ X ∧ b ≠ Y := by
  obtain ⟨k, l, hm⟩ := hm
  obtain ⟨c, hx⟩ := hm.head
  obtain ⟨ex, hy⟩ := hm.body
  exact ⟨unlikeT h hx h1, unlikeT h hy h2⟩
/-- Some numbers: nil, or a row. -/
def Nums (w : World) (lo : Nat) (v : Value) (L : List Int) : Prop := (L = [] ∧ v = .slice none 0 0) ∨ (0 < L.length ∧ ∃ g c, v = .slice (some ⟨g, 0, none⟩) L.length c ∧ lo ≤ g ∧ IntRow w g L ∧ L.length ≤ c ∧ c ≤ maxLen)
theorem Nums.moved {w w' : World} {lo : Nat} {v : Value} {L : List Int} (h : Nums w lo v L) (hb : ∀ g cs, lo ≤ g → w.heap[g]? = some (.cells cs 3 (0, 0)) → w'.heap[g]? = w.heap[g]?) : Nums w' lo v L := by
  rcases h with h | ⟨h0, g, c, h1, h2, ⟨ex, h3⟩, h4, h5⟩
  · exact Or.inl h
  · exact Or.inr ⟨h0, g, c, h1, h2, ⟨ex, (hb g _ h2 h3).trans h3⟩, h4, h5⟩
theorem Nums.below {w w' : World} {lo : Nat} {v : Value} {L : List Int} (h : Nums w lo v L) (hb : Below w.heap.size w w') : Nums w' lo v L := h.moved fun g _ _ hg => hb.block g (Array.getElem?_eq_some_iff.1 hg).1

/-- What a machine's walk carries: a memory, the machine's block; nothing else that was there when it was made has changed. -/
structure Sc (W w : World) (X Y C : Nat) (t n : Int) (zs : List Int) (k f nv : Value) (s : Int) (tv gv : Value) : Prop where
  mem : MemS w X Y t n zs
  box : Box w C (scCells t n k f nv s tv gv) 49
  apart : Apart3 X Y C W w
section
variable {W w w' : World} {X Y C : Nat} {t n s : Int} {zs zs' : List Int} {k f nv tv gv : Value}
theorem Sc.unlike (h : Sc W w X Y C t n zs k f nv s tv gv) : C ≠ X ∧ C ≠ Y := MemS_unlike h.mem h.box (by decide) (by decide)
theorem Sc.next (h : Sc W w X Y C t n zs k f nv s tv gv) (hb : Below w.heap.size w w') : Sc W w' X Y C t n zs k f nv s tv gv :=
  ⟨h.mem.below hb, h.box.below hb, h.apart.trans (Apart3.of (Apart.ofBelow hb))⟩
theorem Sc.drew (h : Sc W w X Y C t n zs k f nv s tv gv) : Sc W w.drew X Y C t n zs k f nv s tv gv := h.next ((Below.refl _ _).drew)
theorem Sc.alloc (h : Sc W w X Y C t n zs k f nv s tv gv) (o : Obj) : Sc W (w.alloc o) X Y C t n zs k f nv s tv gv := h.next ((Below.refl _ _).alloc (Nat.le_refl _) o)
theorem Sc.act (h : Sc W w X Y C t n zs k f nv s tv gv) (hm : MemS w' X Y t n zs') (ha : Apart X Y w w') : Sc W w' X Y C t n zs' k f nv s tv gv :=
  ⟨hm, h.box.apart ha h.unlike.1 h.unlike.2, h.apart.trans (Apart3.of ha)⟩
theorem Sc.put {k' f' nv' tv' gv' : Value} {s' : Int} (h : Sc W w X Y C t n zs k f nv s tv gv) (i : Nat) (v : Value) (hv : (scCells t n k f nv s tv gv).setIfInBounds i v = scCells t n k' f' nv' s' tv' gv') : Sc W (w.setCell ⟨C, i, none⟩ v) X Y C t n zs k' f' nv' s' tv' gv' :=
  ⟨h.mem.other h.unlike.1 h.unlike.2 i v, by rw [← hv]; exact h.box.put i v, h.apart.put i v⟩
/-- A block of later days is written. -/
theorem Sc.grown {r : Nat} (h : Sc W w X Y C t n zs k f nv s tv gv) (hg : w.grownBy w' (some r)) (hr : W.heap.size ≤ r) (rx : X ≠ r) (ry : Y ≠ r) (rc : C ≠ r) : Sc W w' X Y C t n zs k f nv s tv gv := by
  have kb : ∀ b, b < w.heap.size → b ≠ r → w'.heap[b]? = w.heap[b]? := fun b hb hr => hg.block b hb (fun e => hr (Option.some.inj e))
  refine ⟨h.mem.moved (kb X h.mem.ltX rx) (kb Y h.mem.ltY ry), (kb C h.box.lt rc).trans h.box, ?_⟩
  have a := h.apart
  exact ⟨hg.os.trans a.os, hg.tape.trans a.tape, hg.output.trans a.output, Nat.le_trans a.size hg.size, fun b hb hx hy hc => (kb b (Nat.lt_of_lt_of_le hb a.size) (by omega)).trans (a.block b hb hx hy hc)⟩
end

set_option maxHeartbeats 1000000 in
theorem looks_any (W w : World) (X Y C : Nat) (t n s : Int) (zs : List Int) (k f nv tv gv : Value) (hs : Sound t n zs) (h : Sc W w X Y C t n zs k f nv s tv gv) :
    Calls Try.prog 38 #[.pointer (some ⟨C, 0, none⟩)] w fun e w' => e = .returned (.bool (decide (s < 2 * t))) ∧ Below w.heap.size w w' := by
  obtain ⟨c0, c1, c2, c3, c4, c5, c6, c7, fz⟩ := row8 h.box
  have HS := Lib.hid hs
  have HB : Hid (Box w C (scCells t n k f nv s tv gv) 49) := Lib.hid h.box
  clear hs h c2 c3 c4 c6 c7
  go_enter Try.func38, Try.ntmps38
  go_wp2
  go_region_held3 (fun wx => wx.cell? ⟨C, 0, none⟩ = some (.int .i64 t) ∧ wx.cell? ⟨C, 1, none⟩ = some (.int .i64 n) ∧ wx.cell? ⟨C, 5, none⟩ = some (.int .i64 s)) (first | go_keep | exact ⟨B1.out.at 0 rfl, B1.out.at 1 rfl, B1.out.at 5 rfl⟩) (first
    | (go_at_call 30; refine (slots_yes _ HS.out).mono ?_; rintro e w1 ⟨rfl, hb1⟩; have B1 := Lib.hid (HB.out.drew.below hb1); have B2 : Hid (Below w.heap.size w w1) := Lib.hid (past ((Below.refl _ _).drew) hb1); clear hb1))
  all_goals
    go_wp2
    go_returns
    exact ⟨rfl, B2.out⟩
end Go.Proofs.Ytnphnhafifaaoaa.guard
