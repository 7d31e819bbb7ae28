/- Some machines that take nodes, their blocks; the law's own step of one of them. -/
import Derived.Test.YtglkpajnhdamkaaLRaceP
import Derived.Test.YtglkpajnhdamkaaLAwake
import Derived.Test.YtglkpajnhdamkaaMTake
import Derived.Deep.RegionHeld3
namespace Go.Proofs.Ytglkpajnhdamkaa.life
open Go.RowKit mem

theorem step_pure {w : World} {X Y C : Nat} {t n : Int} {zs : List Int} {a : Al} (hs : Sound t n zs) (hm : MemS w X Y t n zs) (hb : Box w C (alCells t n a) 39) (cx : C ≠ X) (cy : C ≠ Y) (h0 : 1 ≤ a.node) (h1 : a.node ≤ n) (l0 : 0 < a.left) (l1 : a.left ≤ n) :
    Calls Try.prog 19 #[.pointer (some ⟨C, 0, none⟩), .pointer (some ⟨X, 0, none⟩)] w fun e w' => e = .returned (.bool (stepAl n zs a).2.2) ∧ Did w X Y C t n (stepAl n zs a).1 (stepAl n zs a).2.1 w' := by
  obtain ⟨got, node, left, free, life⟩ := a
  have n1 := hs.n1
  have h0 : 1 ≤ node := h0
  have h1 : node ≤ n := h1
  have l0 : 0 < left := l0
  have l1 : left ≤ n := l1
  unfold stepAl
  cases free
  · cases ht : takenB n zs node
    · rw [if_neg (by simp), if_neg (by simp)]
      exact step_even hm hb cx cy h0 h1 (by omega) l0 (lifeIn n zs node) (hs.word _).1 rfl ht
    · rw [if_neg (by simp), if_pos rfl]
      exact step_odd hm hb cx cy h0 h1 (by omega) l0 (by omega) (lifeIn n zs node) (hs.word _).1 rfl ht
  · by_cases hl : lifeIn n zs node = life
    · rw [if_pos rfl, if_pos (show lifeIn n zs node = life from hl)]
      exact step_hit hm hb cx cy h0 h1 (by omega) l0 (hs.inLife h0 h1) hl
    · rw [if_pos rfl, if_neg (show ¬ lifeIn n zs node = life from hl)]
      exact step_miss hm hb cx cy h0 h1 (by omega) l0 (by omega) hl

/-- Blocks of unlike types are unlike. -/
theorem unlikeT {w : World} {a b : Nat} {cs ds : Array Value} {T U : TypeId} {f g : Nat × Nat} (h : w.heap[a]? = some (.cells cs T f)) (k : w.heap[b]? = some (.cells ds U g)) (hT : T ≠ U) : a ≠ b := by
  rintro rfl
  rw [h] at k
  apply hT
  injection k with k
  injection k
theorem _root_.Go.Proofs.Ytglkpajnhdamkaa.mem.MemS.typeX {w : World} {X Y : Nat} {t n : Int} {zs : List Int} (h : MemS w X Y t n zs) : ∃ cs, w.heap[X]? = some (.cells cs 63 (0, 0)) := by
  obtain ⟨k, l, h⟩ := h
  obtain ⟨c, h⟩ := h.head
  exact ⟨_, h⟩
theorem _root_.Go.Proofs.Ytglkpajnhdamkaa.mem.MemS.typeY {w : World} {X Y : Nat} {t n : Int} {zs : List Int} (h : MemS w X Y t n zs) : ∃ cs, w.heap[Y]? = some (.cells cs 30 (0, 0)) := by
  obtain ⟨k, l, h⟩ := h
  obtain ⟨c, h⟩ := h.body
  exact ⟨_, h⟩

abbrev ptr (c : Nat) : Value := .pointer (some ⟨c, 0, none⟩)
/-- The blocks of the race. -/
structure Pl where
  X : Nat
  Y : Nat
  bm : Nat
  bl : Nat
  br : Nat
  bd : Nat
  gr : Nat
  gd : Nat
  rc : Nat
  dc : Nat
  C : Nat → Nat
/-- What the law's walk carries. -/
structure Race (W w : World) (p : Pl) (n : Int) (zs : List Int) (M : Nat) (A : Nat → Al) (lo : Nat) (fa : Option Addr) (FL : List Int) : Prop where
  m : Box w p.bm #[ptr p.X] 24
  lay : Box w p.bl (layCells 1 n) 26
  run : Box w p.br #[.slice (some ⟨p.gr, 0, none⟩) M p.rc] 46
  done : Box w p.bd #[.slice (some ⟨p.gd, 0, none⟩) M p.dc] 47
  row : ∃ cur, Box w p.gr cur 33 ∧ ∀ k, k < M → cur[k]? = some (ptr (p.C k))
  flags : ∃ cur, Box w p.gd cur 4 ∧ ∀ k, k < M → cur[k]? = some (.bool ((A k).left == 0))
  boxes : ∀ k, k < M → Box w (p.C k) (alCells 1 n (A k)) 39
  mem : MemS w p.X p.Y 1 n zs
  fl : ListAt w lo fa FL
  below : Below W.heap.size W w
  inj : ∀ i j, i < M → j < M → i ≠ j → p.C i ≠ p.C j
  x0 : W.heap.size ≤ p.X
  y0 : W.heap.size ≤ p.Y
  g0 : W.heap.size ≤ p.gd
  c0 : ∀ k, k < M → W.heap.size ≤ p.C k
section
variable {W w w1 : World} {p : Pl} {n : Int} {zs ys : List Int} {M : Nat} {A : Nat → Al} {lo : Nat} {fa : Option Addr} {FL : List Int}
/-- Whatever keeps all blocks of cells keeps the race. -/
theorem Race.same (h : Race W w p n zs M A lo fa FL) (hk : ∀ (b : Nat) (cs : Array Value) (T : TypeId), w.heap[b]? = some (Obj.cells cs T (0, 0)) → w1.heap[b]? = w.heap[b]?) (hb : Below W.heap.size W w1) : Race W w1 p n zs M A lo fa FL := by
  obtain ⟨cr, hr1, hr2⟩ := h.row
  obtain ⟨cf, hf1, hf2⟩ := h.flags
  obtain ⟨cx, hx⟩ := h.mem.typeX
  obtain ⟨cy, hy⟩ := h.mem.typeY
  refine ⟨(hk _ _ _ h.m).trans h.m, (hk _ _ _ h.lay).trans h.lay, (hk _ _ _ h.run).trans h.run, (hk _ _ _ h.done).trans h.done, ⟨cr, (hk _ _ _ hr1).trans hr1, hr2⟩, ⟨cf, (hk _ _ _ hf1).trans hf1, hf2⟩, fun k hkM => (hk _ _ _ (h.boxes k hkM)).trans (h.boxes k hkM), h.mem.moved (hk _ _ _ hx) (hk _ _ _ hy), ?_, hb, h.inj, h.x0, h.y0, h.g0, h.c0⟩
  rcases h.fl with hl | ⟨g, h1, h2, ex, h3⟩
  · exact Or.inl hl
  · exact Or.inr ⟨g, h1, h2, ex, (hk _ _ _ h3).trans h3⟩
theorem Race.next (h : Race W w p n zs M A lo fa FL) (hb : Below w.heap.size w w1) : Race W w1 p n zs M A lo fa FL := h.same (fun b _ _ hh => hb.block b (Array.getElem?_eq_some_iff.1 hh).1) (past h.below hb)
theorem Race.drew (h : Race W w p n zs M A lo fa FL) : Race W w.drew p n zs M A lo fa FL := h.next ((Below.refl _ _).drew)
/-- An entry is made in a map. -/
theorem Race.entry {r : Nat} {c : Nat} {f : Int → Bool} (h : Race W w p n zs M A lo fa FL) (hs : Seen w r c f) (hr : W.heap.size ≤ r) (hg : w.grownBy w1 (some r)) : Race W w1 p n zs M A lo fa FL := by
  refine h.same (fun b cs T hh => hg.block b (Array.getElem?_eq_some_iff.1 hh).1 (fun e => ?_)) (h.below.grown hg h.below.size (fun k hk => by obtain rfl := Option.some.inj hk; exact hr))
  obtain rfl := Option.some.inj e
  obtain ⟨D, ⟨es, clock, h1, _⟩, _⟩ := hs
  rw [h1] at hh
  injection hh with hh
  cases hh
/-- A machine has done a step, and whether it has ended is noted. -/
theorem Race.step {k : Nat} {a : Al} (h : Race W w p n zs M A lo fa FL) (hk : k < M) (hd : Did w p.X p.Y (p.C k) 1 n ys a w1) :
    Race W (w1.setCell ⟨p.gd, k, none⟩ (.bool (a.left == 0))) p n ys M (upd A k a) lo fa FL := by
  obtain ⟨cr, hr1, hr2⟩ := h.row
  obtain ⟨cf, hf1, hf2⟩ := h.flags
  obtain ⟨cx, hx⟩ := h.mem.typeX
  obtain ⟨cy, hy⟩ := h.mem.typeY
  have hC := h.boxes k hk
  -- other types than the memory's, the machine's and the flags' are kept
  have key : ∀ {b : Nat} {cs : Array Value} {T : TypeId}, Box w b cs T → T ≠ 63 → T ≠ 30 → T ≠ 4 → b ≠ p.C k → Box (w1.setCell ⟨p.gd, k, none⟩ (.bool (a.left == 0))) b cs T := by
    intro b cs T hb h1 h2 h3 h4
    have e := hd.apart.block b hb.lt (unlikeT hb hx h1) (unlikeT hb hy h2) h4
    exact Box.other (e.trans hb) (unlikeT hb hf1 h3) _ _
  have hfl : Box w1 p.gd cf 4 := (hd.apart.block p.gd hf1.lt (unlikeT hf1 hx (by decide)) (unlikeT hf1 hy (by decide)) (unlikeT hf1 hC (by decide))).trans hf1
  have hgX : p.gd ≠ p.X := unlikeT hf1 hx (by decide)
  have hgY : p.gd ≠ p.Y := unlikeT hf1 hy (by decide)
  refine ⟨key h.m (by decide) (by decide) (by decide) (unlikeT h.m hC (by decide)), key h.lay (by decide) (by decide) (by decide) (unlikeT h.lay hC (by decide)), key h.run (by decide) (by decide) (by decide) (unlikeT h.run hC (by decide)), key h.done (by decide) (by decide) (by decide) (unlikeT h.done hC (by decide)), ⟨cr, key hr1 (by decide) (by decide) (by decide) (unlikeT hr1 hC (by decide)), hr2⟩, ⟨_, hfl.put k _, fun j hj => ?_⟩, fun j hj => ?_, hd.mem.other hgX hgY _ _, ?_, ?_, h.inj, h.x0, h.y0, h.g0, h.c0⟩
  · by_cases hjk : j = k
    · rw [hjk, upd_same]
      have hlt : k < cf.size := (Array.getElem?_eq_some_iff.1 (hf2 k hk)).1
      simp [hlt]
    · rw [upd_other A a hjk, Array.getElem?_setIfInBounds_ne (Ne.symm hjk)]
      exact hf2 j hj
  · by_cases hjk : j = k
    · rw [hjk, upd_same]
      exact Box.other hd.box (unlikeT hC hf1 (by decide)) _ _
    · rw [upd_other A a hjk]
      exact key (h.boxes j hj) (by decide) (by decide) (by decide) (h.inj j k hj hk hjk)
  · rcases h.fl with hl | ⟨g, h1, h2, ex, h3⟩
    · exact Or.inl hl
    · exact Or.inr ⟨g, h1, h2, ex, key h3 (by decide) (by decide) (by decide) (unlikeT h3 hC (by decide))⟩
  · exact (hd.apart.below h.below h.below.size h.x0 h.y0 (h.c0 k hk)).setCell h.g0 _
/-- What is read behind a machine's step, ahead of the note. -/
theorem Race.after {k : Nat} {a : Al} (h : Race W w p n zs M A lo fa FL) (hk : k < M) (hd : Did w p.X p.Y (p.C k) 1 n ys a w1) :
    (w1.cell? ⟨p.bd, 0, none⟩ = some (.slice (some ⟨p.gd, 0, none⟩) M p.dc) ∧ w1.cell? ⟨p.br, 0, none⟩ = some (.slice (some ⟨p.gr, 0, none⟩) M p.rc) ∧ w1.cell? ⟨p.gr, k, none⟩ = some (ptr (p.C k)) ∧ w1.cell? ⟨p.bm, 0, none⟩ = some (ptr p.X)) ∧ w1.cell? ⟨p.gd, k, none⟩ = some (.bool ((A k).left == 0)) ∧ (∀ i, w1.frozen? ⟨p.gd, i, none⟩ = false) := by
  obtain ⟨cr, hr1, hr2⟩ := h.row
  obtain ⟨cf, hf1, hf2⟩ := h.flags
  obtain ⟨cx, hx⟩ := h.mem.typeX
  obtain ⟨cy, hy⟩ := h.mem.typeY
  have hC := h.boxes k hk
  have key : ∀ {b : Nat} {cs : Array Value} {T : TypeId}, Box w b cs T → T ≠ 63 → T ≠ 30 → T ≠ 39 → Box w1 b cs T := by
    intro b cs T hb h1 h2 h4
    exact (hd.apart.block b hb.lt (unlikeT hb hx h1) (unlikeT hb hy h2) (unlikeT hb hC h4)).trans hb
  have hg := key hf1 (by decide) (by decide) (by decide)
  exact ⟨⟨(key h.done (by decide) (by decide) (by decide)).at 0 rfl, (key h.run (by decide) (by decide) (by decide)).at 0 rfl, (key hr1 (by decide) (by decide) (by decide)).at k (hr2 k hk), (key h.m (by decide) (by decide) (by decide)).at 0 rfl⟩, hg.at k (hf2 k hk), hg.free⟩
/-- What a step of the law reads. -/
theorem Race.reads (h : Race W w p n zs M A lo fa FL) {k : Nat} (hk : k < M) :
    w.cell? ⟨p.bm, 0, none⟩ = some (ptr p.X) ∧ w.cell? ⟨p.br, 0, none⟩ = some (.slice (some ⟨p.gr, 0, none⟩) M p.rc) ∧ w.cell? ⟨p.bd, 0, none⟩ = some (.slice (some ⟨p.gd, 0, none⟩) M p.dc) ∧ w.cell? ⟨p.gr, k, none⟩ = some (ptr (p.C k)) ∧ w.cell? ⟨p.gd, k, none⟩ = some (.bool ((A k).left == 0)) ∧ (∀ i, w.frozen? ⟨p.gd, i, none⟩ = false) := by
  obtain ⟨cr, hr1, hr2⟩ := h.row
  obtain ⟨cf, hf1, hf2⟩ := h.flags
  exact ⟨h.m.at 0 rfl, h.run.at 0 rfl, h.done.at 0 rfl, hr1.at k (hr2 k hk), hf1.at k (hf2 k hk), hf1.free⟩
end

/-- A step of the law: of a machine that hasn't ended. -/
def nextZs (n : Int) (zs : List Int) (a : Al) : List Int := if a.left = 0 then zs else (stepAl n zs a).1
def nextAl (n : Int) (zs : List Int) (a : Al) : Al := if a.left = 0 then a else (stepAl n zs a).2.1
theorem upd_id (A : Nat → Al) (k : Nat) : upd A k (A k) = A := by
  funext j
  by_cases h : j = k
  · rw [h, upd_same]
  · rw [upd_other A _ h]
section
variable {W w : World} {p : Pl} {n : Int} {zs zs0 : List Int} {M : Nat} {A : Nat → Al} {lo : Nat} {fa : Option Addr} {FL : List Int}
set_option maxHeartbeats 1000000 in
theorem clo_step (h : Race W w p n zs M A lo fa FL) (ok : RaceOk n zs0 zs M A) (k : Nat) (hk : k < M) (_hM : M ≤ 8) :
    Calls Try.prog 18 #[.int .i64 k, ptr p.bd, ptr p.br, ptr p.bm] w fun e w' => e = .returned (.tuple #[]) ∧ Race W w' p n (nextZs n zs (A k)) M (upd A k (nextAl n zs (A k))) lo fa FL := by
  obtain ⟨c1, c2, c3, c4, c5, f⟩ := h.reads hk
  have okk := ok.each k hk
  have k0 : (0 : Int) ≤ (k : Int) := by omega
  have k1 : (k : Int) < (M : Int) := by omega
  have H := Lib.hid h
  by_cases hl : (A k).left = 0
  · have hq : ((A k).left == 0) = true := by simp [hl]
    rw [hq] at c5
    have HL := Lib.hid hl
    clear h hl hq okk
    go_enter Try.func18, Try.ntmps18
    go_wp2
    go_returns
    unfold nextZs nextAl
    rw [if_pos HL.out, if_pos HL.out, upd_id]
    exact ⟨rfl, H.out⟩
  · have hq : ((A k).left == 0) = false := by simpa using hl
    rw [hq] at c5
    have HL := Lib.hid hl
    have hpos : 0 < (A k).left := by have := okk.left0; omega
    have HP := Lib.hid hpos
    have HF := Lib.hid (stepAl_flag n zs (A k) hpos)
    have HO := Lib.hid okk
    have HS := Lib.hid ok.s
    have HD : Hid (p.C k ≠ p.X ∧ p.C k ≠ p.Y) := by
      obtain ⟨cx, hx⟩ := h.mem.typeX
      obtain ⟨cy, hy⟩ := h.mem.typeY
      exact ⟨unlikeT (h.boxes k hk) hx (by decide), unlikeT (h.boxes k hk) hy (by decide)⟩
    clear h hl hq okk ok hpos
    go_enter Try.func18, Try.ntmps18
    go_wp2
    go_region_held3 (fun wx => wx.cell? ⟨p.bd, 0, none⟩ = some (.slice (some ⟨p.gd, 0, none⟩) M p.dc) ∧ wx.cell? ⟨p.br, 0, none⟩ = some (.slice (some ⟨p.gr, 0, none⟩) M p.rc) ∧ wx.cell? ⟨p.gr, k, none⟩ = some (ptr (p.C k)) ∧ wx.cell? ⟨p.bm, 0, none⟩ = some (ptr p.X)) (first | go_keep | exact R9.out.1 | exact ⟨(R8.out.reads hk).2.2.1, (R8.out.reads hk).2.1, (R8.out.reads hk).2.2.2.1, (R8.out.reads hk).1⟩) (first
      | (go_at_call 19; refine (step_pure HS.out H.out.drew.mem (H.out.drew.boxes k hk) HD.out.1 HD.out.2 HO.out.node0 HO.out.node1 HP.out HO.out.left1).mono ?_; rintro e w1 ⟨rfl, hd⟩; rw [HF.out]; have R8 := Lib.hid (H.out.drew.step hk hd); have R9 := Lib.hid (H.out.drew.after hk hd); clear hd; obtain ⟨⟨g1, g2, g3, g4⟩, g5, g6⟩ := R9.out))
    all_goals
      go_wp2
      go_returns
      unfold nextZs nextAl
      rw [if_neg HL.out, if_neg HL.out]
      exact ⟨rfl, R8.out⟩
end
end Go.Proofs.Ytglkpajnhdamkaa.life
