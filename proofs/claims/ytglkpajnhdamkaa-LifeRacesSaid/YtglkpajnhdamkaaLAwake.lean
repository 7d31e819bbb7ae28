/- What the laws' walks carry; the document's example. -/
import Derived.Test.YtglkpajnhdamkaaLMemory
namespace Go.Proofs.Ytglkpajnhdamkaa.life
open Go.RowKit mem

/-- A memory of the call's own, and its layout in a block. -/
structure Room (W w : World) (b X Y : Nat) (t n : Int) (zs : List Int) : Prop where
  lay : Box w b (layCells t n) 26
  mem : MemS w X Y t n zs
  below : Below W.heap.size W w
  b0 : W.heap.size ≤ b
  x0 : W.heap.size ≤ X
  y0 : W.heap.size ≤ Y
  bx : b ≠ X
  by' : b ≠ Y
section
variable {W w w' : World} {b X Y : Nat} {t n : Int} {zs ys : List Int}
theorem Room.next (h : Room W w b X Y t n zs) (hb : Below w.heap.size w w') : Room W w' b X Y t n zs := ⟨h.lay.below hb, h.mem.below hb, past h.below hb, h.b0, h.x0, h.y0, h.bx, h.by'⟩
theorem Room.alloc (h : Room W w b X Y t n zs) (o : Obj) : Room W (w.alloc o) b X Y t n zs := h.next ((Below.refl _ _).alloc (Nat.le_refl _) o)
theorem Room.drew (h : Room W w b X Y t n zs) : Room W w.drew b X Y t n zs := h.next ((Below.refl _ _).drew)
theorem Room.act (h : Room W w b X Y t n zs) (hm : MemS w' X Y t n ys) (ha : Apart X Y w w') : Room W w' b X Y t n ys :=
  ⟨h.lay.apart ha h.bx h.by', hm, ha.below h.below h.below.size h.x0 h.y0, h.b0, h.x0, h.y0, h.bx, h.by'⟩
theorem Room.did {C : Nat} {a : Al} (h : Room W w b X Y t n zs) (hd : Did w X Y C t n ys a w') (hc : W.heap.size ≤ C) (bc : b ≠ C) : Room W w' b X Y t n ys :=
  ⟨hd.apart.box h.lay h.bx h.by' bc, hd.mem, hd.apart.below h.below h.below.size h.x0 h.y0 hc, h.b0, h.x0, h.y0, h.bx, h.by'⟩
theorem Room.lt (h : Room W w b X Y t n zs) : b < w.heap.size ∧ X < w.heap.size ∧ Y < w.heap.size ∧ W.heap.size ≤ w.heap.size := ⟨h.lay.lt, h.mem.ltX, h.mem.ltY, h.below.size⟩
/-- A new memory, its layout laid in a new block. -/
theorem Room.made {w1 w2 : World} (hW : Below W.heap.size W w1) (hn : NewS w1 t n zs X Y w2) : Room W (w2.alloc (.cells (layCells t n) 26)) w2.heap.size X Y t n zs := by
  have h1 := hW.size
  have h2 := hn.below.size
  have h3 := hn.x
  have h4 := hn.y
  have h5 := hn.mem.ltX
  have h6 := hn.mem.ltY
  exact ⟨Box.new _ _ _, hn.mem.alloc _, (past hW hn.below).alloc (by omega) _, by omega, by omega, by omega, by omega, by omega⟩
end

section
variable {w : World} {X Y C : Nat} {t n a : Int} {zs : List Int} {g : Nat} {lf most : Int}
theorem run_hit' (hs : Sound t n zs) (a0 : 1 ≤ a) (a1 : a ≤ n) (cx : C ≠ X) (cy : C ≠ Y) (q : Nat) (hq : (q : Int) < n) (hodd : ∀ j : Nat, j < q → takenB n zs (nodeAt n a j) = true) (node steps x : Int) (hnode : node = nodeAt n a q) (hsteps : steps = (q : Int) + 2) (hx : x = lifeIn n zs node + 1) (hfree : takenB n zs node = false)
    (hm : MemS w X Y t n zs) (hb : Box w C (alCells t n ⟨0, a, n, false, lf⟩) 39) (hc : w.cell? ⟨g, 0, none⟩ = some (.iface 33 (.pointer (some ⟨C, 0, none⟩)))) (m0 : steps ≤ most) (m1 : most ≤ 100000) :
    Calls Try.prog 13 #[.pointer (some ⟨X, 0, none⟩), .int .i64 most, .slice (some ⟨g, 0, none⟩) 1 1] w fun e w' => e = .returned (.tuple #[.int .i64 steps, .bool true]) ∧ ∃ lf, Did w X Y C t n (putLife n zs node x) ⟨node, node, 0, true, lf⟩ w' := by
  subst hnode hsteps hx
  exact run_hit hs a0 a1 cx cy q hq hodd hfree hm hb hc m0 m1
end
theorem words_new (w : World) (x : Int) : Words (w.alloc (.cells #[.int .u64 x] 30)) (some ⟨w.heap.size, 0, none⟩) [x] := words_one _ _ x _ (Box.new w _ _)

theorem life_of {n : Int} {zs ws : List Int} (h : Lives n zs ws) (i : Int) (i0 : 1 ≤ i) (i1 : i ≤ n) : lifeIn n zs i = ws.getD (i - 1).toNat 0 := by
  have h := h (i - 1).toNat (by omega)
  rwa [show (((i - 1).toNat : Nat) : Int) + 1 = i by omega] at h
theorem taken_of {n : Int} {zs ws : List Int} (h : Lives n zs ws) (i : Int) (i0 : 1 ≤ i) (i1 : i ≤ n) : takenB n zs i = (ws.getD (i - 1).toNat 0 % 2 == 1) := by
  unfold takenB
  rw [life_of h i i0 i1]
set_option maxRecDepth 100000 in
set_option maxHeartbeats 4000000 in
theorem awake_any (w : World) :
    Calls Try.prog 7 #[] w fun e w' => e = .returned (.bool true) ∧ Below w.heap.size w w' := by
  go_enter Try.func7, Try.ntmps7
  go_wp2_with (first
    | (go_at_call 8; refine (memory_any _ 1 3 _ [1] 1 _ rfl (by omega) (by omega) (by omega) (by omega) (by omega) (words_new w 1) (by simp)).mono ?_; rintro e w1 ⟨X, Y, zs, rfl, hn, hs, hl⟩; have R0 : Hid (Room w (w1.alloc (.cells (layCells 1 3) 26)) w1.heap.size X Y 1 3 zs) := Lib.hid (Room.made ((Below.refl _ _).alloc (Nat.le_refl _) _) hn); have HS := Lib.hid hs; have HL := Lib.hid hl; clear hn hs hl)
    | (go_at_call 12; refine (new_in _ 1 3 1 (by omega) (by omega) (by omega) (by omega) (by omega) (by omega)).mono ?_; rintro e w2 ⟨C, rfl, ha⟩; have R1 := Lib.hid (R0.out.next ha.below); have HC : Hid (C ≠ X ∧ C ≠ Y ∧ w1.heap.size ≠ C ∧ w.heap.size ≤ C) := Lib.hid (by have h1 := R0.out.lt; have h2 := ha.c; simp at h1 h2 ⊢; omega); have HB := Lib.hid ha.box; clear ha R0)
    | (go_at_call 13; refine (run_hit' (lf := 0) (a := 1) HS.out (by omega) (by omega) HC.out.1 HC.out.2.1 1 (by omega) (by intro j hj; obtain rfl : j = 0 := (by omega); exact (taken_of HL.out 1 (by omega) (by omega)).trans rfl) 2 3 1 (by rfl) (by rfl) (by rw [life_of HL.out 2 (by omega) (by omega)]; first | done | rfl) ((taken_of HL.out 2 (by omega) (by omega)).trans rfl) (R1.out.mem.alloc _) (HB.out.alloc _) (by simp) (by omega) (by omega)).mono ?_; rintro e w3 ⟨rfl, lf, hd⟩; have R2 := Lib.hid ((R1.out.alloc _).did hd HC.out.2.2.2 HC.out.2.2.1); obtain ⟨e0, e1, e2, e3, e4, e5, e6, f2⟩ := row7 hd.box; have H2 : Hid (Sound 1 3 (putLife 3 zs 2 1)) := Lib.hid (HS.out.put _ _ (by omega) (by omega)); have HT : Hid (takenB 3 (putLife 3 zs 2 1) 2 = true) := Lib.hid (by unfold takenB; rw [lifeIn_put_same HS.out (by omega) (by omega)]; first | done | rfl); have q0 : w3.cell? ⟨w1.heap.size, 0, none⟩ = some (.int .i64 1) := R2.out.lay.at 0 rfl; have q1 : w3.cell? ⟨w1.heap.size, 1, none⟩ = some (.int .i64 3) := R2.out.lay.at 1 rfl; clear hd R1)
    | (go_at_call 20; refine (taken_in H2.out R2.out.mem 2 (by omega) (by omega)).mono ?_; rintro e w4 ⟨rfl, hb⟩; rw [HT.out]; have R3 := Lib.hid (R2.out.next hb); clear hb))
  go_returns
  exact ⟨rfl, R3.out.below⟩
end Go.Proofs.Ytglkpajnhdamkaa.life
