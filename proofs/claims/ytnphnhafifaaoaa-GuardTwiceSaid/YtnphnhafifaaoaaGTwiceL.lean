/- What GuardTwice's walk carries. -/
import Derived.Test.YtnphnhafifaaoaaGTwiceP
namespace Go.Proofs.Ytnphnhafifaaoaa.guard
open Go.RowKit mem life

/-- Two memories, and the nodes that are asked for. -/
structure TW (W w : World) (b X Y X2 Y2 : Nat) (t : Int) (zs ys : List Int) (av : Value) (A : List Int) : Prop where
  duo : Duo W w b X Y X2 Y2 t 40 zs ys
  ask : Nums w 0 av A
/-- .. and a scan that has ended, with what it kept. -/
structure TA (W w : World) (b X Y X2 Y2 C : Nat) (t : Int) (zs ys : List Int) (av : Value) (A : List Int) (kv : Value) (K : List Int) : Prop where
  tw : TW W w b X Y X2 Y2 t zs ys av A
  box : ∃ cs, Box w C cs 49 ∧ cs[2]? = some kv
  kept : Nums w 0 kv K
section
variable {W w w1 : World} {b X Y X2 Y2 C D : Nat} {t : Int} {zs ys zs' ys' : List Int} {av kv : Value} {A K : List Int} {ds : Array Value} {T : TypeId}
theorem TW.next (h : TW W w b X Y X2 Y2 t zs ys av A) (hb : Below w.heap.size w w1) : TW W w1 b X Y X2 Y2 t zs ys av A := ⟨h.duo.next hb, h.ask.below hb⟩
theorem TW.alloc (h : TW W w b X Y X2 Y2 t zs ys av A) (o : Obj) : TW W (w.alloc o) b X Y X2 Y2 t zs ys av A := h.next ((Below.refl _ _).alloc (Nat.le_refl _) o)
theorem TW.moved (h : TW W w b X Y X2 Y2 t zs ys av A) (hb : Box w D ds T) (h1 : T ≠ 68) (h2 : T ≠ 25) (h3 : T ≠ 28) (h4 : T ≠ 3) (hD : W.heap.size ≤ D) (hm : MemS w1 X Y t 40 zs') (ha : Apart3 X Y D w w1) : TW W w1 b X Y X2 Y2 t zs' ys av A := by
  have d := h.duo
  have hu := MemS_unlike d.two hb h1 h2
  refine ⟨d.moved hm ha hD (unlikeT hb d.room.lay h3) hu.1 hu.2, h.ask.moved fun g cs _ hg => ?_⟩
  have hx := MemS_unlike d.room.mem hg (by decide) (by decide)
  exact ha.block g (Array.getElem?_eq_some_iff.1 hg).1 hx.1 hx.2 (unlikeT hg hb (Ne.symm h4))
theorem TW.act2 (h : TW W w b X Y X2 Y2 t zs ys av A) (hm : MemS w1 X2 Y2 t 40 ys') (ha : Apart X2 Y2 w w1) : TW W w1 b X Y X2 Y2 t zs ys' av A := ⟨h.duo.act2 hm ha, h.ask.scan h.duo.two ha⟩
theorem TA.next (h : TA W w b X Y X2 Y2 C t zs ys av A kv K) (hb : Below w.heap.size w w1) : TA W w1 b X Y X2 Y2 C t zs ys av A kv K := by
  obtain ⟨cs, h1, h2⟩ := h.box
  exact ⟨h.tw.next hb, ⟨cs, h1.below hb, h2⟩, h.kept.below hb⟩
theorem TA.drew (h : TA W w b X Y X2 Y2 C t zs ys av A kv K) : TA W w.drew b X Y X2 Y2 C t zs ys av A kv K := h.next ((Below.refl _ _).drew)
theorem TA.alloc (h : TA W w b X Y X2 Y2 C t zs ys av A kv K) (o : Obj) : TA W (w.alloc o) b X Y X2 Y2 C t zs ys av A kv K := h.next ((Below.refl _ _).alloc (Nat.le_refl _) o)
theorem TA.moved (h : TA W w b X Y X2 Y2 C t zs ys av A kv K) (hb : Box w D ds T) (h1 : T ≠ 68) (h2 : T ≠ 25) (h3 : T ≠ 28) (h4 : T ≠ 3) (hDC : D ≠ C) (hD : W.heap.size ≤ D) (hm : MemS w1 X Y t 40 zs') (ha : Apart3 X Y D w w1) : TA W w1 b X Y X2 Y2 C t zs' ys av A kv K := by
  obtain ⟨cs, g1, g2⟩ := h.box
  have hx := MemS_unlike h.tw.duo.room.mem g1 (by decide) (by decide)
  refine ⟨h.tw.moved hb h1 h2 h3 h4 hD hm ha, ⟨cs, ha.box g1 hx.1 hx.2 (Ne.symm hDC), g2⟩, h.kept.moved fun g cs _ hg => ?_⟩
  have hx := MemS_unlike h.tw.duo.room.mem hg (by decide) (by decide)
  exact ha.block g (Array.getElem?_eq_some_iff.1 hg).1 hx.1 hx.2 (unlikeT hg hb (Ne.symm h4))
theorem TA.act2 (h : TA W w b X Y X2 Y2 C t zs ys av A kv K) (hm : MemS w1 X2 Y2 t 40 ys') (ha : Apart X2 Y2 w w1) : TA W w1 b X Y X2 Y2 C t zs ys' av A kv K := by
  obtain ⟨cs, g1, g2⟩ := h.box
  have hx := MemS_unlike h.tw.duo.two g1 (by decide) (by decide)
  exact ⟨h.tw.act2 hm ha, ⟨cs, g1.apart ha hx.1 hx.2, g2⟩, h.kept.scan h.tw.duo.two ha⟩
theorem TA.cell (h : TA W w b X Y X2 Y2 C t zs ys av A kv K) : w.cell? ⟨C, 2, none⟩ = some kv := by
  obtain ⟨cs, g1, g2⟩ := h.box
  exact g1.at 2 g2
theorem TA.lt (h : TA W w b X Y X2 Y2 C t zs ys av A kv K) : C < w.heap.size := by
  obtain ⟨cs, g1, g2⟩ := h.box
  exact g1.lt
end
theorem nodes_facts {A zs2 : List Int} {M : Nat} (hA : A = nodesTo 40 zs2 M) (hM : (M : Int) ≤ 60) (ws : List Int) : (∀ x ∈ A, 1 ≤ x ∧ x ≤ 40) ∧ A.length ≤ 60 ∧ (untold ws A).length ≤ 60 ∧ (told ws A).length ≤ 60 := by
  have h1 : A.length ≤ 60 := by rw [hA]; have := nodesTo_length 40 zs2 M; omega
  exact ⟨by rw [hA]; exact fun x hx => nodesTo_in 40 zs2 (by omega) x M hx, h1, Nat.le_trans (List.length_filter_le _ _) h1, Nat.le_trans (List.length_filter_le _ _) h1⟩
theorem nums_nil {w : World} {lo : Nat} {v : Value} (h : Nums w lo v []) : v = .slice none 0 0 := by
  rcases h with ⟨_, h⟩ | ⟨h, _⟩
  · exact h
  · simp at h
end Go.Proofs.Ytnphnhafifaaoaa.guard
