/- What a walk over two memories carries. -/
import Derived.Test.YtfoiahnpnipjnaaMSame
namespace Go.Proofs.Ytfoiahnpnipjnaa.mem
open Go.RowKit

/-- An operation by value. -/
abbrev opCells (K A Old X : Int) : Array Value := #[.int .i64 K, .int .i64 A, .int .u64 Old, .int .u64 X]
/-- Two blocks of the call's own. -/
structure Pre (W w : World) (b1 : Nat) (o1 : Array Value) (T1 : TypeId) (b2 : Nat) (o2 : Array Value) (T2 : TypeId) : Prop where
  op1 : Box w b1 o1 T1
  op2 : Box w b2 o2 T2
  below : Below W.heap.size W w
section
variable {W w w' : World} {b1 b2 : Nat} {o1 o2 : Array Value} {T1 T2 : TypeId}
theorem Pre.next (h : Pre W w b1 o1 T1 b2 o2 T2) (hb : Below w.heap.size w w') : Pre W w' b1 o1 T1 b2 o2 T2 := ⟨h.op1.below hb, h.op2.below hb, past h.below hb⟩
theorem Pre.alloc (h : Pre W w b1 o1 T1 b2 o2 T2) (o : Obj) : Pre W (w.alloc o) b1 o1 T1 b2 o2 T2 := h.next ((Below.refl _ _).alloc (Nat.le_refl _) o)
theorem Pre.one (w : World) (o : Array Value) (T : TypeId) : Pre w (w.alloc (.cells o T)) w.heap.size o T w.heap.size o T := ⟨Box.new w o T, Box.new w o T, (Below.refl _ _).alloc (Nat.le_refl _) _⟩
theorem Pre.two (w : World) (o1 : Array Value) (T1 : TypeId) (o2 : Array Value) (T2 : TypeId) : Pre w ((w.alloc (.cells o1 T1)).alloc (.cells o2 T2)) w.heap.size o1 T1 (w.heap.size + 1) o2 T2 :=
  ⟨(Box.new w o1 T1).alloc _, by have := Box.new (w.alloc (.cells o1 T1)) o2 T2; simpa using this, ((Below.refl _ _).alloc (Nat.le_refl _) _).alloc (by simp) _⟩
end

/-- .. and a memory. -/
structure Solo (W w : World) (b1 : Nat) (o1 : Array Value) (T1 : TypeId) (b2 : Nat) (o2 : Array Value) (T2 : TypeId) (t n : Int) (X Y : Nat) (zs : List Int) (k : Int) (l : Last) : Prop where
  pre : Pre W w b1 o1 T1 b2 o2 T2
  mem : MemAt w X Y t n zs k l
  x0 : W.heap.size ≤ X
  y0 : W.heap.size ≤ Y
  b1x : b1 ≠ X
  b1y : b1 ≠ Y
  b2x : b2 ≠ X
  b2y : b2 ≠ Y
section
variable {W w w' : World} {b1 b2 : Nat} {o1 o2 : Array Value} {T1 T2 : TypeId} {t n : Int} {X Y : Nat} {zs zs' : List Int} {k k' : Int} {l l' : Last}
theorem Solo.next (h : Solo W w b1 o1 T1 b2 o2 T2 t n X Y zs k l) (hb : Below w.heap.size w w') : Solo W w' b1 o1 T1 b2 o2 T2 t n X Y zs k l := ⟨h.pre.next hb, h.mem.below hb, h.x0, h.y0, h.b1x, h.b1y, h.b2x, h.b2y⟩
theorem Solo.alloc (h : Solo W w b1 o1 T1 b2 o2 T2 t n X Y zs k l) (o : Obj) : Solo W (w.alloc o) b1 o1 T1 b2 o2 T2 t n X Y zs k l := h.next ((Below.refl _ _).alloc (Nat.le_refl _) o)
theorem Solo.made (h : Pre W w b1 o1 T1 b2 o2 T2) (hm : MadeAt w t n zs X Y w') : Solo W w' b1 o1 T1 b2 o2 T2 t n X Y zs 0 Last.no := by
  have s := h.below.size
  have x := hm.x
  have y := hm.y
  have l1 := h.op1.lt
  have l2 := h.op2.lt
  exact ⟨h.next hm.below, hm.mem, by omega, by omega, by omega, by omega, by omega, by omega⟩
theorem Solo.act (h : Solo W w b1 o1 T1 b2 o2 T2 t n X Y zs k l) (hm : MemAt w' X Y t n zs' k' l') (ha : Apart X Y w w') : Solo W w' b1 o1 T1 b2 o2 T2 t n X Y zs' k' l' :=
  ⟨⟨h.pre.op1.apart ha h.b1x h.b1y, h.pre.op2.apart ha h.b2x h.b2y, ha.below h.pre.below h.pre.below.size h.x0 h.y0⟩, hm, h.x0, h.y0, h.b1x, h.b1y, h.b2x, h.b2y⟩
end

/-- .. and another memory. -/
structure Duo (W w : World) (b1 : Nat) (o1 : Array Value) (T1 : TypeId) (b2 : Nat) (o2 : Array Value) (T2 : TypeId) (t n : Int) (X Y : Nat) (zs : List Int) (k : Int) (l : Last) (X2 Y2 : Nat) (ys : List Int) (j : Int) (m : Last) : Prop where
  one : Solo W w b1 o1 T1 b2 o2 T2 t n X Y zs k l
  two : Solo W w b1 o1 T1 b2 o2 T2 t n X2 Y2 ys j m
  xx : X ≠ X2
  xy : X ≠ Y2
  yx : Y ≠ X2
  yy : Y ≠ Y2
section
variable {W w w' : World} {b1 b2 : Nat} {o1 o2 : Array Value} {T1 T2 : TypeId} {t n : Int} {X Y X2 Y2 : Nat} {zs zs' ys ys' : List Int} {k k' j j' : Int} {l l' m m' : Last}
theorem Duo.next (h : Duo W w b1 o1 T1 b2 o2 T2 t n X Y zs k l X2 Y2 ys j m) (hb : Below w.heap.size w w') : Duo W w' b1 o1 T1 b2 o2 T2 t n X Y zs k l X2 Y2 ys j m := ⟨h.one.next hb, h.two.next hb, h.xx, h.xy, h.yx, h.yy⟩
theorem Duo.alloc (h : Duo W w b1 o1 T1 b2 o2 T2 t n X Y zs k l X2 Y2 ys j m) (o : Obj) : Duo W (w.alloc o) b1 o1 T1 b2 o2 T2 t n X Y zs k l X2 Y2 ys j m := h.next ((Below.refl _ _).alloc (Nat.le_refl _) o)
theorem Duo.made (h : Solo W w b1 o1 T1 b2 o2 T2 t n X Y zs k l) (hm : MadeAt w t n ys X2 Y2 w') : Duo W w' b1 o1 T1 b2 o2 T2 t n X Y zs k l X2 Y2 ys 0 Last.no := by
  have x := hm.x
  have y := hm.y
  have l1 := h.mem.ltX
  have l2 := h.mem.ltY
  exact ⟨h.next hm.below, Solo.made h.pre hm, by omega, by omega, by omega, by omega⟩
theorem Duo.act1 (h : Duo W w b1 o1 T1 b2 o2 T2 t n X Y zs k l X2 Y2 ys j m) (hm : MemAt w' X Y t n zs' k' l') (ha : Apart X Y w w') : Duo W w' b1 o1 T1 b2 o2 T2 t n X Y zs' k' l' X2 Y2 ys j m := by
  have h1 := h.one.act hm ha
  exact ⟨h1, ⟨h1.pre, ha.other h.two.mem h.xx.symm h.yx.symm h.xy.symm h.yy.symm, h.two.x0, h.two.y0, h.two.b1x, h.two.b1y, h.two.b2x, h.two.b2y⟩, h.xx, h.xy, h.yx, h.yy⟩
theorem Duo.act2 (h : Duo W w b1 o1 T1 b2 o2 T2 t n X Y zs k l X2 Y2 ys j m) (hm : MemAt w' X2 Y2 t n ys' j' m') (ha : Apart X2 Y2 w w') : Duo W w' b1 o1 T1 b2 o2 T2 t n X Y zs k l X2 Y2 ys' j' m' := by
  have h1 := h.two.act hm ha
  exact ⟨⟨h1.pre, ha.other h.one.mem h.xx h.xy h.yx h.yy, h.one.x0, h.one.y0, h.one.b1x, h.one.b1y, h.one.b2x, h.one.b2y⟩, h1, h.xx, h.xy, h.yx, h.yy⟩
end

/-- The last five bits of a number. -/
theorem and31 (n : Int) : bits .and .i64 n 31 = n % 32 := by
  have h31 : (BitVec.ofInt 64 31).toNat = 2 ^ 5 - 1 := by decide
  have key : (BitVec.ofInt 64 n &&& BitVec.ofInt 64 31).toNat = (n % ((2 ^ 64 : Nat) : Int)).toNat % 2 ^ 5 := by
    rw [BitVec.toNat_and, BitVec.toNat_ofInt, h31, Nat.and_two_pow_sub_one_eq_mod]
  show IntKind.i64.wrap ((BitVec.ofInt 64 n &&& BitVec.ofInt 64 31).toNat : Nat) = n % 32
  rw [key, IntKind.wrap_i64]
  omega

section
variable {w : World} {X Y X2 Y2 : Nat} {t n k k2 : Int} {zs ys : List Int} {l l2 : Last}
/-- Whether all words are the same, under its own name. -/
theorem same_is (hm : MemAt w X Y t n zs k l) (hx : MemAt w X2 Y2 t n ys k2 l2) (z : Nat) (q : Bool) (hz : zs.length = z) (hy : ys.length = z) (z1 : z ≤ 1000) (hq : decide (zs = ys) = q) :
    Calls Try.prog 30 #[.pointer (some ⟨X, 0, none⟩), .pointer (some ⟨X2, 0, none⟩)] w fun e w' => e = .returned (.bool q) ∧ Below w.heap.size w w' := by
  rw [← hq]
  exact same_words hm hx z hz hy z1
end
/-- A call that leaves the world alone, in a region walked over a class of worlds. -/
theorem still {P : Program} {C : World → Prop} {w : World} {f : FuncId} {args : Array Value} {v : Value} (h : Calls P f args w fun e w' => e = .returned v ∧ w = w') (hC : C w) :
    Calls P f args w fun e w' => e = .returned v ∧ C w' := h.mono fun _ _ ⟨he, hw⟩ => ⟨he, hw ▸ hC⟩
theorem wordAt_get (zs : List Int) (a : Int) (h : inB zs a = true) : wordAt zs a = zs.getD a.toNat 0 := by
  have h : 0 ≤ a ∧ a < zs.length := by unfold inB at h; simpa using h
  unfold wordAt
  rw [if_pos h]
/-- A word is what it was just if all words are what they were. -/
theorem setAt_eq (zs : List Int) (a x : Int) (h : inB zs a = true) : decide (setAt zs a x = zs) = (x == wordAt zs a) := by
  by_cases he : x = wordAt zs a
  · rw [he, setAt_same]
    simp
  · have hq : (x == wordAt zs a) = false := by simpa using he
    rw [hq]
    apply decide_eq_false
    intro hs
    apply he
    have := wordAt_setAt_same zs a x h
    rw [hs] at this
    exact this.symm
end Go.Proofs.Ytfoiahnpnipjnaa.mem
