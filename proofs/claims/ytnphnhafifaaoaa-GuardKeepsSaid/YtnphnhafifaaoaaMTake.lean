/- The addresses that were seen: a map of the call's own; the closure that takes one more. -/
import Derived.Test.YtnphnhafifaaoaaM2
import Derived.Maps.Own
import Derived.Maps.Views
namespace Go.Proofs.Ytnphnhafifaaoaa.mem
open Go.RowKit

theorem key_law : Maps.Keyed Try.prog 3 := Maps.int_keyed Try.underlying3
theorem int_wf {a : Int} (h0 : -9223372036854775808 ≤ a) (h1 : a ≤ 9223372036854775807) : (Lit.int .i64 a).wf = true := by
  simp [Lit.wf, IntKind.min, IntKind.max, IntKind.signed, IntKind.bits]
  omega
theorem key_of {a : Int} (h0 : -9223372036854775808 ≤ a) (h1 : a ≤ 9223372036854775807) : keyOf Try.prog 3 (.int .i64 a) = some (.int .i64 a) := Maps.keyOf_int_mk Try.underlying3 (int_wf h0 h1)
theorem zero_bool (w : World) : (zeroValue 4).run Try.prog w = .ok (.bool false) w := by kernel_rfl

/-- Block r is a map of at most c entries, in which is what f says. -/
def Seen (w : World) (r c : Nat) (f : Int → Bool) : Prop :=
  ∃ D : DataW Unit, w.ownsMap Try.prog 3 (plainElem Try.prog 4) r c D ∧ Maps.IsMap D ∧ ∀ a : Int, D.atKey (.int .i64 a) (.lit (.bool false)) = .lit (.bool (f a))
theorem Seen.lt {w : World} {r c : Nat} {f : Int → Bool} (h : Seen w r c f) : r < w.heap.size := by
  obtain ⟨D, h, _⟩ := h
  exact h.lt
theorem Seen.moved {w w' : World} {r c : Nat} {f : Int → Bool} (h : Seen w r c f) (hb : w'.heap[r]? = w.heap[r]?) : Seen w' r c f := by
  obtain ⟨D, ⟨es, clock, h1, h2, h3, h4⟩, hm, hd⟩ := h
  exact ⟨D, ⟨es, clock, hb.trans h1, h2, h3, h4⟩, hm, hd⟩
theorem Seen.below {w w' : World} {r c : Nat} {f : Int → Bool} (h : Seen w r c f) (hb : Below w.heap.size w w') : Seen w' r c f := h.moved (hb.block r h.lt)
/-- What is asked of it. -/
theorem Seen.look {w : World} {r c : Nat} {f : Int → Bool} (h : Seen w r c f) {a : Int} (h0 : -9223372036854775808 ≤ a) (h1 : a ≤ 9223372036854775807) :
    (Instr.lookup 31 (.map (some r)) (.int .i64 a) false).run Try.prog w = .ok (.bool (f a)) w := by
  obtain ⟨D, ho, hm, hd⟩ := h
  obtain ⟨v, ps, hrun, hv⟩ := ho.lookup key_law Try.underlying31 (zero_bool w) (plainElem_bool Try.underlying4 false) (key_of h0 h1)
  rw [hd a] at hv
  have he : v = .bool (f a) := by
    unfold plainElem at hv
    rw [Try.underlying4] at hv
    cases v <;> simp at hv
    rename_i b
    obtain ⟨hb, _⟩ := hv
    rw [hb]
  rw [hrun, he]
/-- One more. -/
theorem Seen.put {w : World} {r c : Nat} {f : Int → Bool} (h : Seen w r c f) (hc : c < maxLen) {a : Int} (h0 : -9223372036854775808 ≤ a) (h1 : a ≤ 9223372036854775807) :
    ∃ w', (Instr.mapUpdate 31 (.map (some r)) (.int .i64 a) (.bool true)).run Try.prog w = .ok () w' ∧ Seen w' r (c + 1) (fun x => x == a || f x) ∧ w.grownBy w' (some r) := by
  obtain ⟨D, ho, hm, hd⟩ := h
  obtain ⟨w', hrun, ho', hg⟩ := ho.update key_law Try.underlying31 hc (key_of h0 h1) (plainElem_bool Try.underlying4 true)
  refine ⟨w', hrun, ⟨_, ho', hm.put _ _, fun x => ?_⟩, hg⟩
  by_cases hx : x = a
  · subst hx
    rw [Maps.atKey_put_same hm (key_law.key (key_of h0 h1))]
    simp
  · rw [Maps.atKey_put_other (by simpa using hx), hd x]
    have : (x == a) = false := by simpa using hx
    show DataW.lit (Lit.bool (f x)) = DataW.lit (Lit.bool (x == a || f x))
    rw [this, Bool.false_or]

/-- What the law's walk carries. -/
structure Tak (W w : World) (b6 b5 b7 r : Nat) (t n : Int) (c : Nat) (f : Int → Bool) : Prop where
  seen : Box w b6 #[.map (some r)] 31
  lay : Box w b5 (layCells t n) 28
  many : Box w b7 #[.int .i64 c] 3
  map : Seen w r c f
  below : Below W.heap.size W w
  g6 : W.heap.size ≤ b6
  g7 : W.heap.size ≤ b7
  gr : W.heap.size ≤ r
  d67 : b6 ≠ b7
  d57 : b5 ≠ b7
  d6r : b6 ≠ r
  d5r : b5 ≠ r
  d7r : b7 ≠ r
section
variable {W w w' : World} {b6 b5 b7 r : Nat} {t n : Int} {c : Nat} {f : Int → Bool}
theorem Tak.next (h : Tak W w b6 b5 b7 r t n c f) (hb : Below w.heap.size w w') : Tak W w' b6 b5 b7 r t n c f :=
  ⟨h.seen.below hb, h.lay.below hb, h.many.below hb, h.map.below hb, past h.below hb, h.g6, h.g7, h.gr, h.d67, h.d57, h.d6r, h.d5r, h.d7r⟩
theorem Tak.put {f' : Int → Bool} (h : Tak W w b6 b5 b7 r t n c f) (hm : Seen w' r (c + 1) f') (hg : w.grownBy w' (some r)) : Tak W (w'.setCell ⟨b7, 0, none⟩ (.int .i64 ((c + 1 : Nat) : Int))) b6 b5 b7 r t n (c + 1) f' := by
  have k : ∀ b, b < w.heap.size → b ≠ r → w'.heap[b]? = w.heap[b]? := fun b hb hr => hg.block b hb (fun e => hr (Option.some.inj e))
  have s6 : Box w' b6 #[.map (some r)] 31 := (k b6 h.seen.lt h.d6r).trans h.seen
  have s5 : Box w' b5 (layCells t n) 28 := (k b5 h.lay.lt h.d5r).trans h.lay
  have s7 : Box w' b7 #[.int .i64 c] 3 := (k b7 h.many.lt h.d7r).trans h.many
  exact ⟨s6.other h.d67 _ _, s5.other h.d57 _ _, s7.put 0 _, hm.moved (Below.heap_setCell _ _ _ _ (Ne.symm h.d7r)), ((h.below.grown hg h.below.size (fun k hk => by obtain rfl := Option.some.inj hk; exact h.gr)).setCell h.g7 _), h.g6, h.g7, h.gr, h.d67, h.d57, h.d6r, h.d5r, h.d7r⟩
end

end Go.Proofs.Ytnphnhafifaaoaa.mem
