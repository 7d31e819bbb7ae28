/- A row of lives, each 1; slots that are set one behind the other; what a law's walk carries beside two memories. -/
import Derived.Test.YtnphnhafifaaoaaGDrops
import Derived.Maps.OwnSet
namespace Go.Proofs.Ytnphnhafifaaoaa.guard
open Go.RowKit mem life

/-- A row of 40 words, of which the first j are 1. -/
structure Ones (W w : World) (q j : Nat) (R : List Int) : Prop where
  len : R.length = 40
  one : ∀ i, i < j → R.getD i 0 = 1
  box : Box w q (wordCells R) 25
  below : Below W.heap.size W w
  q0 : W.heap.size ≤ q
theorem make40 (w : World) : (Instr.makeSlice 24 (.int .i64 40) (.int .i64 40)).run Try.prog w = .ok (.slice (some ⟨w.heap.size, 0, none⟩) 40 40) (w.alloc (.cells (wordCells (List.replicate 40 0)) 25)) := make_words w 40 (by omega)
theorem Ones.made {W w : World} (h : Below W.heap.size W w) {q : Nat} (hq : w.heap.size = q) : Ones W (w.alloc (.cells (wordCells (List.replicate 40 0)) 25)) q 0 (List.replicate 40 0) :=
  ⟨by simp, fun i hi => by omega, new_block w _ _ hq, h.alloc h.size _, by have := h.size; omega⟩
theorem Ones.put {W w : World} {q j : Nat} {R : List Int} (h : Ones W w q j R) (hj : j < 40) : Ones W (w.setCell ⟨q, j, none⟩ (.int .u64 1)) q (j + 1) (R.set j 1) := by
  have hl := h.len
  refine ⟨by simpa using hl, fun i hi => ?_, by rw [← wordCells_set]; exact h.box.put j _, h.below.setCell h.q0 _, h.q0⟩
  rw [List.getD_eq_getElem?_getD]
  by_cases he : i = j
  · subst he
    rw [List.getElem?_set_self (by omega)]
    rfl
  · rw [List.getElem?_set_ne (Ne.symm he), ← List.getD_eq_getElem?_getD]
    exact h.one i (by omega)
theorem Ones.words {W w : World} {q : Nat} {R : List Int} (h : Ones W w q 40 R) : Words w (some ⟨q, 0, none⟩) R := by
  intro i hi
  refine ⟨_, rfl, ?_⟩
  rw [Addr.add_lit, Nat.zero_add, Joins.cell_of_block h.box]
  exact wordCells_get R i hi
theorem Ones.cell {W w : World} {q j i : Nat} {R : List Int} (h : Ones W w q j R) (hi : i < 40) : w.cell? ⟨q, i, none⟩ = some (.int .u64 (R.getD i 0)) := by
  rw [Joins.cell_of_block h.box]
  exact wordCells_get R i (by rw [h.len]; exact hi)
theorem Ones.range {W w : World} {q : Nat} {R : List Int} (h : Ones W w q 40 R) : ∀ x ∈ R, 0 ≤ x ∧ x < 18446744073709551616 := by
  intro x hx
  obtain ⟨i, hi, rfl⟩ := List.getElem_of_mem hx
  have := h.one i (by have := h.len; omega)
  rw [List.getD_eq_getElem?_getD, List.getElem?_eq_getElem hi] at this
  have this : R[i] = 1 := this
  omega
/-- All nodes are taken, each life 1. -/
def AllOne (zs : List Int) : Prop := ∀ i : Int, 1 ≤ i → i ≤ 40 → lifeIn 40 zs i = 1
theorem allOne {W w : World} {q : Nat} {R zs : List Int} (h : Ones W w q 40 R) (hl : Lives 40 zs R) : AllOne zs := fun i i0 i1 => by
  rw [life_of hl i i0 i1]
  exact h.one _ (by omega)
theorem AllOne.taken {zs : List Int} (h : AllOne zs) {i : Int} (i0 : 1 ≤ i) (i1 : i ≤ 40) : takenB 40 zs i = true := by
  unfold takenB
  rw [h i i0 i1]
  rfl

/-- The first j slots were set, the others are 0. -/
structure Laid (t : Int) (zs : List Int) (j : Nat) : Prop where
  sound : Sound t 40 zs
  ones : AllOne zs
  zero : ∀ k : Nat, j ≤ k → (k : Int) < 2 * t → slotW 40 zs k = 0
theorem Laid.put {t v : Int} {zs : List Int} {j : Nat} (h : Laid t zs j) (v0 : 0 ≤ v) (v1 : v < 18446744073709551616) : Laid t (setAt zs (slotA 40 j) v) (j + 1) := by
  refine ⟨sound_set h.sound v0 v1, fun i i0 i1 => by rw [lifeIn_set (by omega) i1]; exact h.ones i i0 i1, fun k hk hk2 => ?_⟩
  rw [slotW_set_other (by omega)]
  exact h.zero k (by omega) hk2
theorem Laid.skip {t : Int} {zs : List Int} {j : Nat} (h : Laid t zs j) (hj : ¬ (j : Int) < 2 * t) : Laid t zs (j + 1) := ⟨h.sound, h.ones, fun k hk hk2 => by omega⟩
/-- What is guarded, when one slot more is set. -/
theorem guarded_put {t v : Int} {zs : List Int} {j : Nat} (h : Laid t zs j) (hj : (j : Int) < 2 * t) (i : Int) (i0 : 1 ≤ i) : guardedB t 40 (setAt zs (slotA 40 j) v) i = (i == v || guardedB t 40 zs i) := by
  have key : (i ∈ slotsAll t 40 (setAt zs (slotA 40 j) v)) ↔ (i = v ∨ i ∈ slotsAll t 40 zs) := by
    have hst : ∀ ys, Sound t 40 ys → (i ∈ slotsAll t 40 ys ↔ ∃ k : Nat, (k : Int) < 2 * t ∧ slotW 40 ys k = i) := fun ys hs => mem_slotsAll hs i
    have hmem2 : i ∈ slotsAll t 40 (setAt zs (slotA 40 j) v) ↔ ∃ k : Nat, (k : Int) < 2 * t ∧ slotW 40 (setAt zs (slotA 40 j) v) k = i := by
      unfold slotsAll
      rw [mem_slotsTo]
      have := h.sound.t0
      exact ⟨fun ⟨k, a, b⟩ => ⟨k, by omega, b⟩, fun ⟨k, a, b⟩ => ⟨k, by omega, b⟩⟩
    rw [hmem2, hst zs h.sound]
    constructor
    · rintro ⟨k, hk, he⟩
      by_cases hkj : k = j
      · subst hkj
        rw [slotW_set_same h.sound (by omega) hk] at he
        exact Or.inl he.symm
      · rw [slotW_set_other (by omega)] at he
        exact Or.inr ⟨k, hk, he⟩
    · rintro (he | ⟨k, hk, he⟩)
      · exact ⟨j, hj, by rw [slotW_set_same h.sound (by omega) hj, he]⟩
      · by_cases hkj : k = j
        · subst hkj
          rw [h.zero k (Nat.le_refl _) hk] at he
          omega
        · exact ⟨k, hk, by rw [slotW_set_other (by omega)]; exact he⟩
  show decide (1 ≤ i ∧ i ∈ slotsAll t 40 (setAt zs (slotA 40 j) v)) = (i == v || decide (1 ≤ i ∧ i ∈ slotsAll t 40 zs))
  by_cases hv : i = v
  · rw [decide_eq_true ⟨i0, key.2 (Or.inl hv)⟩, show (i == v) = true by simpa using hv]
    rfl
  · rw [show (i == v) = false by simpa using hv, Bool.false_or]
    by_cases hm : i ∈ slotsAll t 40 zs
    · rw [decide_eq_true ⟨i0, key.2 (Or.inr hm)⟩, decide_eq_true ⟨i0, hm⟩]
    · rw [decide_eq_false (fun h => by rcases key.1 h.2 with h | h <;> contradiction), decide_eq_false (fun h => hm h.2)]
theorem guarded_none {t : Int} {zs : List Int} (h : Laid t zs 0) (i : Int) (i0 : 1 ≤ i) : guardedB t 40 zs i = false := by
  apply decide_eq_false
  rintro ⟨_, hm⟩
  obtain ⟨k, hk, he⟩ := (mem_slotsAll h.sound i).1 hm
  rw [h.zero k (Nat.zero_le _) hk] at he
  omega
theorem guarded_is (t : Int) (zs : List Int) {i : Int} (i0 : 1 ≤ i) : guardedB t 40 zs i = decide (i ∈ slotsAll t 40 zs) := by
  show decide (1 ≤ i ∧ i ∈ slotsAll t 40 zs) = _
  by_cases hm : i ∈ slotsAll t 40 zs
  · rw [decide_eq_true ⟨i0, hm⟩, decide_eq_true hm]
  · rw [decide_eq_false (fun h => hm h.2), decide_eq_false hm]

/-- Some nodes that were given back, and one more. -/
theorem giveTo_append (n : Int) (zs F G : List Int) : ∀ j, j ≤ F.length → giveTo n zs (F ++ G) j = giveTo n zs F j
  | 0, _ => rfl
  | j + 1, hj => by
    have e : (F ++ G).getD j 0 = F.getD j 0 := by rw [List.getD_eq_getElem?_getD, List.getD_eq_getElem?_getD, List.getElem?_append_left (by omega)]
    rw [giveTo, giveTo, giveTo_append n zs F G j (by omega), e]
theorem giveTo_snoc (n : Int) (zs F : List Int) (x : Int) : giveTo n zs (F ++ [x]) (F ++ [x]).length = upLife n (giveTo n zs F F.length) x := by
  have e : (F ++ [x]).getD F.length 0 = x := by rw [List.getD_eq_getElem?_getD, List.getElem?_append_right (Nat.le_refl _)]; simp
  rw [List.length_append, show F.length + [x].length = F.length + 1 from rfl, giveTo, giveTo_append n zs F [x] _ (Nat.le_refl _), e]
  rfl
end Go.Proofs.Ytnphnhafifaaoaa.guard
/- What GuardScans' walk carries. -/
namespace Go.Proofs.Ytnphnhafifaaoaa.guard
open Go.RowKit mem life

theorem Seen_unlike {w : World} {r c b : Nat} {f : Int → Bool} {cs : Array Value} {T : TypeId} {g : Nat × Nat} (h : Seen w r c f) (hb : w.heap[b]? = some (.cells cs T g)) : b ≠ r := by
  obtain ⟨D, ⟨es, clock, h1, h2, h3, h4⟩, hm, hd⟩ := h
  intro e
  subst e
  rw [hb] at h1
  cases h1
/-- A memory, its layout, and the map of what is guarded. -/
structure Put (W w : World) (b X Y r : Nat) (t : Int) (zs : List Int) (c : Nat) (f : Int → Bool) : Prop where
  room : Room W w b X Y t 40 zs
  map : Seen w r c f
  r0 : W.heap.size ≤ r
section
variable {W w w1 : World} {b X Y r : Nat} {t : Int} {zs ys : List Int} {c c' : Nat} {f f' : Int → Bool}
theorem Put.next (h : Put W w b X Y r t zs c f) (hb : Below w.heap.size w w1) : Put W w1 b X Y r t zs c f := ⟨h.room.next hb, h.map.below hb, h.r0⟩
theorem Put.ne (h : Put W w b X Y r t zs c f) : r ≠ b ∧ r ≠ X ∧ r ≠ Y := by
  obtain ⟨k, l, hm⟩ := h.room.mem
  obtain ⟨cc, hx⟩ := hm.head
  obtain ⟨ex, hy⟩ := hm.body
  exact ⟨Ne.symm (Seen_unlike h.map h.room.lay), Ne.symm (Seen_unlike h.map hx), Ne.symm (Seen_unlike h.map hy)⟩
theorem Put.act (h : Put W w b X Y r t zs c f) (hm : MemS w1 X Y t 40 ys) (ha : Apart X Y w w1) : Put W w1 b X Y r t ys c f := ⟨h.room.act hm ha, h.map.moved (ha.block r h.map.lt h.ne.2.1 h.ne.2.2), h.r0⟩
theorem Put.entry (h : Put W w b X Y r t zs c f) (hm : Seen w1 r c' f') (hg : w.grownBy w1 (some r)) : Put W w1 b X Y r t zs c' f' := by
  obtain ⟨n1, n2, n3⟩ := h.ne
  have k : ∀ d, d < w.heap.size → d ≠ r → w1.heap[d]? = w.heap[d]? := fun d hd hr => hg.block d hd (fun e => hr (Option.some.inj e))
  have q := h.room
  exact ⟨⟨(k b q.lt.1 (Ne.symm n1)).trans q.lay, q.mem.moved (k X q.lt.2.1 (Ne.symm n2)) (k Y q.lt.2.2.1 (Ne.symm n3)), q.below.grown hg q.below.size (fun k hk => by obtain rfl := Option.some.inj hk; exact h.r0), q.b0, q.x0, q.y0, q.bx, q.by'⟩, hm, h.r0⟩
theorem Put.made (h : Room W w b X Y t 40 zs) {g : Nat} (hg : w.heap.size = g) : Put W (w.alloc (.map #[] 0)) b X Y g t zs 0 (fun _ => false) := by
  subst hg
  exact ⟨h.alloc _, ⟨_, World.ownsMap_made w _ _ _, Maps.isMap_empty, fun _ => rfl⟩, h.lt.2.2.2⟩
end

/-- Two memories, the map, the nodes that are asked for; the law's own two lists. -/
structure SL (W w : World) (E b X Y X2 Y2 r : Nat) (t : Int) (zs ys : List Int) (c : Nat) (f : Int → Bool) (av : Value) (A : List Int) (kv fv : Value) (K F : List Int) : Prop where
  duo : Duo W w b X Y X2 Y2 t 40 zs ys
  map : Seen w r c f
  ask : Nums w 0 av A
  two : Two w E kv fv K F
  bE : b < E
  xE : X < E
  yE : Y < E
  x2E : X2 < E
  y2E : Y2 < E
  rE : r < E
  aE : ∀ g, av.ownBlock = some g → g < E
  WE : W.heap.size ≤ E
  Ew : E ≤ w.heap.size
section
variable {W w w1 : World} {E b X Y X2 Y2 r : Nat} {t : Int} {zs ys ys' : List Int} {c : Nat} {f : Int → Bool} {av kv fv : Value} {A K F : List Int}
theorem SL.next (h : SL W w E b X Y X2 Y2 r t zs ys c f av A kv fv K F) (hb : Below w.heap.size w w1) : SL W w1 E b X Y X2 Y2 r t zs ys c f av A kv fv K F :=
  ⟨h.duo.next hb, h.map.below hb, h.ask.below hb, h.two.below hb, h.bE, h.xE, h.yE, h.x2E, h.y2E, h.rE, h.aE, h.WE, Nat.le_trans h.Ew hb.size⟩
theorem SL.drew (h : SL W w E b X Y X2 Y2 r t zs ys c f av A kv fv K F) : SL W w.drew E b X Y X2 Y2 r t zs ys c f av A kv fv K F := h.next ((Below.refl _ _).drew)
theorem SL.alloc (h : SL W w E b X Y X2 Y2 r t zs ys c f av A kv fv K F) (o : Obj) : SL W (w.alloc o) E b X Y X2 Y2 r t zs ys c f av A kv fv K F := h.next ((Below.refl _ _).alloc (Nat.le_refl _) o)
theorem SL.swap (h : SL W w E b X Y X2 Y2 r t zs ys c f av A kv fv K F) : SL W w E b X Y X2 Y2 r t zs ys c f av A fv kv F K :=
  ⟨h.duo, h.map, h.ask, h.two.swap, h.bE, h.xE, h.yE, h.x2E, h.y2E, h.rE, h.aE, h.WE, h.Ew⟩
theorem Nums.own {w w' : World} {lo : Nat} {v : Value} {L : List Int} (h : Nums w lo v L) (hb : ∀ g, v.ownBlock = some g → g < w.heap.size → w'.heap[g]? = w.heap[g]?) : Nums w' lo v L := by
  rcases h with h | ⟨h0, g, c, rfl, h2, hr, h4, h5⟩
  · exact Or.inl h
  · exact Or.inr ⟨h0, g, c, rfl, h2, hr.moved (hb g rfl hr.lt), h4, h5⟩
theorem SL.more {x : Int} {kv' : Value} {T : TypeId} (h : SL W w E b X Y X2 Y2 r t zs ys c f av A kv fv K F)
    (hown : w1.ownsRow E 3 1 kv' (K.length + 1) (K.map (Value.int .i64) ++ [.int .i64 x]))
    (hg : (w.alloc (.cells #[.int .i64 x] T)).grownBy w1 kv.ownBlock) (hat : kv'.ownBlock = kv.ownBlock ∨ kv'.ownBlock = some (w.alloc (.cells #[.int .i64 x] T)).heap.size) :
    SL W w1 E b X Y X2 Y2 r t zs ys c f av A kv' fv (K ++ [x]) F := by
  have old : ∀ d, d < E → d < w.heap.size → w1.heap[d]? = w.heap[d]? := fun d hd hw => h.two.old hg hd hw
  have hsz : w.heap.size ≤ w1.heap.size := by have := hg.size; simp at this; omega
  have q := h.duo.room
  have d := h.duo
  have hbl : Below W.heap.size W w1 := by
    refine (q.below.alloc q.below.size _).grown hg (by have := q.below.size; simp; omega) ?_
    intro k hk
    have := (owns_block h.two.k hk).1
    have := h.WE
    omega
  exact ⟨⟨⟨(old b h.bE q.lt.1).trans q.lay, q.mem.moved (old X h.xE q.lt.2.1) (old Y h.yE q.lt.2.2.1), hbl, q.b0, q.x0, q.y0, q.bx, q.by'⟩, d.two.moved (old X2 h.x2E d.two.ltX) (old Y2 h.y2E d.two.ltY), d.ne, d.x2, d.y2⟩,
    h.map.moved (old r h.rE h.map.lt), h.ask.own (fun g hgo hlt => old g (h.aE g hgo) hlt), h.two.more hown hg hat, h.bE, h.xE, h.yE, h.x2E, h.y2E, h.rE, h.aE, h.WE, Nat.le_trans h.Ew hsz⟩
theorem SL.add (h : SL W w E b X Y X2 Y2 r t zs ys c f av A kv fv K F) (hm : MemS w1 X2 Y2 t 40 ys') (ha : Apart X2 Y2 w w1) : SL W w1 E b X Y X2 Y2 r t zs ys' c f av A kv fv K F := by
  obtain ⟨k, l, hmm⟩ := h.duo.two
  obtain ⟨cc, hx⟩ := hmm.head
  obtain ⟨ex, hy⟩ := hmm.body
  have hr1 := Ne.symm (Seen_unlike h.map hx)
  have hr2 := Ne.symm (Seen_unlike h.map hy)
  have x2E := h.x2E
  have y2E := h.y2E
  exact ⟨h.duo.act2 hm ha, h.map.moved (ha.block r h.map.lt hr1 hr2), h.ask.scan h.duo.two ha, h.two.moved (fun g hge hgl => ha.block g hgl (by omega) (by omega)), h.bE, h.xE, h.yE, x2E, y2E, h.rE, h.aE, h.WE, Nat.le_trans h.Ew ha.size⟩
theorem Two.typed {w' : World} (h : Two w E kv fv K F) (hb : ∀ (g : Nat) (cs : Array Value), w.heap[g]? = some (Obj.cells cs 3 (0, 0)) → w'.heap[g]? = w.heap[g]?) : Two w' E kv fv K F := by
  have key : ∀ {v : Value} {n : Nat} {xs : List Value}, w.ownsRow E 3 1 v n xs → w'.ownsRow E 3 1 v n xs := by
    intro v n xs ho
    refine owns_moved ho fun g hg => ?_
    rcases ho.2 with ⟨rfl, _⟩ | ⟨g', cap, cur, rfl, _, hb', _⟩
    · cases hg
    · obtain rfl : g' = g := Option.some.inj hg
      exact hb _ _ hb'
  exact ⟨key h.k, key h.f, h.ne, h.kn, h.fn⟩
/-- Behind a scan. -/
theorem SL.ran {C : Nat} {cs : Array Value} (h : SL W w E b X Y X2 Y2 r t zs ys c f av A kv fv K F) (hb : Box w C cs 49) (hC : W.heap.size ≤ C) {zs' : List Int} (hm : MemS w1 X Y t 40 zs') (ha : Apart3 X Y C w w1) :
    SL W w1 E b X Y X2 Y2 r t zs' ys c f av A kv fv K F := by
  have d := h.duo
  have h2 := MemS_unlike d.two hb (by decide) (by decide)
  obtain ⟨k, l, hmm⟩ := d.room.mem
  obtain ⟨cc, hx⟩ := hmm.head
  obtain ⟨ex, hy⟩ := hmm.body
  have hrC := Seen_unlike h.map hb
  have hrX := Seen_unlike h.map hx
  have hrY := Seen_unlike h.map hy
  have ty : ∀ (g : Nat) (cs : Array Value), w.heap[g]? = some (Obj.cells cs 3 (0, 0)) → w1.heap[g]? = w.heap[g]? := fun g cs hg =>
    ha.block g (Array.getElem?_eq_some_iff.1 hg).1 (MemS_unlike d.room.mem hg (by decide) (by decide)).1 (MemS_unlike d.room.mem hg (by decide) (by decide)).2 (unlikeT hg hb (by decide))
  exact ⟨d.moved hm ha hC (unlikeT hb d.room.lay (by decide)) h2.1 h2.2, h.map.moved (ha.block r h.map.lt (Ne.symm hrX) (Ne.symm hrY) (Ne.symm hrC)), h.ask.moved (fun g cs _ hg => ty g cs hg), h.two.typed ty, h.bE, h.xE, h.yE, h.x2E, h.y2E, h.rE, h.aE, h.WE, Nat.le_trans h.Ew ha.size⟩
end
end Go.Proofs.Ytnphnhafifaaoaa.guard
