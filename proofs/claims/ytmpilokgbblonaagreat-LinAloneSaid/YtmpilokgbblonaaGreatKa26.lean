/- The law SpecPlays answers true at any shape and any operations. -/
import Derived.Test.YtmpilokgbblonaaGreatKa25
namespace Go.Proofs.YtmpilokgbblonaaGreat.spec
open Go.RowKit task

/-- Operations' cells. -/
def opCells (os : List OpV) : List Value := os.flatMap fun o => [.int .i64 o.K, .int .i64 o.Y]
theorem opCells_snoc (os : List OpV) (o : OpV) : opCells (os ++ [o]) = opCells os ++ [.int .i64 o.K, .int .i64 o.Y] := by
  unfold opCells
  rw [List.flatMap_append, List.flatMap_cons, List.flatMap_nil, List.append_nil]
theorem opCells_get : ∀ (os : List OpV) (i : Nat) (hi : i < os.length), (opCells os)[i * 2]? = some (.int .i64 os[i].K) ∧ (opCells os)[i * 2 + 1]? = some (.int .i64 os[i].Y)
  | [], i, hi => absurd hi (by simp)
  | o :: os, 0, _ => ⟨rfl, rfl⟩
  | o :: os, i + 1, hi => by
    obtain ⟨h0, h1⟩ := opCells_get os i (by simpa using hi)
    have e : opCells (o :: os) = .int .i64 o.K :: .int .i64 o.Y :: opCells os := rfl
    rw [e, show (i + 1) * 2 = i * 2 + 1 + 1 by omega]
    exact ⟨h0, h1⟩
/-- Operations in a row of the call's own. -/
def OpRow (w : World) (lo : Nat) (R : Value) (os : List OpV) : Prop := w.ownsRow lo 47 2 R os.length (opCells os)
theorem OpRow.nil (w : World) (lo : Nat) : OpRow w lo (.slice none 0 0) [] := World.ownsRow_nil _ _ _ _
theorem OpRow.form {w : World} {lo : Nat} {R : Value} {os : List OpV} (h : OpRow w lo R os) : ∃ A c, R = .slice A os.length c ∧ os.length ≤ c := by
  rcases h.2 with ⟨rfl, h0⟩ | ⟨g, cap, cur, rfl, _, _, hn, _⟩
  · exact ⟨none, 0, by rw [h0], by omega⟩
  · exact ⟨_, cap, rfl, hn⟩
theorem OpRow.ops {w : World} {lo c : Nat} {A : Option Addr} {os : List OpV} (h : OpRow w lo (.slice A os.length c) os) : OpsAt w A os := by
  intro i hi
  rcases h.2 with ⟨hv, h0⟩ | ⟨g, cap, cur, hv, _⟩
  · omega
  · cases hv
    obtain ⟨h0, h1⟩ := opCells_get os i hi
    have e0 := World.ownsRow.cells h (g := g) rfl _ _ h0
    have e1 := World.ownsRow.cells h (g := g) rfl _ _ h1
    rw [Addr.add_lit, Nat.zero_add] at e0 e1
    refine ⟨_, rfl, ?_⟩
    rw [Addr.add_lit, Nat.zero_add]
    exact ⟨e0, e1⟩
theorem Tryzinfo_op : (Tryz.prog.info? 47).map (fun i => (i.zero, i.size, i.bytes)) = some (some (.agg #[.int .i64 0, .int .i64 0]), 2, 16) := by kernel_rfl
theorem cell_new2 (w : World) (x y : Value) (T : TypeId) {g : Nat} (hg : w.heap.size = g) : ∀ j u, [x, y][j]? = some u → (w.alloc (.cells #[x, y] T)).cell? ((⟨g, 0, none⟩ : Addr).add j) = some u := by
  subst hg
  intro j u hu
  have h := new_block w #[x, y] T
  rw [Addr.add_lit, Joins.cell_of_block h]
  have hj : j < 2 := by
    have := (List.getElem?_eq_some_iff.1 hu).1
    simpa using this
  match j, hj, hu with
  | 0, _, hu => exact hu
  | 1, _, hu => exact hu
theorem one_op (x z : Int) : ∀ u ∈ [Value.int .i64 z, .int .i64 x], u.oneCell' = true := by
  intro u hu
  simp at hu
  rcases hu with rfl | rfl <;> rfl

theorem Mean.cell2 {w : World} {X : Nat} {f : Nat → Prop} {s : Int} {L : List Int} (h : Mean w X f s L) : w.cell? ⟨X, 2, none⟩ = some (.int .i64 s) := by
  obtain ⟨t, h1, _⟩ := h
  exact h1.c2
/-- A meaning, and the operations that were done. -/
structure Plays (W w : World) (X : Nat) (f : Nat → Prop) (s : Int) (did : List OpV) (R : Value) : Prop where
  run : Run W w X f s (stateL s did)
  row : OpRow w W.heap.size R did
  off : ∀ b, R.ownBlock = some b → ¬ f b
  right : allRight s did
theorem Plays.next {W w w' : World} {X : Nat} {f : Nat → Prop} {s : Int} {did : List OpV} {R : Value} (h : Plays W w X f s did R) (hb : Below w.heap.size w w') : Plays W w' X f s did R :=
  ⟨h.run.next hb, owns_below h.row hb, h.off, h.right⟩
/-- Behind an operation: the operation's block, the result's. -/
structure Stp (W w : World) (X : Nat) (f : Nat → Prop) (s : Int) (M : List Int) (b1 b2 : Nat) (K Y : Int) (ok : Bool) (v : Int) (R : Value) (did : List OpV) : Prop where
  run : Run W w X f s M
  row : OpRow w W.heap.size R did
  off : ∀ b, R.ownBlock = some b → ¬ f b
  op : w.heap[b1]? = some (.cells #[.int .i64 K, .int .i64 Y] 47 (0, 0))
  res : w.heap[b2]? = some (.cells #[.int .i64 0, .bool ok, .int .i64 v] 55 (0, 0))
section
variable {W w w' w2 : World} {X : Nat} {f f' : Nat → Prop} {s : Int} {M : List Int} {b1 b2 : Nat} {K Y : Int} {ok : Bool} {v : Int} {R : Value} {did : List OpV}
theorem Stp.next (h : Stp W w X f s M b1 b2 K Y ok v R did) (hb : Below w.heap.size w w') : Stp W w' X f s M b1 b2 K Y ok v R did :=
  ⟨h.run.next hb, owns_below h.row hb, h.off, (hb.block _ (Array.getElem?_eq_some_iff.1 h.op).1).trans h.op, (hb.block _ (Array.getElem?_eq_some_iff.1 h.res).1).trans h.res⟩
structure SCells (w : World) (b1 b2 : Nat) (K Y : Int) (ok : Bool) (v : Int) : Prop where
  k0 : w.cell? ⟨b1, 0, none⟩ = some (.int .i64 K)
  k1 : w.cell? ⟨b1, 1, none⟩ = some (.int .i64 Y)
  r0 : w.cell? ⟨b2, 0, none⟩ = some (.int .i64 0)
  r1 : w.cell? ⟨b2, 1, none⟩ = some (.bool ok)
  r2 : w.cell? ⟨b2, 2, none⟩ = some (.int .i64 v)
theorem Stp.cells (h : Stp W w X f s M b1 b2 K Y ok v R did) : SCells w b1 b2 K Y ok v :=
  ⟨by rw [Joins.cell_of_block h.op]; rfl, by rw [Joins.cell_of_block h.op]; rfl, by rw [Joins.cell_of_block h.res]; rfl, by rw [Joins.cell_of_block h.res]; rfl, by rw [Joins.cell_of_block h.res]; rfl⟩
theorem Stp.of (h : Plays W w X f s did R) (hm : Mean w2 X f' s M) (hw : Went f f' (w.alloc (.cells #[.int .i64 K, .int .i64 Y] 47)) w2) (hg : Good s M) (ok : Bool) (v : Int) :
    Stp W (w2.alloc (.cells #[.int .i64 0, .bool ok, .int .i64 v] 55)) X f' s M w.heap.size w2.heap.size K Y ok v R did := by
  have hb := (Below.refl w2.heap.size w2).alloc (Nat.le_refl _) (.cells #[.int .i64 0, .bool ok, .int .i64 v] 55)
  have hr := (h.run.alloc (.cells #[.int .i64 K, .int .i64 Y] 47)).step hm hw hg
  have hrow : OpRow w2 W.heap.size R did := owns_went (owns_below h.row ((Below.refl _ _).alloc (Nat.le_refl _) _)) hw h.off
  have hop : w2.heap[w.heap.size]? = some (.cells #[.int .i64 K, .int .i64 Y] 47 (0, 0)) := (hw.block _ (by simp) (fun hf => by have := h.run.mean.lt _ hf; omega)).trans (new_block w _ _)
  refine ⟨hr.next hb, owns_below hrow hb, fun b hR => hw.apart ?_ (h.off b hR), ?_, new_block w2 _ _⟩
  · have := (World.ownsRow.lt h.row b hR).2
    simp
    omega
  · rw [Below.heap_alloc _ _ _ (Array.getElem?_eq_some_iff.1 hop).1]
    exact hop
/-- It wasn't one of the shape: all is as it was. -/
theorem Stp.not (h : Stp W w X f s (stateL s did) b1 b2 K Y ok v R did) (hr : allRight s did) : Plays W w X f s did R := ⟨h.run, h.row, h.off, hr⟩
/-- It was one: it is noted. -/
theorem Stp.noted {w4 : World} {R' : Value} (h : Stp W w X f s (nextL s (stateL s did) K Y) b1 b2 K Y ok v R did) (har : allRight s did) (hr : rightB s K Y = true)
    (hown : w4.ownsRow W.heap.size 47 2 R' (did.length + 1) (opCells did ++ [.int .i64 K, .int .i64 Y])) (hg : w.grownBy w4 R.ownBlock) (hat : R'.ownBlock = R.ownBlock ∨ R'.ownBlock = some w.heap.size) : Plays W w4 X f s (did ++ [⟨K, Y⟩]) R' := by
  refine ⟨⟨?_, ?_, h.run.new, h.run.below.grown hg h.run.below.size (fun b hb => (World.ownsRow.lt h.row b hb).1)⟩, ?_, fun b hb hf => ?_, fun o ho => ?_⟩
  · rw [stateL_snoc]
    exact h.run.mean.grown hg h.off
  · rw [stateL_snoc]
    exact h.run.good
  · unfold OpRow
    rw [opCells_snoc, List.length_append]
    exact hown
  · rcases hat with hat | hat
    · exact h.off b (hat.symm.trans hb) hf
    · have := h.run.mean.lt b hf
      have e : w.heap.size = b := Option.some.inj (hat.symm.trans hb)
      omega
  · rcases List.mem_append.1 ho with ho | ho
    · exact har o ho
    · rw [List.mem_singleton.1 ho]; exact hr
end

attribute [local go_sem] eq_res
end Go.Proofs.YtmpilokgbblonaaGreat.spec
/- The law SpecAll answers true at any shape and any operations. -/
namespace Go.Proofs.YtmpilokgbblonaaGreat.spec
open Go.RowKit task

/-- May they be played, the first k of them? -/
def mayTo (s : Int) (os : List OpV) (k : Nat) : Bool := decide (1 ≤ s ∧ s ≤ 4) && (os.take k).all fun o => rightB s o.K o.Y
theorem mayTo_succ (s : Int) (os : List OpV) (k : Nat) (hk : k < os.length) : mayTo s os (k + 1) = (mayTo s os k && rightB s os[k].K os[k].Y) := by
  unfold mayTo
  rw [List.take_succ_eq_append_getElem hk, List.all_append, List.all_cons, List.all_nil, Bool.and_true, Bool.and_assoc]
theorem mayTo_all {s : Int} {os : List OpV} (h : mayTo s os os.length = true) : (1 ≤ s ∧ s ≤ 4) ∧ allRight s os := by
  unfold mayTo at h
  rw [List.take_length, Bool.and_eq_true, decide_eq_true_eq, List.all_eq_true] at h
  exact h
theorem mayTo_not {s : Int} {os : List OpV} (h : mayTo s os os.length = false) (hs : 1 ≤ s ∧ s ≤ 4) : ¬ allRight s os := by
  intro ha
  unfold mayTo at h
  rw [List.take_length, decide_eq_true hs, Bool.true_and] at h
  have : (os.all fun o => rightB s o.K o.Y) = true := List.all_eq_true.2 ha
  rw [h] at this
  exact absurd this (by decide)
theorem first_nil (w : World) (X : Nat) (f : Nat → Prop) (s : Int) (h : Mean w X f s []) :
    Calls Tryz.prog 87 #[.pointer (some ⟨X, 0, none⟩)] w fun e w' => e = .returned (.tuple #[.int .i64 0, .bool false]) ∧ ∃ n, w' = w.drewN n := by
  obtain ⟨t, h1, hi, _⟩ := h
  exact first_none w X s t h1 hi
theorem first_cons (w : World) (X : Nat) (f : Nat → Prop) (s x : Int) (L : List Int) (h : Mean w X f s (x :: L)) (hl : (x :: L).length ≤ 1000) :
    Calls Tryz.prog 87 #[.pointer (some ⟨X, 0, none⟩)] w fun e w' => e = .returned (.tuple #[.int .i64 x, .bool true]) ∧ ∃ n, w' = w.drewN n := by
  obtain ⟨t, h1, hi, _⟩ := h
  exact first_some w X s t x L h1 hi (by rw [hi]; exact hl)
/-- Its items, none. -/
theorem items_nil (w : World) (X : Nat) (f : Nat → Prop) (s : Int) (h : Mean w X f s []) :
    Calls Tryz.prog 38 #[.pointer (some ⟨X, 0, none⟩)] w fun e w' => ∃ A c, e = .returned (.slice A 0 c) ∧ Below w.heap.size w w' :=
  (items_mean w X f s [] h (by simp)).mono fun _ _ ⟨A, c, _, he, _, _, hb⟩ => ⟨A, c, he, hb⟩
/-- Its items, some. -/
theorem items_cons (w : World) (X : Nat) (f : Nat → Prop) (s x : Int) (L : List Int) (h : Mean w X f s (x :: L)) (hl : (x :: L).length ≤ 1000) :
    Calls Tryz.prog 38 #[.pointer (some ⟨X, 0, none⟩)] w fun e w' => ∃ g o n c, e = .returned (.slice (some ⟨g, o, none⟩) n c) ∧ (0 : Int) < (n : Int) ∧ w'.cell? ⟨g, o, none⟩ = some (.int .i64 x) ∧ Below w.heap.size w w' := by
  refine (items_mean w X f s (x :: L) h hl).mono fun _ _ ⟨A, c, g, he, hr, _, hb⟩ => ?_
  obtain ⟨o, hA, hrow⟩ := hr.row (by simp)
  subst hA
  exact ⟨g, o, _, c, he, by simp, hrow.cell (j := 0) (by simp), hb⟩

attribute [local go_sem] eq_res
end Go.Proofs.YtmpilokgbblonaaGreat.spec
/- Those of some operations that are of a shape; a meaning behind them. -/
namespace Go.Proofs.YtmpilokgbblonaaGreat.spec
open Go.RowKit task

def rights (s : Int) (os : List OpV) : List OpV := os.filter fun o => rightB s o.K o.Y
theorem rights_all (s : Int) (os : List OpV) : allRight s (rights s os) := fun o ho => by
  have := (List.mem_filter.1 ho).2
  simpa using this
theorem rights_len (s : Int) (os : List OpV) : (rights s os).length ≤ os.length := List.length_filter_le _ _
theorem rights_succ {s : Int} {os : List OpV} {k : Nat} (hk : k < os.length) : rights s (os.take (k + 1)) = rights s (os.take k) ++ if rightB s os[k].K os[k].Y = true then [os[k]] else [] := by
  unfold rights
  rw [List.take_succ_eq_append_getElem hk, List.filter_append]
  by_cases h : rightB s os[k].K os[k].Y = true <;> simp [h]
/-- Operations that are told. -/
def ToldOps (w : World) (os : List OpV) (e : Ending) (w' : World) : Prop := ∃ A c, e = .returned (.slice A os.length c) ∧ OpRow w' w.heap.size (.slice A os.length c) os ∧ os.length ≤ c ∧ Below w.heap.size w w'

end Go.Proofs.YtmpilokgbblonaaGreat.spec
/- What the law SpecUndoes carries: blocks and rows beside a meaning; what is done and undone, by lists alone. -/
namespace Go.Proofs.YtmpilokgbblonaaGreat.spec
open Go.RowKit task

/-- A block beside a meaning. -/
structure Kp (w : World) (f : Nat → Prop) (b : Nat) (o : Obj) : Prop where
  blk : w.heap[b]? = some o
  off : ¬ f b
section
variable {w w' : World} {f f' : Nat → Prop} {b : Nat} {o : Obj}
theorem Kp.lt (h : Kp w f b o) : b < w.heap.size := (Array.getElem?_eq_some_iff.1 h.blk).1
theorem Kp.went (h : Kp w f b o) (hw : Went f f' w w') : Kp w' f' b o := ⟨(hw.block b h.lt h.off).trans h.blk, hw.apart h.lt h.off⟩
theorem Kp.below (h : Kp w f b o) (hb : Below w.heap.size w w') : Kp w' f b o := ⟨(hb.block b h.lt).trans h.blk, h.off⟩
theorem Kp.new (hf : ∀ b, f b → b < w.heap.size) (cs : Array Value) (T : TypeId) : Kp (w.alloc (.cells cs T)) f w.heap.size (.cells cs T (0, 0)) := ⟨new_block w cs T, fun h => by have := hf _ h; omega⟩
theorem Kp.cell {cs : Array Value} {T : TypeId} {fr : Nat × Nat} (h : Kp w f b (.cells cs T fr)) (i : Nat) : w.cell? ⟨b, i, none⟩ = cs[i]? := Joins.cell_of_block h.blk i
/-- A row of numbers beside a meaning. -/
structure Rk (w : World) (f : Nat → Prop) (g : Nat) (A : Option Addr) (c : Nat) (xs : List Int) : Prop where
  row : Rw w g A c xs
  off : A ≠ none → ¬ f g
variable {g c : Nat} {A : Option Addr} {xs : List Int}
theorem Rk.went (h : Rk w f g A c xs) (hw : Went f f' w w') : Rk w' f' g A c xs := ⟨h.row.moved fun hA => hw.block g (h.row.lt hA) (h.off hA), fun hA => hw.apart (h.row.lt hA) (h.off hA)⟩
theorem Rk.below (h : Rk w f g A c xs) (hb : Below w.heap.size w w') : Rk w' f g A c xs := ⟨h.row.below hb, h.off⟩
end

/-- An operation whose answer is known. -/
theorem do_is (w : World) (X : Nat) (f : Nat → Prop) (s k y v : Int) (ok : Bool) (L M : List Int) (h : Mean w X f s L) (hl : L.length ≤ 999) (hg : Good s L) (hr : rightB s k y = true) (h1 : okB L k y = ok) (h2 : valI L k = v) (h3 : nextL s L k y = M) :
    Calls Tryz.prog 61 #[.pointer (some ⟨X, 0, none⟩), .agg #[.int .i64 k, .int .i64 y]] w fun e w' => ∃ f', e = .returned (.tuple #[.agg #[.int .i64 0, .bool ok, .int .i64 v], .int .i64 0]) ∧ Mean w' X f' s M ∧ Went f f' w w' := by
  subst h1 h2 h3
  exact do_right w X f s k y L h hl hg hr

/-- A set without a key. -/
def woL (x : Int) (L : List Int) : List Int := L.filter fun y => decide (y ≠ x)
theorem woL_len (x : Int) (L : List Int) : (woL x L).length ≤ L.length := List.length_filter_le _ _
theorem woL_take {x : Int} {L : List Int} {k : Nat} (hk : k < L.length) : woL x (L.take (k + 1)) = woL x (L.take k) ++ if L.getD k 0 ≠ x then [L.getD k 0] else [] := by
  have e : L.getD k 0 = L[k] := by simp [List.getD_eq_getElem?_getD, List.getElem?_eq_getElem hk]
  rw [e]
  unfold woL
  rw [List.take_succ_eq_append_getElem hk, List.filter_append]
  by_cases h : L[k] ≠ x <;> simp [h]
theorem wo_not (x : Int) (L : List Int) : x ∉ woL x L := by
  unfold woL
  simp
theorem wo_same {x : Int} {L : List Int} (h : x ∉ L) : woL x L = L := filter_all fun _ hy => decide_eq_true fun e => h (e ▸ hy)
theorem wo_len {x : Int} {L : List Int} (h : x ∈ L) : (woL x L).length < L.length := by
  unfold woL
  rcases Nat.lt_or_ge (L.filter fun y => decide (y ≠ x)).length L.length with h1 | h1
  · exact h1
  · have h2 := List.length_filter_le (fun y => decide (y ≠ x)) L
    have h3 : L.filter (fun y => decide (y ≠ x)) = L := List.length_filter_eq_length_iff.1 (by omega) |> fun h => filter_all h
    have : x ∈ L.filter (fun y => decide (y ≠ x)) := by rw [h3]; exact h
    simp at this
/-- A key put in, asked for, and taken out. -/
structure Undo (s x : Int) (L M : List Int) : Prop where
  m1 : nextL s L 1 x = M
  m3 : nextL s M 3 x = M
  m2 : nextL s M 2 x = woL x L
  m4 : nextL s (woL x L) 2 x = woL x L
  o1 : okB L 1 x = decide ((woL x L).length = L.length)
  o3 : okB M 3 x = true
  o2 : okB M 2 x = true
  o4 : okB (woL x L) 2 x = false
theorem undo_set {s x : Int} {L : List Int} (hs : SetS s) (hg : Good s L) (hr : rightB s 1 x = true) : Undo s x L (nextL s L 1 x) := by
  have hm : x ∈ nextL s L 1 x := by
    rw [next1]
    split
    · assumption
    · simp
  have hmem : ∀ z, z ∈ nextL s L 1 x ↔ z = x ∨ z ∈ L := by
    intro z
    rw [next1]
    by_cases h : x ∈ L
    · rw [if_pos h]
      exact ⟨Or.inr, fun e => e.elim (fun e => e ▸ h) id⟩
    · rw [if_neg h]
      exact mem_ins
  have hw : woL x (nextL s L 1 x) = woL x L := by
    refine rise_ext _ _ (((hg.next hr).rise hs).filter _) ((hg.rise hs).filter _) fun z => ?_
    unfold woL
    simp only [List.mem_filter, decide_eq_true_eq, hmem]
    exact ⟨fun h => ⟨h.1.elim (fun e => absurd e h.2) id, h.2⟩, fun h => ⟨Or.inr h.1, h.2⟩⟩
  refine ⟨rfl, ?_, ?_, ?_, ?_, ?_, ?_, ?_⟩
  · unfold nextL
    rw [if_neg (by decide), if_neg (by decide), if_neg (by decide), if_neg (by decide)]
  · rw [next2]
    exact hw
  · rw [next2]
    exact wo_same (wo_not x L)
  · unfold okB
    rw [if_pos rfl]
    by_cases h : x ∈ L
    · have := wo_len h
      rw [decide_eq_true h, decide_eq_false (by omega)]
      rfl
    · rw [decide_eq_false h, wo_same h, decide_eq_true rfl]
      rfl
  · unfold okB
    rw [if_neg (by decide), if_neg (by decide), if_neg (by decide)]
    exact decide_eq_true hm
  · unfold okB
    rw [if_neg (by decide), if_neg (by decide), if_neg (by decide)]
    exact decide_eq_true hm
  · unfold okB
    rw [if_neg (by decide), if_neg (by decide), if_neg (by decide)]
    exact decide_eq_false (wo_not x L)
theorem undo_ok {s x : Int} {L : List Int} (hg : Good s L) (hr : rightB s 1 x = true) (hs : SetS s) : okB L 1 x = (((woL x L).length : Int) == (L.length : Int)) := by
  rw [(undo_set hs hg hr).o1, Bool.eq_iff_iff]
  simp
  omega
end Go.Proofs.YtmpilokgbblonaaGreat.spec
/- A meaning's copy; whether two are one. -/
namespace Go.Proofs.YtmpilokgbblonaaGreat.spec
open Go.RowKit task

theorem Rw.other {w : World} {g c : Nat} {A : Option Addr} {xs : List Int} (h : Rw w g A c xs) (X : Nat) : ∃ p, Rw w p A c xs ∧ (p = X ∨ A ≠ none ∧ p = g) := by
  rcases h with ⟨rfl, rfl, rfl⟩ | ⟨o, rfl, h⟩
  · exact ⟨X, Or.inl ⟨rfl, rfl, rfl⟩, Or.inl rfl⟩
  · exact ⟨g, Or.inr ⟨o, rfl, h⟩, Or.inr ⟨by simp, rfl⟩⟩
/-- Two copies of rows, and a block more: a meaning. -/
theorem copied {w w1 w2 : World} {g1 c1 g2 c2 : Nat} {A1 A2 : Option Addr} {us vs : List Int} {s : Int} (hb : Below w.heap.size w w1) (h1 : Rw w1 g1 A1 c1 us) (n1 : A1 ≠ none → w.heap.size ≤ g1) (hb2 : Below w1.heap.size w1 w2) (h2 : Rw w2 g2 A2 c2 vs) (n2 : A2 ≠ none → w1.heap.size ≤ g2) :
    ∃ f, Mean (w2.alloc (.cells #[.slice A1 us.length c1, .slice A2 vs.length c2, .int .i64 s] 94)) w2.heap.size f s (us.reverse ++ vs) ∧ ∀ b, f b → w.heap.size ≤ b := by
  have hs := hb.size
  have hs2 := hb2.size
  have hbx := (Below.refl w2.heap.size w2).alloc (Nat.le_refl _) (.cells #[.slice A1 us.length c1, .slice A2 vs.length c2, .int .i64 s] 94)
  have hl1 : A1 ≠ none → g1 < w1.heap.size := fun hA => h1.lt hA
  have hl2 : A2 ≠ none → g2 < w2.heap.size := fun hA => h2.lt hA
  obtain ⟨p, hp, hpe⟩ := ((h1.below hb2).below hbx).other w2.heap.size
  obtain ⟨q, hq, hqe⟩ := (h2.below hbx).other w2.heap.size
  refine ⟨fun b => b = w2.heap.size ∨ b = p ∨ b = q, ⟨⟨p, q, A1, A2, c1, c2, us, vs⟩, ⟨new_block w2 _ _, hp, hq, fun hA hB => ?_⟩, rfl, Or.inl rfl, Or.inr (Or.inl rfl), Or.inr (Or.inr rfl), fun b hb => ?_⟩, fun b hb => ?_⟩
  · show p ≠ q
    have a1 := hl1 hA
    have a2 := hl2 hB
    have a3 := n2 hB
    rcases hpe with e | ⟨_, e⟩ <;> rcases hqe with e' | ⟨_, e'⟩
    · have := hq.lt hB
      have := hp.lt hA
      intro _
      have hk := hp.kind hA
      obtain ⟨k, hk⟩ := hk
      rw [e] at hk
      exact shape_ne (new_block w2 #[.slice A1 us.length c1, .slice A2 vs.length c2, .int .i64 s] 94) hk rfl
    · omega
    · omega
    · omega
  · simp
    rcases hb with rfl | rfl | rfl
    · omega
    · rcases hpe with e | ⟨hA, e⟩
      · omega
      · have := hl1 hA; omega
    · rcases hqe with e | ⟨hA, e⟩
      · omega
      · have := hl2 hA; omega
  · rcases hb with rfl | rfl | rfl
    · omega
    · rcases hpe with e | ⟨hA, e⟩
      · omega
      · have := n1 hA; omega
    · rcases hqe with e | ⟨hA, e⟩
      · omega
      · have := n2 hA; omega

set_option maxRecDepth 100000 in
set_option maxHeartbeats 2000000 in
theorem copy_any (w : World) (X : Nat) (f : Nat → Prop) (s : Int) (L : List Int) (h : Mean w X f s L) (hl : L.length ≤ 1000) :
    Calls Tryz.prog 55 #[.pointer (some ⟨X, 0, none⟩)] w fun e w' => ∃ X' f', e = .returned (.pointer (some ⟨X', 0, none⟩)) ∧ Mean w' X' f' s L ∧ (∀ b, f' b → w.heap.size ≤ b) ∧ Below w.heap.size w w' := by
  obtain ⟨t, h, rfl, _⟩ := h
  have c0 := h.c0
  have c1 := h.c1
  have c2 := h.c2
  have H := Lib.hid h
  clear h
  obtain ⟨p, q, A, B, ca, cb, us, vs⟩ := t
  rw [Parts.items_len] at hl
  simp only at *
  have HU : Hid (us.length ≤ 1000) := by show _ ≤ _; omega
  have HV : Hid (vs.length ≤ 1000) := by show _ ≤ _; omega
  clear hl
  go_enter Tryz.func55, Tryz.ntmps55
  go_wp2
  go_region_held3 (fun wx => wx.cell? ⟨X, 0, none⟩ = some (.slice A us.length ca) ∧ wx.cell? ⟨X, 1, none⟩ = some (.slice B vs.length cb) ∧ wx.cell? ⟨X, 2, none⟩ = some (.int .i64 s)) (go_keep) (first
    | (go_at_call 68; have _t := B1.out; go_loud (refine (clone_any _ q cb B vs (H.out.below B1.out).b HV.out).mono ?_; rintro e w2 ⟨g2, A2, k2, rfl, hr2, hn2, hb2⟩; have R2 := Lib.hid hr2; have N2 := Lib.hid hn2; have B2 := Lib.hid hb2; have e0 := (H.out.below (past B1.out hb2)).c0; have e1 := (H.out.below (past B1.out hb2)).c1; have e2 := (H.out.below (past B1.out hb2)).c2; simp only at e0 e1 e2; clear hr2 hn2 hb2))
    | (go_at_call 68; go_loud (refine (clone_any _ p ca A us (H.out.below (Below.refl _ _).drew).a HU.out).mono ?_; rintro e w1 ⟨g1, A1, k1, rfl, hr1, hn1, hb1⟩; have R1 := Lib.hid hr1; have N1 := Lib.hid hn1; have B1 := Lib.hid (((Below.refl w.heap.size w).drew).trans (hb1.mono (by simp))); have d0 := (H.out.below B1.out).c0; have d1 := (H.out.below B1.out).c1; have d2 := (H.out.below B1.out).c2; simp only at d0 d1 d2; clear hr1 hn1 hb1)))
  go_wp2
  go_returns
  obtain ⟨f', hm, hf⟩ := copied (s := s) B1.out R1.out N1.out B2.out R2.out N2.out
  exact ⟨w2.heap.size, f', rfl, hm, hf, (past B1.out B2.out).alloc (past B1.out B2.out).size _⟩

end Go.Proofs.YtmpilokgbblonaaGreat.spec
