/- The library's functions on slices of numbers: a number put in, taken out; copied, compared, turned round. -/
import Derived.Test.YtmpilokgbblonaaGreatKa11
import Derived.IntWalk
import Derived.Deep.QuietTactic
import Derived.BigQuiet
import Derived.LoopTactic
namespace Go.Proofs.YtmpilokgbblonaaGreat.spec
open Go.RowKit task

theorem ghost_setCells (g : Nat) : ∀ (vs : List Value) (o : Nat) (w : World), (w.setCells g o vs).os = w.os ∧ (w.setCells g o vs).tape = w.tape ∧ (w.setCells g o vs).output = w.output ∧ (w.setCells g o vs).heap.size = w.heap.size ∧ ∀ b, b ≠ g → (w.setCells g o vs).heap[b]? = w.heap[b]?
  | [], _, w => ⟨rfl, rfl, rfl, rfl, fun _ _ => rfl⟩
  | v :: vs, o, w => by
    obtain ⟨h1, h2, h3, h4, h5⟩ := ghost_setCells g vs (o + 1) (w.setCell ⟨g, o, none⟩ v)
    exact ⟨h1, h2, h3, h4.trans (by simp), fun b hb => (h5 b hb).trans (Below.heap_setCell _ _ _ _ hb)⟩
/-- A row's own cells are written. -/
theorem went_setCells {w : World} {g : Nat} {A : Option Addr} (hA : A ≠ none) (vs : List Value) (o : Nat) : Went (fun b => A ≠ none ∧ b = g) (fun b => A ≠ none ∧ b = g) w (w.setCells g o vs) := by
  obtain ⟨h1, h2, h3, h4, h5⟩ := ghost_setCells g vs o w
  exact ⟨h1, h2, h3, Nat.le_of_eq h4.symm, fun b _ hb => h5 b (fun e => hb ⟨hA, e⟩), fun b hb => Or.inl hb⟩
theorem Went.own {w w' : World} {g : Nat} {A : Option Addr} (hA : A ≠ none) (h : Went (fun b => A ≠ none ∧ b = g) (fun b => A ≠ none ∧ b = g) w w') : Went (fun b => A ≠ none ∧ b = g) (fun b => b = g) w w' := h.weak (fun _ h => h) (fun _ h => Or.inl ⟨hA, h⟩)
theorem size_setCells (g : Nat) (vs : List Value) (o : Nat) (w : World) : (w.setCells g o vs).heap.size = w.heap.size := (ghost_setCells g vs o w).2.2.2.1
theorem Went.drewN {f f' : Nat → Prop} {w w' : World} (n : Nat) (h : Went f f' (w.drewN n) w') : Went f f' w w' := ⟨h.os, h.tape, h.output, h.size, h.block, h.more⟩

/-- A number put in. -/
def insL (i : Nat) (x : Int) (xs : List Int) : List Int := xs.take i ++ x :: xs.drop i
theorem insL_len {i : Nat} {x : Int} {xs : List Int} (hi : i ≤ xs.length) : (insL i x xs).length = xs.length + 1 := by
  unfold insL
  simp
  omega
theorem insL_get {i : Nat} {x : Int} {xs : List Int} (hi : i ≤ xs.length) (j : Nat) : (insL i x xs).getD j 0 = if j < i then xs.getD j 0 else if j = i then x else xs.getD (j - 1) 0 := by
  unfold insL
  simp only [List.getD_eq_getElem?_getD]
  by_cases h1 : j < i
  · rw [if_pos h1, List.getElem?_append_left (by simp; omega), List.getElem?_take, if_pos h1]
  · rw [if_neg h1, List.getElem?_append_right (by simp; omega)]
    have hl : (xs.take i).length = i := by simp; omega
    rw [hl]
    by_cases h2 : j = i
    · rw [if_pos h2, show j - i = 0 by omega]
      rfl
    · rw [if_neg h2, show j - i = (j - 1 - i) + 1 by omega, List.getElem?_cons_succ, List.getElem?_drop, show i + (j - 1 - i) = j - 1 by omega]
theorem cell_get {xs : List Int} {j : Nat} (hj : j < xs.length) : (xs.map (Value.int .i64))[j]? = some (.int .i64 (xs.getD j 0)) := by
  rw [List.getElem?_map, List.getElem?_eq_getElem hj, List.getD_eq_getElem?_getD, List.getElem?_eq_getElem hj]
  rfl

theorem one_block {w : World} {b : Nat} {x : Int} {T : TypeId} (hv : w.heap[b]? = some (.cells #[.int .i64 x] T (0, 0))) : ∀ j v, [Value.int .i64 x][j]? = some v → w.cell? ⟨b, 0 + j, none⟩ = some v := by
  intro j v hj
  rw [Nat.zero_add, Joins.cell_of_block hv]
  simpa using hj

/-- What Insert tells. -/
def Put (w : World) (g : Nat) (A : Option Addr) (xs ys : List Int) (e : Ending) (w' : World) : Prop :=
  ∃ g' A' c', e = .returned (.slice A' (xs.length + 1) c') ∧ Rw w' g' A' c' ys ∧ A' ≠ none ∧ Went (fun b => A ≠ none ∧ b = g) (fun b => b = g') w w'

set_option maxRecDepth 100000 in
theorem insert_any (w : World) (g c : Nat) (A : Option Addr) (xs : List Int) (i : Nat) (x z : Int) (b : Nat) (h : Rw w g A c xs) (hz : z = (i : Int)) (hi : i ≤ xs.length) (hn : xs.length ≤ 1000)
    (hv : w.heap[b]? = some (.cells #[.int .i64 x] 3 (0, 0))) (hb : A ≠ none → b ≠ g) :
    Calls Tryz.prog 86 #[.slice A xs.length c, .int .i64 z, .slice (some ⟨b, 0, none⟩) 1 1] w (Put w g A xs (insL i x xs)) := by
  subst hz
  have h1v : ∀ v ∈ [Value.int .i64 x], v.oneCell' = true := by intro v hv; rw [List.mem_singleton.1 hv]; rfl
  by_cases hend : i = xs.length
  · subst hend
    have hc : c = c := rfl
    by_cases hroom : xs.length + 1 ≤ c
    · -- there is room: so it isn't nil
      rcases h with ⟨_, h0, _⟩ | ⟨o, rfl, h⟩
      · omega
      · refine (Any2.slices_Insert_int_end_room Tryz.laysInsert g o xs.length c b 0 1 1 [.int .i64 x] w (by omega) hroom h.big rfl (fun j hj => by rw [Nat.add_assoc]; exact h.there (by omega)) (fun j _ => h.free _) (one_block hv) h1v).mono ?_
        rintro e w' ⟨rfl, rfl⟩
        refine ⟨g, _, c, rfl, Or.inr ⟨o, rfl, ?_⟩, by simp, (went_setCells (by simp) _ _).own (by simp)⟩
        obtain ⟨cur, hcur, hs, hval⟩ := h.blk
        obtain ⟨cur', k1, k2, k3, k4⟩ := block_setCells g [.int .i64 x] (o + xs.length) w cur _ _ hcur
        refine ⟨by rw [insL_len (Nat.le_refl _)]; exact hroom, h.big, cur', k1, by omega, fun j hj => ?_⟩
        rw [insL_len (Nat.le_refl _)] at hj
        rw [insL_get (Nat.le_refl _)]
        by_cases hj1 : j < xs.length
        · rw [if_pos hj1, k3 _ (by omega), hval j hj1]
        · have hje : j = xs.length := by omega
          subst hje
          rw [if_neg (by omega), if_pos rfl]
          have := k4 0 (by simp) (by omega)
          simpa using this
    · have hcl : (xs.map (Value.int .i64)).length = xs.length := by simp
      have hlc : xs.length ≤ c := by
        rcases h with ⟨_, _, rfl⟩ | ⟨o, rfl, h⟩
        · simp
        · exact h.len
      refine (Any2.slices_Insert_int_end_grow Tryz.laysInsert A xs.length c b 0 1 1 (xs.map (Value.int .i64)) [.int .i64 x] w (by omega) hlc (by omega) (by omega) hcl rfl ?_ ?_ (one_block hv) h1v).mono ?_
      · intro hA
        rcases h with ⟨_, _, rfl⟩ | ⟨o, rfl, h⟩
        · rfl
        · simp at hA
      · intro a ha j v hj
        rcases h with ⟨hA, _, _⟩ | ⟨o, hA, h⟩
        · rw [ha] at hA; simp at hA
        · obtain rfl : a = ⟨g, o, none⟩ := Option.some.inj (ha.symm.trans hA)
          rw [Addr.add_lit]
          exact h.vals j v hj
      intro e w' hp
      simp only [show Tryz.laysInsert_ren.t 3 = 3 from rfl] at hp
      obtain ⟨rfl, rfl⟩ := hp
      refine ⟨w.heap.size, _, grownCap w (xs.length + 1) c 3, rfl, Or.inr ⟨0, rfl, ?_⟩, by simp, ⟨rfl, rfl, rfl, by simp, fun k hk _ => Below.heap_alloc w.drew _ k hk, fun k hk => Or.inr (Nat.le_of_eq hk.symm)⟩⟩
      have hge := grownCap_ge w (xs.length + 1) c 3
      have hcm := grownCap_le_maxLen w (xs.length + 1) c 3 (by unfold maxLen; omega)
      refine ⟨by rw [insL_len (Nat.le_refl _)]; exact hge, by unfold maxLen at hcm; omega, _, heap_alloc_new w.drew _, ?_, fun j hj => ?_⟩
      · simp [size_zeroCells, Value.cells]
        omega
      · rw [insL_len (Nat.le_refl _)] at hj
        rw [insL_get (Nat.le_refl _), Nat.zero_add, Array.getElem?_append_left (by simp; omega)]
        simp only [List.getElem?_toArray]
        by_cases hj1 : j < xs.length
        · rw [if_pos hj1, List.getElem?_append_left (by simpa using hj1), cell_get hj1]
        · have hje : j = xs.length := by omega
          subst hje
          rw [if_neg (by omega), if_pos rfl, List.getElem?_append_right (by simp)]
          simp
  · have hlt : i < xs.length := by omega
    obtain ⟨o, hA, hr⟩ := h.row (by rintro rfl; simp at hlt)
    subst hA
    clear h
    have hcl : (xs.map (Value.int .i64)).length = xs.length := by simp
    have hdl : ((xs.map (Value.int .i64)).drop i).length = xs.length - i := by simp
    by_cases hroom : xs.length + 1 ≤ c
    · obtain ⟨k, hk, hshape⟩ := hr.kind
      refine (Any2.slices_Insert_int_shift Tryz.laysInsert g o xs.length c i b 0 1 1 (xs.map (Value.int .i64)) [.int .i64 x] w hlt (by omega) hroom hr.big (hb (by simp)) hcl rfl hr.vals (fun j hj => hr.there (by omega)) (fun j _ => hr.free _) (one_block hv) (one_vals xs) h1v
        3 3 1 k (by simp [World.shape?, hv]) hshape (by omega) (Joins.unfrozen_of_block hv _) (Joins.unfrozen_of_block hv _)).mono ?_
      rintro e w' ⟨rfl, rfl⟩
      refine ⟨g, _, c, rfl, Or.inr ⟨o, rfl, ?_⟩, by simp, ?_⟩
      · obtain ⟨cur, hcur, hs, hval⟩ := hr.blk
        obtain ⟨cur1, k1, k2, k3, k4⟩ := block_setCells g ((xs.map (Value.int .i64)).drop i) (o + (i + 1)) w.drew cur _ _ hcur
        obtain ⟨cur2, l1, l2, l3, l4⟩ := block_setCells g [.int .i64 x] (o + i) _ cur1 _ _ k1
        refine ⟨by rw [insL_len hi]; exact hroom, hr.big, cur2, l1, by omega, fun j hj => ?_⟩
        rw [insL_len hi] at hj
        rw [insL_get hi]
        by_cases hj1 : j < i
        · rw [if_pos hj1, l3 _ (by omega), k3 _ (by omega), hval j (by omega)]
        · rw [if_neg hj1]
          by_cases hj2 : j = i
          · subst hj2
            rw [if_pos rfl]
            have := l4 0 (by simp) (by omega)
            simpa using this
          · rw [if_neg hj2, l3 _ (by simp; omega)]
            have := k4 (j - 1 - i) (by rw [hdl]; omega) (by omega)
            rw [show o + (i + 1) + (j - 1 - i) = o + j by omega] at this
            rw [this, List.getElem?_drop, show i + (j - 1 - i) = j - 1 by omega, cell_get (by omega)]
      · have h1 := went_setCells (w := w.drew) (g := g) (A := some ⟨g, o, none⟩) (by simp) ((xs.map (Value.int .i64)).drop i) (o + (i + 1))
        have h2 := went_setCells (w := w.drew.setCells g (o + (i + 1)) ((xs.map (Value.int .i64)).drop i)) (g := g) (A := some ⟨g, o, none⟩) (by simp) [.int .i64 x] (o + i)
        exact ((Went.drewN (w := w) 1 h1).trans h2).own (by simp)
    · refine (Any2.slices_Insert_int_grow Tryz.laysInsert g o xs.length c i b 0 1 1 (xs.map (Value.int .i64)) [.int .i64 x] w hlt (by omega) hr.len (by omega) (by omega) hcl rfl hr.vals (one_block hv) (one_vals xs) h1v).mono ?_
      intro e w' hp
      simp only [show Tryz.laysInsert_ren.t 3 = 3 from rfl] at hp
      obtain ⟨rfl, rfl⟩ := hp
      have hge := grownCap_ge w (xs.length + 1) c 3
      have hcm := grownCap_le_maxLen w (xs.length + 1) c 3 (by unfold maxLen; omega)
      generalize grownCap w (xs.length + 1) c 3 = G at *
      obtain ⟨C, hC⟩ : ∃ C : Array Value, C = (List.take i (xs.map (Value.int .i64))).toArray ++ Builtin.zeroCells (Value.int .i64 0).cells (xs.length + 1 - i) ++ Builtin.zeroCells (Value.int .i64 0).cells (G - (xs.length + 1)) := ⟨_, rfl⟩
      have hCs : C.size = G := by
        rw [hC]
        simp [size_zeroCells, Value.cells]
        omega
      have hCj : ∀ j, j < i → C[j]? = some (.int .i64 (xs.getD j 0)) := by
        intro j hj
        rw [hC, Array.getElem?_append_left (by simp [size_zeroCells, Value.cells]; omega), Array.getElem?_append_left (by simp; omega)]
        simp only [List.getElem?_toArray]
        rw [List.getElem?_take, if_pos hj, cell_get (by omega)]
      rw [← hC]
      clear hC
      have hw0 : (w.alloc (.cells C 3)).drew.heap[w.heap.size]? = some (.cells C 3 (0, 0)) := heap_alloc_new w _
      have hold : ∀ k, k < w.heap.size → (w.alloc (.cells C 3)).drew.heap[k]? = w.heap[k]? := fun k hk => Below.heap_alloc w _ k hk
      have hs0 : w.heap.size ≤ (w.alloc (.cells C 3)).drew.heap.size := by simp [World.drew]
      have hg0 : (w.alloc (.cells C 3)).drew.os = w.os ∧ (w.alloc (.cells C 3)).drew.tape = w.tape ∧ (w.alloc (.cells C 3)).drew.output = w.output := ⟨rfl, rfl, rfl⟩
      generalize (w.alloc (.cells C 3)).drew = W0 at *
      obtain ⟨cur1, k1, k2, k3, k4⟩ := block_setCells w.heap.size [.int .i64 x] i W0 C _ _ hw0
      obtain ⟨p1, p2, p3, p4, p5⟩ := ghost_setCells w.heap.size [.int .i64 x] i W0
      generalize W0.setCells w.heap.size i [.int .i64 x] = W1 at *
      obtain ⟨cur2, l1, l2, l3, l4⟩ := block_setCells w.heap.size ((xs.map (Value.int .i64)).drop i) (i + 1) W1.drew cur1 _ _ k1
      obtain ⟨q1, q2, q3, q4, q5⟩ := ghost_setCells w.heap.size ((xs.map (Value.int .i64)).drop i) (i + 1) W1.drew
      refine ⟨w.heap.size, _, G, rfl, Or.inr ⟨0, rfl, by rw [insL_len hi]; exact hge, by unfold maxLen at hcm; omega, cur2, l1, by omega, fun j hj => ?_⟩, by simp, ?_⟩
      · rw [insL_len hi] at hj
        rw [insL_get hi, Nat.zero_add]
        by_cases hj1 : j < i
        · rw [if_pos hj1, l3 _ (by omega), k3 _ (by omega), hCj j hj1]
        · rw [if_neg hj1]
          by_cases hj2 : j = i
          · subst hj2
            rw [if_pos rfl, l3 _ (by omega)]
            have := k4 0 (by simp) (by omega)
            simpa using this
          · rw [if_neg hj2]
            have := l4 (j - 1 - i) (by rw [hdl]; omega) (by omega)
            rw [show i + 1 + (j - 1 - i) = j by omega] at this
            rw [this, List.getElem?_drop, show i + (j - 1 - i) = j - 1 by omega, cell_get (by omega)]
      · exact ⟨q1.trans (p1.trans hg0.1), q2.trans (p2.trans hg0.2.1), q3.trans (p3.trans hg0.2.2), by rw [q4]; show _ ≤ W1.heap.size; omega,
          fun k hk _ => (q5 k (by omega)).trans ((p5 k (by omega)).trans (hold k hk)), fun k hk => Or.inr (Nat.le_of_eq hk.symm)⟩

/-- A number taken out. -/
def delL (i : Nat) (xs : List Int) : List Int := xs.take i ++ xs.drop (i + 1)
theorem delL_len {i : Nat} {xs : List Int} (hi : i < xs.length) : (delL i xs).length = xs.length - 1 := by
  unfold delL
  simp
  omega
def Cut (w : World) (g : Nat) (A : Option Addr) (c : Nat) (xs ys : List Int) (e : Ending) (w' : World) : Prop :=
  e = .returned (.slice A (xs.length - 1) c) ∧ Rw w' g A c ys ∧ Went (fun b => A ≠ none ∧ b = g) (fun b => A ≠ none ∧ b = g) w w'
theorem delete_any (w : World) (g c : Nat) (A : Option Addr) (xs : List Int) (i : Nat) (z z' : Int) (h : Rw w g A c xs) (hz : z = (i : Int)) (hz' : z' = ((i + 1 : Nat) : Int)) (hi : i < xs.length) :
    Calls Tryz.prog 94 #[.slice A xs.length c, .int .i64 z, .int .i64 z'] w (Cut w g A c xs (delL i xs)) := by
  subst hz
  subst hz'
  obtain ⟨o, hA, hr⟩ := h.row (by rintro rfl; simp at hi)
  subst hA
  clear h
  have h := hr
  clear hr
  refine (Any.slices_Delete_int_cells Tryz.laysDelete g o xs.length c i (i + 1) xs w (Nat.le_refl _) h.len h.big (by omega) (by omega) (fun j hj => h.cell hj) (fun j _ => h.free _)).mono ?_
  rintro e w' ⟨rfl, q, rfl⟩
  have e1 : xs.take xs.length = xs := List.take_length
  rw [e1, show i + 1 - i = 1 by omega]
  refine ⟨rfl, Or.inr ⟨o, rfl, ?_⟩, Went.drewN q (went_setCells (by simp) _ _)⟩
  obtain ⟨cur, hcur, hs, hval⟩ := h.blk
  have hlen := h.len
  obtain ⟨cur', k1, k2, k3, k4⟩ := block_setCells g ((xs.take i ++ xs.drop (i + 1) ++ List.replicate 1 0).map (Value.int .i64)) o (w.drewN q) cur _ _ hcur
  have hl : ((xs.take i ++ xs.drop (i + 1) ++ List.replicate 1 0).map (Value.int .i64)).length = xs.length := by simp; omega
  refine ⟨by rw [delL_len hi]; omega, h.big, cur', k1, by omega, fun j hj => ?_⟩
  have hj2 := hj
  rw [delL_len hi] at hj2
  rw [k4 j (by rw [hl]; omega) (by omega), List.map_append, List.getElem?_append_left (by rw [List.length_map]; exact hj)]
  exact cell_get hj

/-- Which the library tells of a copy. -/
def Cloned (w : World) (xs : List Int) (e : Ending) (w' : World) : Prop :=
  ∃ g' A' c', e = .returned (.slice A' xs.length c') ∧ Rw w' g' A' c' xs ∧ (A' ≠ none → w.heap.size ≤ g') ∧ Below w.heap.size w w'
theorem clone_any (w : World) (g c : Nat) (A : Option Addr) (xs : List Int) (h : Rw w g A c xs) (hn : xs.length ≤ 1000) :
    Calls Tryz.prog 68 #[.slice A xs.length c] w (Cloned w xs) := by
  rcases h with ⟨rfl, rfl, rfl⟩ | ⟨o, rfl, h⟩
  · refine (Any.slices_Clone_int_nil Tryz.laysClone 0 0 w).mono ?_
    rintro e w' ⟨rfl, rfl⟩
    exact ⟨0, none, 0, rfl, Or.inl ⟨rfl, rfl, rfl⟩, fun h => absurd rfl h, Below.refl _ _⟩
  · refine (Any.slices_Clone_int Tryz.laysClone g o xs.length c xs w (Nat.le_refl _) (by omega) (fun j hj => h.cell hj)).mono ?_
    rintro e w' ⟨v', rfl, hown, _, hb⟩
    rw [List.take_length] at hown
    obtain ⟨A', c', g', rfl, h1, h2, _⟩ := Rw.ofOwns hown
    exact ⟨g', A', c', rfl, h1, h2, hb⟩
/-- The first n turned round. -/
def turnL (n : Nat) (xs : List Int) : List Int := (xs.take n).reverse ++ xs.drop n
def Turned (w : World) (g : Nat) (A : Option Addr) (c : Nat) (ys : List Int) (e : Ending) (w' : World) : Prop :=
  e = .returned (.tuple #[]) ∧ Rw w' g A c ys ∧ Went (fun b => A ≠ none ∧ b = g) (fun b => A ≠ none ∧ b = g) w w'
theorem reverse_any (w : World) (g c n : Nat) (A : Option Addr) (xs : List Int) (h : Rw w g A c xs) (hn : n ≤ xs.length) :
    Calls Tryz.prog 63 #[.slice A n c] w (Turned w g A c (turnL n xs)) := by
  rcases h with ⟨rfl, rfl, rfl⟩ | ⟨o, rfl, h⟩
  · obtain rfl : n = 0 := by simpa using hn
    refine (Any.slices_Reverse_int_empty Tryz.laysReverse none 0 w).mono ?_
    rintro e w' ⟨rfl, rfl⟩
    exact ⟨rfl, Or.inl ⟨rfl, rfl, rfl⟩, rfl, rfl, rfl, Nat.le_refl _, fun _ _ _ => rfl, fun _ h => Or.inl h⟩
  · have hlen := h.len
    have hbig := h.big
    refine (Any.slices_Reverse_int_cells Tryz.laysReverse g o n c xs w hn (by omega) (fun j hj => h.cell hj) (fun j _ => h.free _)).mono ?_
    rintro e w' ⟨rfl, q, rfl⟩
    refine ⟨rfl, Or.inr ⟨o, rfl, ?_⟩, Went.drewN q (went_setCells (by simp) _ _)⟩
    obtain ⟨cur, hcur, hs, hval⟩ := h.blk
    obtain ⟨cur', k1, k2, k3, k4⟩ := block_setCells g ((xs.take n).reverse.map (Value.int .i64)) o (w.drewN q) cur _ _ hcur
    have hl : ((xs.take n).reverse.map (Value.int .i64)).length = n := by simp; omega
    have ht : (turnL n xs).length = xs.length := by unfold turnL; simp; omega
    refine ⟨by rw [ht]; exact hlen, hbig, cur', k1, by omega, fun j hj => ?_⟩
    rw [← cell_get hj]
    rw [ht] at hj
    unfold turnL
    rw [List.map_append]
    by_cases hjn : j < n
    · rw [k4 j (by rw [hl]; exact hjn) (by omega), List.getElem?_append_left (by rw [hl]; exact hjn)]
    · rw [k3 _ (by rw [hl]; omega), hval j hj, List.getElem?_append_right (by rw [hl]; omega), hl, List.map_drop, List.getElem?_drop, show n + (j - n) = j by omega, cell_get hj]
end Go.Proofs.YtmpilokgbblonaaGreat.spec
/- How many items a meaning has; the item at a place; the place of a key. -/
namespace Go.Proofs.YtmpilokgbblonaaGreat.spec
open Go.RowKit task

theorem wrap_sum (a b : Nat) (h : a + b ≤ 1000) : IntKind.i64.wrap ((a : Int) + (b : Int)) = (a : Int) + (b : Int) := by rw [IntKind.wrap_i64]; omega

set_option maxHeartbeats 400000 in
theorem len_any (w : World) (X : Nat) (s : Int) (t : Parts) (h : Two w X s t) (hl : t.items.length ≤ 1000) :
    Calls Tryz.prog 82 #[.pointer (some ⟨X, 0, none⟩)] w fun e w' => e = .returned (.int .i64 (t.items.length : Nat)) ∧ ∃ n, w' = w.drewN n := by
  have c0 := h.c0
  have c1 := h.c1
  clear h
  obtain ⟨p, q, A, B, ca, cb, us, vs⟩ := t
  rw [Parts.items_len] at hl ⊢
  simp only at *
  have hs := wrap_sum us.length vs.length hl
  generalize us.length = a at *
  generalize vs.length = b at *
  go_enter Tryz.func82, Tryz.ntmps82
  go_wp2
  go_quiet (fail)
  go_wp2
  go_returns
  exact ⟨by simp, _, rfl⟩

set_option maxHeartbeats 1000000 in
theorem at_any (w : World) (X : Nat) (s : Int) (t : Parts) (h : Two w X s t) (hl : t.items.length ≤ 1000) (k : Nat) (z : Int) (hz : z = (k : Int)) (hk : k < t.items.length) :
    Calls Tryz.prog 85 #[.pointer (some ⟨X, 0, none⟩), .int .i64 z] w fun e w' => e = .returned (.int .i64 (t.items.getD k 0)) ∧ w = w' := by
  subst hz
  have c0 := h.c0
  have c1 := h.c1
  have ha := h.a
  have hb := h.b
  clear h
  obtain ⟨p, q, A, B, ca, cb, us, vs⟩ := t
  rw [Parts.items_len] at hl hk
  simp only at *
  by_cases hlt : k < us.length
  · have he : (⟨p, q, A, B, ca, cb, us, vs⟩ : Parts).items.getD k 0 = us.getD (us.length - 1 - k) 0 := by
      unfold Parts.items
      simp only [List.getD_eq_getElem?_getD]
      rw [List.getElem?_append_left (by simpa using hlt), List.getElem?_reverse hlt]
    rw [he]
    clear he
    obtain ⟨o, hA, hr⟩ := ha.row (by rintro rfl; simp at hlt)
    subst hA
    have hc := hr.cell (j := us.length - 1 - k) (by omega)
    clear hr ha hb
    generalize us.getD (us.length - 1 - k) 0 = x at *
    generalize us.length = a at *
    obtain ⟨m, rfl⟩ : ∃ m, a = k + 1 + m := ⟨a - (k + 1), by omega⟩
    have hm : k + 1 + m - 1 - k = m := by omega
    rw [hm] at hc
    clear hm
    have hi : ((k + 1 + m : Nat) : Int) - 1 - (k : Int) = (m : Int) := by omega
    have hlt2 : (k : Int) < ((k + 1 + m : Nat) : Int) := by omega
    have hm0 : (m : Int) < ((k + 1 + m : Nat) : Int) := by omega
    generalize ((k + 1 + m : Nat) : Int) = S at *
    go_enter Tryz.func85, Tryz.ntmps85
    go_wp2
    go_returns
    exact ⟨rfl, rfl⟩
  · have he : (⟨p, q, A, B, ca, cb, us, vs⟩ : Parts).items.getD k 0 = vs.getD (k - us.length) 0 := by
      unfold Parts.items
      simp only [List.getD_eq_getElem?_getD]
      rw [List.getElem?_append_right (by simp; omega), List.length_reverse]
    rw [he]
    clear he
    obtain ⟨o, hB, hr⟩ := hb.row (by rintro rfl; simp at hk; omega)
    subst hB
    have hc := hr.cell (j := k - us.length) (by omega)
    clear hr ha hb
    generalize vs.getD (k - us.length) 0 = x at *
    generalize us.length = a at *
    generalize vs.length = b at *
    obtain ⟨m, rfl⟩ : ∃ m, k = a + m := ⟨k - a, by omega⟩
    have hm : a + m - a = m := by omega
    rw [hm] at hc
    clear hm
    have hi : ((a + m : Nat) : Int) - (a : Int) = (m : Int) := by omega
    have hlt2 : ¬ ((a + m : Nat) : Int) < (a : Int) := by omega
    have hm0 : (m : Int) < (b : Int) := by omega
    generalize ((a + m : Nat) : Int) = S at *
    go_enter Tryz.func85, Tryz.ntmps85
    go_wp2
    go_returns
    exact ⟨rfl, rfl⟩

set_option maxHeartbeats 1000000 in
theorem first_none (w : World) (X : Nat) (s : Int) (t : Parts) (h : Two w X s t) (hl : t.items = []) :
    Calls Tryz.prog 87 #[.pointer (some ⟨X, 0, none⟩)] w fun e w' => e = .returned (.tuple #[.int .i64 0, .bool false]) ∧ ∃ n, w' = w.drewN n := by
  have H := Lib.hid h
  have HL := Lib.hid hl
  clear h hl
  go_enter Tryz.func87, Tryz.ntmps87
  go_wp2_with (go_at_call 82; refine (len_any _ X s t H.out (by rw [HL.out]; simp)).mono ?_; rw [HL.out]; rintro e w1 ⟨rfl, n, rfl⟩)
  go_returns
  exact ⟨rfl, n, rfl⟩
set_option maxHeartbeats 1000000 in
theorem first_some (w : World) (X : Nat) (s : Int) (t : Parts) (x : Int) (L : List Int) (h : Two w X s t) (hl : t.items = x :: L) (hn : t.items.length ≤ 1000) :
    Calls Tryz.prog 87 #[.pointer (some ⟨X, 0, none⟩)] w fun e w' => e = .returned (.tuple #[.int .i64 x, .bool true]) ∧ ∃ n, w' = w.drewN n := by
  have H := Lib.hid h
  have HL := Lib.hid hl
  have HN := Lib.hid hn
  have hp : ¬ ((t.items.length : Nat) : Int) = 0 := by rw [hl]; simp; omega
  have he : t.items.getD 0 0 = x := by rw [hl]; rfl
  have HE := Lib.hid he
  clear h hl hn he
  go_enter Tryz.func87, Tryz.ntmps87
  go_wp2_with (first
    | (go_at_call 82; refine (len_any _ X s t H.out HN.out).mono ?_; rintro e w1 ⟨rfl, n, rfl⟩)
    | (go_at_call 85; refine (at_any _ X s t (H.out.drewN n) HN.out 0 _ rfl (by rw [HL.out]; simp)).mono ?_; rw [HE.out]; rintro e w2 ⟨rfl, hw⟩; obtain rfl : w.drewN n = w2 := hw))
  go_returns
  exact ⟨rfl, n, rfl⟩

/-- What the search asks with: the key, and the meaning, each in a block. -/
structure Ask (w : World) (K P X : Nat) (y : Int) : Prop where
  key : w.cell? ⟨K, 0, none⟩ = some (.int .i64 y)
  ptr : w.cell? ⟨P, 0, none⟩ = some (.pointer (some ⟨X, 0, none⟩))
theorem Ask.drewN {w : World} {K P X : Nat} {y : Int} (h : Ask w K P X y) (n : Nat) : Ask (w.drewN n) K P X y := ⟨h.key, h.ptr⟩

set_option maxHeartbeats 1000000 in
theorem cmp_any (w : World) (K P X : Nat) (y s : Int) (t : Parts) (hq : Ask w K P X y) (h : Two w X s t) (hl : t.items.length ≤ 1000) (k : Nat) (z : Int) (hz : z = (k : Int)) (hk : k < t.items.length) :
    Calls Tryz.prog 83 #[.int .i64 z, .pointer (some ⟨K, 0, none⟩), .pointer (some ⟨P, 0, none⟩)] w fun e w' => e = .returned (.int .i64 (Lib.compareInt y (t.items.getD k 0))) ∧ ∃ n, w' = w.drewN n := by
  have H := Lib.hid h
  have HL := Lib.hid hl
  have HZ := Lib.hid hz
  have HK := Lib.hid hk
  have c0 := hq.key
  have c1 := hq.ptr
  clear h hl hq hz hk
  go_enter Tryz.func83, Tryz.ntmps83
  go_wp2
  go_quiet ((first
    | (go_at_call 85; refine Calls.quiet_of_same ((at_any _ X s t (H.out.drewN _) HL.out k _ HZ.out HK.out).mono fun e w' ⟨he, hw⟩ => ⟨he, hw.symm⟩))
    | (go_at_call 84; refine Calls.quiet_of_same (Any.cmp_Compare_int Tryz.laysCompare _ _ _))))
  go_wp2
  go_returns
  exact ⟨rfl, _, rfl⟩
end Go.Proofs.YtmpilokgbblonaaGreat.spec
