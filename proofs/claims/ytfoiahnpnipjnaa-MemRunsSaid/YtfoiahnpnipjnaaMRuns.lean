/- The law MemRuns answers true at any list of machines and any number of steps. -/
import Derived.Test.YtfoiahnpnipjnaaMRun
import Derived.Laws.AppendOwn
namespace Go.Proofs.Ytfoiahnpnipjnaa.mem
open Go.RowKit

/-- Bytes in memory, nil or not. -/
def BytesAt (w : World) (a : Option Addr) (xs : List Int) : Prop := ∀ i, i < xs.length → 0 ≤ xs.getD i 0 ∧ xs.getD i 0 < 256 ∧ ∃ b, a = some b ∧ w.cell? (b.add i) = some (.int .u8 (xs.getD i 0))
theorem BytesAt.later {w w' : World} {a : Option Addr} {xs : List Int} (h : BytesAt w a xs) (hb : Below w.heap.size w w') : BytesAt w' a xs := by
  intro i hi
  obtain ⟨h0, h1, b, hb1, hc⟩ := h i hi
  exact ⟨h0, h1, b, hb1, (hb.cell (World.block_lt_of_cell? w _ hc)).trans hc⟩

/-- Machines that were made so far. -/
structure Build (W w : World) (X Y E : Nat) (v : Value) (cs : List Nat) (ns : List Int) : Prop where
  st : RunSt w X Y 0
  own : w.ownsRow E 70 1 v cs.length (cs.map mach)
  boxes : ∀ i, i < cs.length → Box w (cs.getD i 0) (cnt (ns.getD i 0)) 55
  len : ns.length = cs.length
  small : Small ns
  rise : ∀ i j, i < j → j < cs.length → cs.getD i 0 < cs.getD j 0
  e : ∀ i, i < cs.length → E ≤ cs.getD i 0
  below : Below W.heap.size W w
  x0 : W.heap.size ≤ X
  y0 : W.heap.size ≤ Y
  xe : X < E
  ye : Y < E
  ew : E ≤ w.heap.size
theorem getD_snoc_lt {α : Type} (l : List α) (x d : α) (i : Nat) (h : i < l.length) : (l ++ [x]).getD i d = l.getD i d := by
  rw [List.getD_eq_getElem?_getD, List.getD_eq_getElem?_getD, List.getElem?_append_left h]
theorem getD_snoc_eq {α : Type} (l : List α) (x d : α) : (l ++ [x]).getD l.length d = x := by
  rw [List.getD_eq_getElem?_getD, List.getElem?_append_right (Nat.le_refl _)]
  simp
/-- The row of machines is none of the machines' blocks. -/
theorem row_apart {w : World} {g c : Nat} {cs : Array Value} {ds : Array Value} {fr : Nat × Nat} (h : w.heap[g]? = some (.cells cs 70 fr)) (hb : Box w c ds 55) : g ≠ c := by
  rintro rfl
  have hb : w.heap[g]? = some (.cells ds 55 (0, 0)) := hb
  rw [h] at hb
  simp at hb
theorem Build.next {W w w1 : World} {X Y E : Nat} {v v' : Value} {cs : List Nat} {ns : List Int} {L : Int} (h : Build W w X Y E v cs ns) (l0 : 1 ≤ L) (l1 : L ≤ 100)
    (hown : w1.ownsRow E 70 1 v' (cs.length + 1) (cs.map mach ++ [mach w.heap.size]))
    (hg : ((w.alloc (.cells (cnt L) 55)).alloc (.cells #[mach w.heap.size] 70)).grownBy w1 v.ownBlock) : Build W w1 X Y E v' (cs ++ [w.heap.size]) (ns ++ [L]) := by
  have hsz := hg.size
  simp at hsz
  -- what the row's own block is
  have hrow : ∀ b, b < w.heap.size → (b < E ∨ ∃ i, i < cs.length ∧ b = cs.getD i 0) → some b ≠ v.ownBlock := by
    intro b hb hor he
    rcases h.own.2 with ⟨rfl, _⟩ | ⟨g, cap, cur, rfl, hge, hgg, _⟩
    · cases he
    · obtain rfl : b = g := Option.some.inj he
      rcases hor with hlt | ⟨i, hi, rfl⟩
      · omega
      · exact row_apart hgg (h.boxes i hi) rfl
  have hkeep : ∀ b, b < w.heap.size → (b < E ∨ ∃ i, i < cs.length ∧ b = cs.getD i 0) → w1.heap[b]? = w.heap[b]? := by
    intro b hb hor
    rw [hg.block b (by simp; omega) (hrow b hb hor), Below.heap_alloc _ _ _ (by simp; omega), Below.heap_alloc _ _ _ hb]
  have hcs : (cs ++ [w.heap.size]).length = cs.length + 1 := by simp
  have hnew : Box w1 w.heap.size (cnt L) 55 := by
    have h1 : Box ((w.alloc (.cells (cnt L) 55)).alloc (.cells #[mach w.heap.size] 70)) w.heap.size (cnt L) 55 := (Box.new w _ _).alloc _
    refine (hg.block _ (by simp; omega) ?_).trans h1
    intro he
    rcases h.own.2 with ⟨rfl, _⟩ | ⟨g, cap, cur, rfl, hge, hgg, _⟩
    · cases he
    · obtain rfl : w.heap.size = g := Option.some.inj he
      have := (Array.getElem?_eq_some_iff.1 hgg).1
      omega
  refine ⟨?_, ?_, ?_, ?_, ?_, ?_, ?_, ?_, h.x0, h.y0, h.xe, h.ye, by have := h.ew; omega⟩
  · obtain ⟨zs, l, hm, hz, hw⟩ := h.st
    exact ⟨zs, l, hm.moved (hkeep X hm.ltX (Or.inl h.xe)) (hkeep Y hm.ltY (Or.inl h.ye)), hz, hw⟩
  · rw [hcs, List.map_append]
    exact hown
  · intro i hi
    rw [hcs] at hi
    by_cases hlt : i < cs.length
    · rw [getD_snoc_lt _ _ _ _ hlt, getD_snoc_lt _ _ _ _ (by rw [h.len]; exact hlt)]
      have hb := h.boxes i hlt
      exact (hkeep _ hb.lt (Or.inr ⟨i, hlt, rfl⟩)).trans hb
    · obtain rfl : i = cs.length := by omega
      have e2 : (ns ++ [L]).getD cs.length 0 = L := by rw [← h.len]; exact getD_snoc_eq _ _ _
      rw [getD_snoc_eq, e2]
      exact hnew
  · rw [hcs, List.length_append, h.len]; rfl
  · intro i hi
    by_cases hlt : i < ns.length
    · rw [getD_snoc_lt _ _ _ _ hlt]; exact h.small i hlt
    · obtain rfl : i = ns.length := by simp at hi; omega
      rw [getD_snoc_eq]; exact ⟨l0, l1⟩
  · intro i j hij hj
    rw [hcs] at hj
    rw [getD_snoc_lt _ _ _ i (by omega)]
    by_cases hlt : j < cs.length
    · rw [getD_snoc_lt _ _ _ _ hlt]; exact h.rise i j hij hlt
    · obtain rfl : j = cs.length := by omega
      rw [getD_snoc_eq]; exact (h.boxes i hij).lt
  · intro i hi
    rw [hcs] at hi
    by_cases hlt : i < cs.length
    · rw [getD_snoc_lt _ _ _ _ hlt]; exact h.e i hlt
    · obtain rfl : i = cs.length := by omega
      rw [getD_snoc_eq]; exact h.ew
  · refine ((h.below.alloc h.below.size _).alloc (by have := h.below.size; simp; omega) _).grown hg (by have := h.below.size; simp; omega) ?_
    intro k hk
    rcases h.own.2 with ⟨rfl, _⟩ | ⟨g, cap, cur, rfl, hge, hgg, _⟩
    · cases hk
    · obtain rfl : g = k := Option.some.inj hk
      have := h.x0; have := h.xe; omega

theorem Tryinfo_mach : (Try.prog.info? 70).map (fun i => (i.zero, i.size, i.bytes)) = some (some .nilIface, 1, 16) := by kernel_rfl
end Go.Proofs.Ytfoiahnpnipjnaa.mem
