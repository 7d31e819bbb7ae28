/- Operations done one by one, each at its moment, begun ahead of it and ended behind it: their history, event by event; the order of their moments is legal. By lists alone. -/
import Derived.Test.YtmpilokgbblonaaGreatKa14
import Derived.Test.YtmpilokgbblonaaGreatKa07
import Derived.Test.YtmpilokgbblonaaGreatRows
import Derived.WalkKit
import Derived.Deep.QuietTactic
import Derived.BigQuiet
import Derived.Below
namespace Go.Proofs.YtmpilokgbblonaaGreat.lin
open hist (ClV EvV befB callsE pendE errE ValidE calls_begin calls_end pend_snoc valid_snoc valid_nil close_no close_yes closeC)
open spec (OpV nextL okB valI okR valR stateL allRight)
open task (rightB)

/-- How many of the first n. -/
def cntB (b : Nat → Bool) (n : Nat) : Nat := ((List.range n).filter b).length
theorem cnt_succ (b : Nat → Bool) (n : Nat) : cntB b (n + 1) = cntB b n + if b n = true then 1 else 0 := by
  unfold cntB
  rw [List.range_succ, List.filter_append, List.length_append, List.filter_cons]
  split <;> simp
theorem cnt_same {b b' : Nat → Bool} : ∀ n, (∀ i, i < n → b' i = b i) → cntB b' n = cntB b n
  | 0, _ => rfl
  | n + 1, h => by rw [cnt_succ, cnt_succ, cnt_same n fun i hi => h i (by omega), h n (by omega)]
theorem cnt_more {b b' : Nat → Bool} {k : Nat} (hb : b k = false) (hb' : b' k = true) (h : ∀ i, i ≠ k → b' i = b i) : ∀ n, k < n → cntB b' n = cntB b n + 1
  | n + 1, hk => by
    rw [cnt_succ, cnt_succ]
    by_cases hkn : k = n
    · subst hkn
      rw [cnt_same k fun i hi => h i (by omega), hb, hb']
      simp
    · rw [cnt_more hb hb' h n (by omega), h n (by omega)]
      omega
theorem cnt_all {b : Nat → Bool} : ∀ n, (∀ i, i < n → b i = true) → cntB b n = n
  | 0, _ => rfl
  | n + 1, h => by rw [cnt_succ, cnt_all n fun i hi => h i (by omega), h n (by omega), if_pos rfl]
theorem cnt_none : ∀ n, cntB (fun _ => false) n = 0
  | 0 => rfl
  | n + 1 => by rw [cnt_succ, cnt_none n]; rfl

/-- The operations xs: b says which have begun, e which have ended, id what call each one is. -/
structure RunI (s : Int) (xs : List OpV) (l : List EvV) (b e : Nat → Bool) (id : Nat → Nat) : Prop where
  valid : ValidE l
  pend : ∀ i, i < xs.length → pendE l (i : Int) = (b i && !e i)
  call : ∀ i (h : i < xs.length), b i = true → ∃ c, (callsE l)[id i]? = some c ∧ c.T = (i : Int) ∧ c.K = xs[i].K ∧ c.Y = xs[i].Y ∧ c.B < l.length ∧
    (e i = false → c.D < 0) ∧ (e i = true → 0 ≤ c.D ∧ c.C = 0 ∧ c.O = okR s (xs.take i) xs[i].K xs[i].Y ∧ c.V = valR s (xs.take i) xs[i].K)
  all : ∀ k, k < (callsE l).length → ∃ i, i < xs.length ∧ b i = true ∧ id i = k
  count : (callsE l).length = cntB b xs.length
  order : ∀ i j, j < xs.length → i ≤ j → e j = true → b i = true ∧ ∀ ci cj, (callsE l)[id i]? = some ci → (callsE l)[id j]? = some cj → ci.B < cj.D
theorem run_nil (s : Int) (xs : List OpV) : RunI s xs [] (fun _ => false) (fun _ => false) (fun _ => 0) :=
  ⟨valid_nil, fun _ _ => rfl, fun i _ h => by simp at h, fun k h => by simp [callsE, hist.callsGo] at h, by rw [cnt_none]; rfl, fun i j _ _ h => by simp at h⟩
section
variable {s : Int} {xs : List OpV} {l : List EvV} {b e b' e' : Nat → Bool} {id : Nat → Nat}
theorem RunI.same (h : RunI s xs l b e id) (hb : ∀ i, i < xs.length → b' i = b i) (he : ∀ i, i < xs.length → e' i = e i) : RunI s xs l b' e' id := by
  refine ⟨h.valid, fun i hi => by rw [hb i hi, he i hi]; exact h.pend i hi, fun i hi hbi => ?_, fun k hk => ?_, by rw [h.count]; exact (cnt_same _ hb).symm, fun i j hj hij hej => ?_⟩
  · rw [hb i hi] at hbi
    rw [he i hi]
    exact h.call i hi hbi
  · obtain ⟨i, hi, h1, h2⟩ := h.all k hk
    exact ⟨i, hi, by rw [hb i hi]; exact h1, h2⟩
  · rw [he j hj] at hej
    rw [hb i (by omega)]
    exact h.order i j hj hij hej
/-- One begins. -/
theorem RunI.begin_ (h : RunI s xs l b e id) {k : Nat} (hk : k < xs.length) (hn : xs.length ≤ 8) (hb : b k = false) (he : e k = false) (hb' : b' k = true) (hs : ∀ i, i ≠ k → b' i = b i) :
    errE l ⟨k, false, xs[k].K, xs[k].Y, 0, false, 0⟩ = 0 ∧ RunI s xs (l ++ [⟨k, false, xs[k].K, xs[k].Y, 0, false, 0⟩]) b' e (fun i => if i = k then (callsE l).length else id i) := by
  have hp := h.pend k hk
  rw [hb] at hp
  have herr : errE l ⟨k, false, xs[k].K, xs[k].Y, 0, false, 0⟩ = 0 := by
    unfold errE
    rw [if_neg (by show ¬ ((k : Int) < 0 ∨ 7 < (k : Int)); omega)]
    show (if (!false && pendE l k) = true then (1 : Int) else if (false && !pendE l k) = true then 5 else 0) = 0
    rw [hp]
    rfl
  have hc := calls_begin herr rfl
  refine ⟨herr, valid_snoc.2 ⟨h.valid, herr⟩, fun i hi => ?_, fun i hi hbi => ?_, fun m hm => ?_, ?_, fun i j hj hij hej => ?_⟩
  · rw [pend_snoc]
    by_cases hik : i = k
    · subst hik
      rw [if_pos rfl, hb', he]
      rfl
    · rw [if_neg (by show ¬ (k : Int) = (i : Int); omega), hs i hik]
      exact h.pend i hi
  · rw [hc]
    by_cases hik : i = k
    · subst hik
      rw [if_pos rfl]
      refine ⟨⟨(i : Int), (l.length : Nat), -1, xs[i].K, xs[i].Y, 0, false, 0⟩, by simp, rfl, rfl, rfl, by show (l.length : Int) < _; simp <;> omega, fun _ => by show (-1 : Int) < 0; omega, fun h2 => ?_⟩
      rw [he] at h2
      exact absurd h2 (by decide)
    · rw [if_neg hik]
      rw [hs i hik] at hbi
      obtain ⟨c, h1, h2, h3, h4, h5, h6⟩ := h.call i hi hbi
      exact ⟨c, by rw [List.getElem?_append_left (List.getElem?_eq_some_iff.1 h1).1]; exact h1, h2, h3, h4, by simp; omega, h6⟩
  · rw [hc, List.length_append] at hm
    simp at hm
    by_cases hml : m < (callsE l).length
    · obtain ⟨i, hi, h1, h2⟩ := h.all m hml
      have hik : i ≠ k := by rintro rfl; rw [hb] at h1; exact absurd h1 (by decide)
      exact ⟨i, hi, by rw [hs i hik]; exact h1, by rw [if_neg hik]; exact h2⟩
    · exact ⟨k, hk, hb', by rw [if_pos rfl]; omega⟩
  · rw [hc, List.length_append, h.count, cnt_more hb hb' hs xs.length hk]
    rfl
  · obtain ⟨h1, h2⟩ := h.order i j hj hij hej
    have hik : i ≠ k := by rintro rfl; rw [hb] at h1; exact absurd h1 (by decide)
    have hjk : j ≠ k := by rintro rfl; rw [he] at hej; exact absurd hej (by decide)
    refine ⟨by rw [hs i hik]; exact h1, fun ci cj hci hcj => ?_⟩
    rw [if_neg hik, hc] at hci
    rw [if_neg hjk, hc] at hcj
    obtain ⟨c1, g1, _⟩ := h.call i (by omega) h1
    obtain ⟨c2, g2, _⟩ := h.call j hj (by
      have := (h.order j j hj (Nat.le_refl _) hej).1
      exact this)
    rw [List.getElem?_append_left (List.getElem?_eq_some_iff.1 g1).1] at hci
    rw [List.getElem?_append_left (List.getElem?_eq_some_iff.1 g2).1] at hcj
    exact h2 ci cj hci hcj
/-- One ends, told what the document says behind those whose moments were ahead of its own. -/
theorem RunI.end_ (h : RunI s xs l b e id) {k : Nat} (hk : k < xs.length) (hn : xs.length ≤ 8) (hb : ∀ i, i ≤ k → b i = true) (he : e k = false) (he' : e' k = true) (hs : ∀ i, i ≠ k → e' i = e i) :
    errE l ⟨k, true, 0, 0, 0, okR s (xs.take k) xs[k].K xs[k].Y, valR s (xs.take k) xs[k].K⟩ = 0 ∧ RunI s xs (l ++ [⟨k, true, 0, 0, 0, okR s (xs.take k) xs[k].K xs[k].Y, valR s (xs.take k) xs[k].K⟩]) b e' id := by
  have hbk := hb k (Nat.le_refl _)
  have hp := h.pend k hk
  rw [hbk, he] at hp
  have herr : errE l ⟨k, true, 0, 0, 0, okR s (xs.take k) xs[k].K xs[k].Y, valR s (xs.take k) xs[k].K⟩ = 0 := by
    unfold errE
    rw [if_neg (by show ¬ ((k : Int) < 0 ∨ 7 < (k : Int)); omega)]
    show (if (!true && pendE l k) = true then (1 : Int) else if (true && !pendE l k) = true then 5 else 0) = 0
    rw [hp]
    rfl
  obtain ⟨v, hv⟩ : ∃ v : EvV, v = ⟨k, true, 0, 0, 0, okR s (xs.take k) xs[k].K xs[k].Y, valR s (xs.take k) xs[k].K⟩ := ⟨_, rfl⟩
  rw [← hv] at herr ⊢
  have hvT : v.T = (k : Int) := by rw [hv]
  have hvE : v.E = true := by rw [hv]
  have hc := calls_end (l := l) hvE
  have get : ∀ {m : Nat} {c : ClV}, (callsE l)[m]? = some c → (callsE (l ++ [v]))[m]? = some (closeC v l.length c) := fun {m c} hm => by rw [hc, List.getElem?_map, hm]; rfl
  refine ⟨herr, valid_snoc.2 ⟨h.valid, herr⟩, fun i hi => ?_, fun i hi hbi => ?_, fun m hm => ?_, by rw [hc, List.length_map]; exact h.count, fun i j hj hij hej => ?_⟩
  · rw [pend_snoc, hvT]
    by_cases hik : i = k
    · subst hik
      rw [if_pos rfl, hvE, he']
      cases b i <;> rfl
    · rw [if_neg (by omega), hs i hik]
      exact h.pend i hi
  · obtain ⟨c, h1, h2, h3, h4, h5, h6, h7⟩ := h.call i hi hbi
    refine ⟨closeC v l.length c, get h1, by rw [(hist.close_T v l.length c).1]; exact h2, ?_, ?_, by rw [(hist.close_T v l.length c).2]; simp; omega, ?_, ?_⟩
    · unfold closeC; split <;> exact h3
    · unfold closeC; split <;> exact h4
    · intro hei
      have hik : i ≠ k := by rintro rfl; rw [he'] at hei; exact absurd hei (by decide)
      rw [close_no (fun hh => by rw [h2, hvT] at hh; have := hh.2; omega)]
      exact h6 (by rw [← hs i hik]; exact hei)
    · intro hei
      by_cases hik : i = k
      · subst hik
        rw [close_yes ⟨h6 he, by rw [h2, hvT]⟩, hv]
        exact ⟨Int.natCast_nonneg _, rfl, rfl, rfl⟩
      · rw [close_no (fun hh => by rw [h2, hvT] at hh; have := hh.2; omega)]
        exact h7 (by rw [← hs i hik]; exact hei)
  · rw [hc, List.length_map] at hm
    exact h.all m hm
  · have hbi : b i = true := by
      by_cases hjk : j = k
      · exact hb i (by omega)
      · exact (h.order i j hj hij (by rw [← hs j hjk]; exact hej)).1
    have hbj : b j = true := by
      by_cases hjk : j = k
      · exact hb j (by omega)
      · exact (h.order j j hj (Nat.le_refl _) (by rw [← hs j hjk]; exact hej)).1
    refine ⟨hbi, fun ci cj hci hcj => ?_⟩
    obtain ⟨c1, g1, k1, _, _, k5, _⟩ := h.call i (by omega) hbi
    obtain ⟨c2, g2, k2, _, _, _, k6, k7⟩ := h.call j hj hbj
    obtain rfl := Option.some.inj ((get g1).symm.trans hci)
    obtain rfl := Option.some.inj ((get g2).symm.trans hcj)
    rw [(hist.close_T v l.length c1).2]
    by_cases hjk : j = k
    · subst hjk
      rw [close_yes ⟨k6 he, by rw [k2, hvT]⟩]
      exact k5
    · rw [close_no (fun hh => by rw [k2, hvT] at hh; have := hh.2; omega)]
      exact (h.order i j hj hij (by rw [← hs j hjk]; exact hej)).2 c1 c2 g1 g2
/-- All have ended: the order of their moments is legal. -/
theorem RunI.legal (h : RunI s xs l b e id) (hr : allRight s xs) (hb : ∀ i, i < xs.length → b i = true) (he : ∀ i, i < xs.length → e i = true) : (sysOf s (callsE l)).Legal ((List.range xs.length).map id) := by
  have hl : (callsE l).length = xs.length := by rw [h.count, cnt_all _ hb]
  have lt : ∀ i, i < xs.length → id i < (callsE l).length := fun i hi => by
    obtain ⟨c, h1, _⟩ := h.call i hi (hb i hi)
    exact (List.getElem?_eq_some_iff.1 h1).1
  have inj : ∀ i j, i < xs.length → j < xs.length → id i = id j → i = j := fun i j hi hj hij => by
    obtain ⟨c1, g1, k1, _⟩ := h.call i hi (hb i hi)
    obtain ⟨c2, g2, k2, _⟩ := h.call j hj (hb j hj)
    rw [hij] at g1
    obtain rfl := Option.some.inj (g1.symm.trans g2)
    rw [k1] at k2
    omega
  have ops : ∀ k, k ≤ xs.length → opsL (callsE l) ((List.range k).map id) = xs.take k := by
    intro k
    induction k with
    | zero => intro _; rfl
    | succ k ih =>
      intro hk
      have hkl : k < xs.length := by omega
      obtain ⟨c, g1, _, g3, g4, _⟩ := h.call k hkl (hb k hkl)
      obtain ⟨hlt, hc⟩ := List.getElem?_eq_some_iff.1 g1
      rw [List.range_succ, List.map_append, List.map_cons, List.map_nil, ops_snoc hlt, ih (by omega), List.take_succ_eq_append_getElem hkl, hc, g3, g4]
  have key : ∀ k, k ≤ xs.length → (sysOf s (callsE l)).Ok ((List.range k).map id) := by
    intro k
    induction k with
    | zero => intro _; exact ok_nil
    | succ k ih =>
      intro hk
      have hkl : k < xs.length := by omega
      have ih := ih (by omega)
      obtain ⟨c, g1, g2, g3, g4, _, _, g7⟩ := h.call k hkl (hb k hkl)
      obtain ⟨hd, hc0, ho, hv⟩ := g7 (he k hkl)
      obtain ⟨hlt, hc⟩ := List.getElem?_eq_some_iff.1 g1
      have hrk : rightB s c.K c.Y = true := by rw [g3, g4]; exact hr _ (List.getElem_mem hkl)
      rw [List.range_succ, List.map_append, List.map_cons, List.map_nil]
      refine ok_snoc.2 ⟨ih, fit_iff.2 ⟨hlt, fun hm => ?_, ?_, fun j hj => ?_, ?_⟩⟩
      · obtain ⟨i, hi, hik⟩ := List.mem_map.1 hm
        rw [List.mem_range] at hi
        have := inj i k (by omega) hkl hik
        omega
      · rw [sys_may hlt, hc]
        unfold mayC
        rw [hrk]
        simp [hc0]
      · obtain ⟨i, hi, rfl⟩ := List.mem_map.1 hj
        rw [List.mem_range] at hi
        have hil := lt i (by omega)
        obtain ⟨_, ho2⟩ := h.order i k hkl (by omega) (he k hkl)
        have h3 := ho2 _ _ (List.getElem?_eq_getElem hil) g1
        rw [sys_bef hlt hil, hc]
        exact decide_eq_false (by omega)
      · rw [sys_tells hlt, hc, ok_run ih, ops k (by omega), told_same (fun o ho => hr o (List.mem_of_mem_take ho)) hrk]
        unfold toldR
        rw [ho, hv, g3, g4]
        simp [hc0]
  refine ⟨key _ (Nat.le_refl _), whole_iff.2 fun i hi _ => ?_⟩
  obtain ⟨j, hj, _, hji⟩ := h.all i hi
  exact List.mem_map.2 ⟨j, List.mem_range.2 hj, hji⟩
end
end Go.Proofs.YtmpilokgbblonaaGreat.lin
/- The calls that may stand in an order, with their numbers, in a row: which they are, which numbers lie between. -/
namespace Go.Proofs.YtmpilokgbblonaaGreat.lin
open hist (ClV At)

/-- Of the first k calls those that may stand, with their numbers. -/
def keptTo (s : Int) (L : List ClV) : Nat → List (Nat × ClV)
  | 0 => []
  | k + 1 => keptTo s L k ++ (match L[k]? with | some c => if mayC s c = true then [(k, c)] else [] | none => [])
def keptL (s : Int) (L : List ClV) : List (Nat × ClV) := keptTo s L L.length
def mayAt (s : Int) (L : List ClV) (i : Nat) : Bool := match L[i]? with | some c => mayC s c | none => false
section
variable {s : Int} {L : List ClV}
theorem sys_may_at (i : Nat) : (sysOf s L).may i = mayAt s L i := rfl
theorem may_at {i : Nat} (hi : i < L.length) : mayAt s L i = mayC s L[i] := by unfold mayAt; rw [List.getElem?_eq_getElem hi]
theorem may_at_lt {i : Nat} (h : mayAt s L i = true) : i < L.length := by
  unfold mayAt at h
  split at h
  · rename_i c hc
    exact (List.getElem?_eq_some_iff.1 hc).1
  · exact absurd h (by decide)
theorem kept_yes {k : Nat} {c : ClV} (hk : L[k]? = some c) (hm : mayC s c = true) : keptTo s L (k + 1) = keptTo s L k ++ [(k, c)] := by
  rw [keptTo, hk]
  simp only [hm, if_true]
theorem kept_no {k : Nat} {c : ClV} (hk : L[k]? = some c) (hm : mayC s c = false) : keptTo s L (k + 1) = keptTo s L k := by
  rw [keptTo, hk]
  simp [hm]
theorem kept_mem : ∀ {k : Nat} {x : Nat × ClV}, x ∈ keptTo s L k ↔ x.1 < k ∧ L[x.1]? = some x.2 ∧ mayC s x.2 = true
  | 0, x => by simp [keptTo]
  | k + 1, x => by
    rw [keptTo, List.mem_append, kept_mem (k := k)]
    constructor
    · rintro (⟨h1, h2, h3⟩ | h)
      · exact ⟨by omega, h2, h3⟩
      · cases hk : L[k]? with
        | none => rw [hk] at h; simp at h
        | some c =>
          rw [hk] at h
          simp only at h
          split at h
          · rename_i hm
            rw [List.mem_singleton.1 h]
            exact ⟨by simp, hk, hm⟩
          · simp at h
    · rintro ⟨h1, h2, h3⟩
      by_cases e : x.1 = k
      · right
        rw [← e, h2]
        simp only [h3, if_true]
        exact List.mem_singleton.2 rfl
      · exact Or.inl ⟨by omega, h2, h3⟩
theorem kept_rise : ∀ k, (keptTo s L k).Pairwise (fun a b => a.1 < b.1)
  | 0 => List.Pairwise.nil
  | k + 1 => by
    rw [keptTo, List.pairwise_append]
    refine ⟨kept_rise k, ?_, fun a ha b hb => ?_⟩
    · cases L[k]? with
      | none => exact List.Pairwise.nil
      | some c =>
        simp only
        split
        · exact List.pairwise_singleton _ _
        · exact List.Pairwise.nil
    · have h1 := (kept_mem.1 ha).1
      cases hk : L[k]? with
      | none => rw [hk] at hb; simp at hb
      | some c =>
        rw [hk] at hb
        simp only at hb
        split at hb
        · rw [List.mem_singleton.1 hb]; exact h1
        · simp at hb
theorem kept_len : ∀ k, (keptTo s L k).length ≤ k
  | 0 => by simp [keptTo]
  | k + 1 => by
    have := kept_len k
    rw [keptTo, List.length_append]
    cases L[k]? with
    | none => simp; omega
    | some c =>
      simp only
      split <;> simp <;> omega
/-- The number that the row's element p has; behind the row: how many calls there are. -/
def bd (s : Int) (L : List ClV) (p : Nat) : Nat := match (keptL s L)[p]? with | some x => x.1 | none => L.length
theorem bd_all : bd s L (keptL s L).length = L.length := by
  unfold bd
  rw [List.getElem?_eq_none (Nat.le_refl _)]
/-- An element of the row. -/
theorem kept_at {p : Nat} (hp : p < (keptL s L).length) : ∃ k dk, (keptL s L)[p] = (k, dk) ∧ bd s L p = k ∧ k < L.length ∧ L[k]? = some dk ∧ mayC s dk = true ∧ k + 1 ≤ bd s L (p + 1) := by
  obtain ⟨k, dk, he⟩ : ∃ k dk, (keptL s L)[p] = (k, dk) := ⟨_, _, rfl⟩
  have hm : (k, dk) ∈ keptTo s L L.length := he ▸ List.getElem_mem hp
  obtain ⟨h1, h2, h3⟩ := kept_mem.1 hm
  refine ⟨k, dk, he, ?_, h1, h2, h3, ?_⟩
  · unfold bd
    rw [List.getElem?_eq_getElem hp, he]
  · unfold bd
    by_cases hq : p + 1 < (keptL s L).length
    · rw [List.getElem?_eq_getElem hq]
      have := List.pairwise_iff_getElem.1 (kept_rise (s := s) (L := L) L.length) p (p + 1) hp hq (by omega)
      have e2 : (keptTo s L L.length)[p].1 = k := congrArg Prod.fst he
      exact Nat.lt_of_le_of_lt (Nat.le_of_eq e2.symm) this
    · rw [List.getElem?_eq_none (by omega)]
      exact h1
theorem bd_gap {p j : Nat} (hp : p < (keptL s L).length) (h1 : bd s L p < j) (h2 : j < bd s L (p + 1)) : mayAt s L j = false := by
  cases hm : mayAt s L j
  · rfl
  · have hj := may_at_lt hm
    rw [may_at hj] at hm
    have hmem : (j, L[j]) ∈ keptTo s L L.length := kept_mem.2 ⟨hj, List.getElem?_eq_getElem hj, hm⟩
    obtain ⟨q, hq, he⟩ := List.getElem_of_mem hmem
    have hr := List.pairwise_iff_getElem.1 (kept_rise (s := s) (L := L) L.length)
    have hbq : bd s L q = j := by unfold bd keptL; rw [List.getElem?_eq_getElem hq, he]
    rcases Nat.lt_trichotomy q p with h | h | h
    · have h3 := hr q p hq hp h
      rw [he] at h3
      have h4 : bd s L p = (keptTo s L L.length)[p].1 := by
        unfold bd
        rw [List.getElem?_eq_getElem hp]
        rfl
      simp only at h3
      omega
    · subst h
      omega
    · by_cases h5 : q = p + 1
      · subst h5
        omega
      · have hq1 : p + 1 < (keptTo s L L.length).length := by omega
        have h3 := hr (p + 1) q hq1 hq (by omega)
        rw [he] at h3
        have h4 : bd s L (p + 1) = (keptTo s L L.length)[p + 1].1 := by
          unfold bd keptL
          rw [List.getElem?_eq_getElem hq1]
        simp only at h3
        omega
theorem bd_first {j : Nat} (h2 : j < bd s L 0) : mayAt s L j = false := by
  cases hm : mayAt s L j
  · rfl
  · have hj := may_at_lt hm
    rw [may_at hj] at hm
    have hmem : (j, L[j]) ∈ keptTo s L L.length := kept_mem.2 ⟨hj, List.getElem?_eq_getElem hj, hm⟩
    obtain ⟨q, hq, he⟩ := List.getElem_of_mem hmem
    have hr := List.pairwise_iff_getElem.1 (kept_rise (s := s) (L := L) L.length)
    have h0 : 0 < (keptTo s L L.length).length := by omega
    have h4 : bd s L 0 = (keptTo s L L.length)[0].1 := by
      unfold bd keptL
      rw [List.getElem?_eq_getElem h0]
    rcases Nat.eq_or_lt_of_le (Nat.zero_le q) with h | h
    · subst h
      rw [he] at h4
      simp only at h4
      omega
    · have h3 := hr 0 q h0 hq h
      rw [he] at h3
      simp only at h3
      omega
/-- What holds of all that may not stand, and of the row's first ones, holds of all ahead. -/
theorem below_first {P : Nat → Prop} (hno : ∀ j, mayAt s L j = false → P j) : ∀ j, j < bd s L 0 → P j := fun j hj => hno j (bd_first hj)
theorem below_next {P : Nat → Prop} {p : Nat} (hno : ∀ j, mayAt s L j = false → P j) (hp : p < (keptL s L).length) (h : ∀ j, j < bd s L p → P j) (hx : P (bd s L p)) : ∀ j, j < bd s L (p + 1) → P j := fun j hj => by
  rcases Nat.lt_trichotomy j (bd s L p) with h1 | h1 | h1
  · exact h j h1
  · rw [h1]; exact hx
  · exact hno j (bd_gap hp h1 hj)
/-- Cells of a row of calls with their numbers. -/
def cellsI (_ : Nat) (x : Nat × ClV) : List Value := hist.cells9 x.1 x.2
theorem lenI (i : Nat) (x : Nat × ClV) : (cellsI i x).length = 9 := rfl
theorem kept_ci {w : World} {a : Option Addr} {K : List (Nat × ClV)} (h : At cellsI 9 w a K) {p k : Nat} {c : ClV} (hp : p < K.length) (he : K[p] = (k, c)) : ∃ b, a = some b ∧ w.cell? (b.add (p * 9)) = some (.int .i64 c.B) ∧ w.cell? ⟨(b.add (p * 9)).block, (b.add (p * 9)).off + 1, none⟩ = some (.int .i64 c.D)
    ∧ w.cell? ⟨(b.add (p * 9)).block, (b.add (p * 9)).off + 2, none⟩ = some (.int .i64 (k : Int)) ∧ w.cell? ⟨(b.add (p * 9)).block, (b.add (p * 9)).off + 3, none⟩ = some (.int .i64 c.T) ∧ w.cell? ⟨(b.add (p * 9)).block, (b.add (p * 9)).off + 4, none⟩ = some (.int .i64 c.K)
    ∧ w.cell? ⟨(b.add (p * 9)).block, (b.add (p * 9)).off + 5, none⟩ = some (.int .i64 c.Y) ∧ w.cell? ⟨(b.add (p * 9)).block, (b.add (p * 9)).off + 6, none⟩ = some (.int .i64 c.C) ∧ w.cell? ⟨(b.add (p * 9)).block, (b.add (p * 9)).off + 7, none⟩ = some (.bool c.O) ∧ w.cell? ⟨(b.add (p * 9)).block, (b.add (p * 9)).off + 8, none⟩ = some (.int .i64 c.V) := by
  obtain ⟨b, hb, hc⟩ := h p hp
  rw [he] at hc
  exact ⟨b, hb, hc 0 _ rfl, hc 1 _ rfl, hc 2 _ rfl, hc 3 _ rfl, hc 4 _ rfl, hc 5 _ rfl, hc 6 _ rfl, hc 7 _ rfl, hc 8 _ rfl⟩
end
end Go.Proofs.YtmpilokgbblonaaGreat.lin
/- A region that draws its order, walked once in the order of the text, over a class of worlds of the prover's choice: its calls may make memory, as long as each leaves a world of the class. -/
namespace Go.Proofs.YtmpilokgbblonaaGreat.quiet
open Go.RowKit

theorem region {P : Program} {C : World → Prop} {id : Nat} {Q : Exit → Act → World → Prop} {a : Act} {w : World} {l : List Oper} (hC : C w.drew) (hm : P.follows .mixedOrders = true) (hB : Region.lexB .any l.toArray = true)
    (h : wpQuiet P l.toArray C (fun a' => ∀ w', C w' → Q .normal a' w') l a) : (Code.region id l.toArray true).wp P Q a w :=
  wp_region_quiet (C := C) hm hB hC (by simpa using h)
/-- A call, by its contract. -/
theorem call {P : Program} {C : World → Prop} {w : World} {f : FuncId} {args : Array Value} {v : Value} (h : Calls P f args w fun e w' => e = .returned v ∧ Below w.heap.size w w') (hC : ∀ w', Below w.heap.size w w' → C w') :
    Calls P f args w fun e w' => e = .returned v ∧ C w' := h.mono fun _ _ ⟨he, hb⟩ => ⟨he, hC _ hb⟩
end Go.Proofs.YtmpilokgbblonaaGreat.quiet
