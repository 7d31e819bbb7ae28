/- What every law's proof ends with: it answered true, and nothing that was there has changed: so the row's promise holds. Structs and arrays by value, opened. -/
import Derived.Test.YtmpilokgbblonaaGreatRows
import Derived.WalkKit
import Derived.ProofKit
import Derived.OpenShut
import Derived.Below
import Derived.ChangeSame
import Derived.Carry
import Derived.Lib.SmallJoins
import Derived.Deep.DeepHandedRow
import Derived.Lib.LaidTab
namespace Go.Proofs.YtmpilokgbblonaaGreat.law
open Go.RowKit Go.WideShapes Go.ChangeShapes Go.Joins Go.Deep

section
variable {H : Type} {enc : TypeId × Value → H} {P : Program}

theorem trodAll_stays (hl : laidOutB P = true) {W W' : World} {sp : Nat → Bool} : ∀ (ts : List TypeId) (vs : List Value) (ds : List (DataW H)) (ps : List MemPlace),
    (∀ t ∈ ts, P.readableRec t = true ∧ t < P.types.size) → DataW.TrodAll enc P W 0 (fun _ => true) true ts vs ds ps → (∀ p ∈ ps, W.sameAt W' p) → (∀ p ∈ ps, sp p.block = true) → DataW.TrodAll enc P W' 0 sp true ts vs ds ps
  | [], [], [], _, _, h, _, _ => h
  | t :: ts, v :: vs, d :: ds, ps, ht, h, hs, hsp => by
    obtain ⟨p, q, h1, h2, rfl⟩ := h
    exact ⟨p, q, WideElems.Trod_stays hl (ht t (List.mem_cons_self ..)).1 (ht t (List.mem_cons_self ..)).2 h1 (fun x hx => hs x (List.mem_append_left _ hx)) (fun x hx => hsp x (List.mem_append_left _ hx)),
      trodAll_stays hl ts vs ds q (fun t' h' => ht t' (List.mem_cons_of_mem _ h')) h2 (fun x hx => hs x (List.mem_append_right _ hx)) (fun x hx => hsp x (List.mem_append_right _ hx)), rfl⟩
  | [], [], _ :: _, _, _, h, _, _ => h.elim
  | [], _ :: _, [], _, _, h, _, _ => h.elim
  | [], _ :: _, _ :: _, _, _, h, _, _ => h.elim
  | _ :: _, [], [], _, _, h, _, _ => h.elim
  | _ :: _, [], _ :: _, _, _, h, _, _ => h.elim
  | _ :: _, _ :: _, [], _, _, h, _, _ => h.elim

/-- THE LAW's POST: the answer is true, each argument reads as it did. -/
theorem law_post {f : Func} {s : ChangeSpec} {apart fresh handsOn again : Bool} {W W' : World} {args : Array Value} {ds gs : List (DataW H)} {before : List MemPlace} {tb : TypeId}
    (hvars : s.vars = []) (hfn : ∀ ds : List (DataW H), ds.length = f.params.size → (s.fn H ds).results = [.lit (.bool true)] ∧ (s.fn H ds).args = ds ∧ (s.fn H ds).vars = [])
    (hl : laidOutB P = true) (hts : ∀ t ∈ f.params.toList, P.readableRec t = true ∧ t < P.types.size) (hr : f.resultTypes = #[tb]) (htb : P.underlying tb = some .bool)
    (hW : DataW.Whole enc P f.params.toList s.vars apart W args.toList ds gs before) (hb : Below W.heap.size W W') :
    s.post enc P f apart fresh handsOn again W args (.bool true) W' := by
  have hW' := hW
  obtain ⟨p, q, hA, hV, rfl, hfz, hnd⟩ := hW
  rw [hvars] at hV
  obtain ⟨rfl, rfl⟩ := trodVars_none hV
  have hlen : ∀ (ts : List TypeId) (vs : List Value) (ds : List (DataW H)) (ps : List MemPlace), DataW.TrodAll enc P W 0 (fun _ => true) true ts vs ds ps → ds.length = ts.length := by
    intro ts
    induction ts with
    | nil =>
      intro vs ds ps h
      match vs, ds, h with
      | [], [], _ => rfl
    | cons t ts ih =>
      intro vs ds ps h
      match vs, ds, h with
      | v :: vs, d :: ds, h =>
        obtain ⟨p, q, _, h2, _⟩ := h
        simp [ih _ _ _ h2]
  have hd : (ds ++ []).length = f.params.size := by simpa using hlen _ _ _ _ hA
  obtain ⟨e1, e2, e3⟩ := hfn (ds ++ []) hd
  have hlt : ∀ x ∈ p ++ [], x.block < W.heap.size := fun x hx => hW'.lt x hx
  -- the answer's reading, the arguments' in the later world, the variables' (there are none)
  have hres : ∀ (b : Nat) (sp : Nat → Bool) (hd : Bool), DataW.TrodAll enc P W' b sp hd f.resultTypes.toList ((Value.bool true).resultList f.resultTypes.size) (s.fn H (ds ++ [])).results [] := by
    intro b sp hd
    rw [e1, hr]
    exact trodAll_cons_mk (shut_bool htb _) trodAll_mk0
  have hargs : ∀ sp : Nat → Bool, (∀ x ∈ p ++ [], sp x.block = true) → DataW.TrodAll enc P W' 0 sp true f.params.toList args.toList (s.fn H (ds ++ [])).args p := by
    intro sp hsp
    rw [e2, List.append_nil]
    exact trodAll_stays hl _ _ _ _ hts hA (fun x hx => hb.same (hlt x (by simpa using hx))) (fun x hx => hsp x (by simpa using hx))
  have hno : ∀ sp : Nat → Bool, DataW.TrodVars enc P W' sp s.vars (s.fn H (ds ++ [])).vars [] := by
    intro sp
    rw [e3, hvars]
    exact rfl
  have hold : ∀ x ∈ p ++ [], (fun b => decide (b < W.heap.size)) x.block = true := fun x hx => by simpa using hlt x hx
  refine ⟨ds, [], p ++ [], [], p, [], hW', hres _ _ _, hargs _ hold, hno _, World.keptBut_mono (fun x hx => ⟨hx, Or.inr (by simpa using hx)⟩) (hb.frame (· ∈ p ++ [])), fun _ => ?_⟩
  refine ⟨ok_one hr rfl (okWide_bool_mk htb _), _, _, ([] ++ p) ++ [], ⟨[] ++ p, [], trodAll_append (hargs _ (fun _ _ => rfl)) (hres _ _ _), hno _, rfl, ?_, ?_⟩, ?_⟩
  · intro b off hx
    have hin : MemPlace.cell b off ∈ p ++ [] := by simpa using hx
    rw [hb.frozen (hlt _ hin)]
    exact hfz b off hin
  · intro ha
    have := hnd ha
    simpa using this
  · intro x hx _
    simpa using hx

variable {w : World} {base : Nat} {spare : Nat → Bool} {held : Bool}
/-- A struct by value whose fields have one cell each: its cells, each read at its field's type. -/
theorem open_flat {r : Reach} {b0 : Nat} {t : TypeId} {fs : Array Field} {v : Value} {d : DataW H} {p : List MemPlace} (hs : P.underlying t = some (.struct fs)) (hone : oneCellFields P fs = true) (hC : P.cellsOf t = fs.size)
    (hv : Value.okWide P w r b0 t v) (h : DataW.Trod enc P w base spare held t v d p) :
    ∃ cs : Array Value, v = .agg cs ∧ cs.size = fs.size ∧ ∀ (i : Nat) (f : Field) (c : Value), fs[i]? = some f → cs[i]? = some c → ∃ n y, DataW.trod enc P w base spare held n f.type [c] = some y := by
  obtain ⟨cs, rfl, hsz⟩ := okWide_struct hs hv
  refine ⟨cs, rfl, hsz.trans hC, fun i f c hf hc => ?_⟩
  obtain ⟨fuel, hd⟩ := h
  obtain ⟨xs, n, _, _, _, hlen, hg⟩ := DataW.trod_struct hs hd
  obtain ⟨ho, hk⟩ := hone_of hone i f hf
  have hi : i < fs.size := (Array.getElem?_eq_some_iff.1 hf).1
  have hlt : i < xs.length := by omega
  have hl : cs.toList[i]? = some c := by simpa using hc
  have h1 := hg i f hf
  rw [ho, hk, show (Value.agg cs).cells.toList = cs.toList from rfl] at h1
  have e : (cs.toList.drop i).take 1 = [c] := by
    obtain ⟨hi2, he⟩ := List.getElem?_eq_some_iff.1 hl
    rw [List.drop_eq_getElem_cons hi2, he]
    rfl
  rw [e, List.getElem?_eq_getElem hlt] at h1
  exact ⟨n, _, h1⟩
/-- An array by value whose elements have one cell each. -/
theorem open_row {r : Reach} {b0 m : Nat} {t e : TypeId} {v : Value} {d : DataW H} {p : List MemPlace} (hs : P.underlying t = some (.array m e)) (hone : P.cellsOf e = 1) (hC : P.cellsOf t = m)
    (hv : Value.okWide P w r b0 t v) (h : DataW.Trod enc P w base spare held t v d p) :
    ∃ cs : Array Value, v = .agg cs ∧ cs.size = m ∧ ∀ (i : Nat) (c : Value), cs[i]? = some c → ∃ n y, DataW.trod enc P w base spare held n e [c] = some y := by
  have hv' := hv
  simp only [Value.okWide, hs] at hv'
  obtain ⟨cs, rfl, hsz, _⟩ := hv'
  refine ⟨cs, rfl, hsz.trans hC, fun i c hc => ?_⟩
  obtain ⟨fuel, hd⟩ := h
  obtain ⟨xs, n, _, _, _, hlen, hg⟩ := DataW.trod_array hs hd
  have hi : i < cs.size := (Array.getElem?_eq_some_iff.1 hc).1
  have hlt : i < xs.length := by omega
  have hl : cs.toList[i]? = some c := by simpa using hc
  have h1 := hg i (by omega)
  rw [hone, Nat.mul_one, show (Value.agg cs).cells.toList = cs.toList from rfl] at h1
  have e : (cs.toList.drop i).take 1 = [c] := by
    obtain ⟨hi2, he⟩ := List.getElem?_eq_some_iff.1 hl
    rw [List.drop_eq_getElem_cons hi2, he]
    rfl
  rw [e, List.getElem?_eq_getElem hlt] at h1
  exact ⟨n, _, h1⟩
theorem cell_int {n : Nat} {t : TypeId} {k : IntKind} {c : Value} {y : DataW H × List MemPlace} (ht : P.underlying t = some (.int k)) (h : DataW.trod enc P w base spare held n t [c] = some y) : ∃ z, c = .int k z ∧ (Lit.int k z).wf = true := by
  obtain ⟨z, hc, _, hw⟩ := DataW.trod_int ht h
  exact ⟨z, by simpa using hc, hw⟩
theorem cell_bool {n : Nat} {t : TypeId} {c : Value} {y : DataW H × List MemPlace} (ht : P.underlying t = some .bool) (h : DataW.trod enc P w base spare held n t [c] = some y) : ∃ z, c = .bool z := by
  obtain ⟨z, hc, _⟩ := DataW.trod_bool ht h
  exact ⟨z, by simpa using hc⟩
end

theorem array_two {α : Type} {cs : Array α} (h : cs.size = 2) : ∃ c0 c1, cs = #[c0, c1] := by
  obtain ⟨l⟩ := cs
  match l, h with
  | [a, b], _ => exact ⟨a, b, rfl⟩
theorem array_five {α : Type} {cs : Array α} (h : cs.size = 5) : ∃ c0 c1 c2 c3 c4, cs = #[c0, c1, c2, c3, c4] := by
  obtain ⟨l⟩ := cs
  match l, h with
  | [a, b, c, d, e], _ => exact ⟨a, b, c, d, e, rfl⟩

theorem i64_wf {n : Int} (h : (Lit.int .i64 n).wf = true) : -9223372036854775808 ≤ n ∧ n ≤ 9223372036854775807 := by
  simpa [Lit.wf, IntKind.min, IntKind.max, IntKind.signed, IntKind.bits] using h
theorem u64_wf {n : Int} (h : (Lit.int .u64 n).wf = true) : 0 ≤ n ∧ n < 18446744073709551616 := by
  have : 0 ≤ n ∧ n ≤ 18446744073709551615 := by simpa [Lit.wf, IntKind.min, IntKind.max, IntKind.signed, IntKind.bits] using h
  omega
theorem u8_wf {n : Int} (h : (Lit.int .u8 n).wf = true) : 0 ≤ n ∧ n < 256 := by
  have : 0 ≤ n ∧ n ≤ 255 := by simpa [Lit.wf, IntKind.min, IntKind.max, IntKind.signed, IntKind.bits] using h
  omega
end Go.Proofs.YtmpilokgbblonaaGreat.law
/- Events and calls by lists alone: who has one pending, what is wrong with an event, which calls there are; what an event more does to them. -/
namespace Go.Proofs.YtmpilokgbblonaaGreat.hist

theorem snocInd {α : Type} {motive : List α → Prop} (nil : motive []) (append_singleton : ∀ l a, motive l → motive (l ++ [a])) (l : List α) : motive l := by
  rw [← List.reverse_reverse l]
  induction l.reverse with
  | nil => exact nil
  | cons a l ih => rw [List.reverse_cons]; exact append_singleton _ _ ih

/-- An event: its thread; does it end something? The operation; the result. -/
structure EvV where
  T : Int
  E : Bool
  K : Int
  Y : Int
  C : Int
  O : Bool
  V : Int
/-- Without what doesn't count. -/
def bareE (v : EvV) : EvV := if v.E = true then ⟨v.T, v.E, 0, 0, v.C, v.O, v.V⟩ else ⟨v.T, v.E, v.K, v.Y, 0, false, 0⟩
theorem bare_T (v : EvV) : (bareE v).T = v.T := by unfold bareE; split <;> rfl
theorem bare_E (v : EvV) : (bareE v).E = v.E := by unfold bareE; split <;> rfl
/-- Has a thread one pending? -/
def pendE (l : List EvV) (t : Int) : Bool := l.foldl (fun b v => if v.T = t then !v.E else b) false
theorem pend_snoc (l : List EvV) (v : EvV) (t : Int) : pendE (l ++ [v]) t = if v.T = t then !v.E else pendE l t := by
  unfold pendE
  rw [List.foldl_append]
  rfl
/-- What is wrong with an event, as a number. -/
def errE (l : List EvV) (v : EvV) : Int := if v.T < 0 ∨ 7 < v.T then 2 else if (!v.E && pendE l v.T) = true then 1 else if (v.E && !pendE l v.T) = true then 5 else 0
theorem err_bare (l : List EvV) (v : EvV) : errE l (bareE v) = errE l v := by
  unfold errE
  rw [bare_T, bare_E]
theorem err_zero {l : List EvV} {v : EvV} (h : errE l v = 0) : (0 ≤ v.T ∧ v.T ≤ 7) ∧ pendE l v.T = v.E := by
  unfold errE at h
  split at h
  · omega
  · rename_i h1
    refine ⟨by omega, ?_⟩
    cases he : v.E <;> cases hp : pendE l v.T <;> simp [he, hp] at h <;> rfl
/-- Those that are taken. -/
def tookE (l : List EvV) : List EvV := l.foldl (fun t v => if errE t v = 0 then t ++ [bareE v] else t) []
theorem took_snoc (l : List EvV) (v : EvV) : tookE (l ++ [v]) = if errE (tookE l) v = 0 then tookE l ++ [bareE v] else tookE l := by
  unfold tookE
  rw [List.foldl_append]
  rfl
theorem took_len (l : List EvV) : (tookE l).length ≤ l.length := by
  induction l using snocInd with
  | nil => exact Nat.le_refl _
  | append_singleton l v ih =>
    rw [took_snoc]
    split <;> simp <;> omega
/-- Each could be taken behind those ahead of it. -/
def ValidE (l : List EvV) : Prop := ∀ (k : Nat) (v : EvV), l[k]? = some v → errE (l.take k) v = 0
theorem valid_nil : ValidE [] := fun k v h => by simp at h
theorem valid_snoc {l : List EvV} {v : EvV} : ValidE (l ++ [v]) ↔ ValidE l ∧ errE l v = 0 := by
  constructor
  · intro h
    refine ⟨fun k u hu => ?_, ?_⟩
    · have hk := (List.getElem?_eq_some_iff.1 hu).1
      have := h k u (by rw [List.getElem?_append_left hk]; exact hu)
      rwa [List.take_append_of_le_length (by omega)] at this
    · have := h l.length v (by simp)
      rwa [List.take_left] at this
  · rintro ⟨h1, h2⟩ k u hu
    by_cases hk : k < l.length
    · rw [List.getElem?_append_left hk] at hu
      rw [List.take_append_of_le_length (by omega)]
      exact h1 k u hu
    · have hl := (List.getElem?_eq_some_iff.1 hu).1
      have : k = l.length := by simp at hl; omega
      subst this
      simp at hu
      subst hu
      rw [List.take_left]
      exact h2
theorem took_valid (l : List EvV) : ValidE (tookE l) := by
  induction l using snocInd with
  | nil => exact valid_nil
  | append_singleton l v ih =>
    rw [took_snoc]
    split
    · rename_i h
      exact valid_snoc.2 ⟨ih, by rw [err_bare]; exact h⟩
    · exact ih

/-- A call: its thread; the numbers of its events (-1: it hasn't ended); the operation; the result. -/
structure ClV where
  T : Int
  B : Int
  D : Int
  K : Int
  Y : Int
  C : Int
  O : Bool
  V : Int
/-- The first event of a thread, of those from number j on. -/
def findE (t : Int) : List EvV → Nat → Option (Nat × EvV)
  | [], _ => none
  | v :: l, j => if v.T = t then some (j, v) else findE t l (j + 1)
def callOf (v : EvV) (i : Nat) : Option (Nat × EvV) → ClV
  | none => ⟨v.T, i, -1, v.K, v.Y, 0, false, 0⟩
  | some (j, u) => ⟨v.T, i, j, v.K, v.Y, u.C, u.O, u.V⟩
def callsGo : List EvV → Nat → List ClV
  | [], _ => []
  | v :: l, i => (if v.E = true then [] else [callOf v i (findE v.T l (i + 1))]) ++ callsGo l (i + 1)
/-- The calls, by definition. -/
def callsE (l : List EvV) : List ClV := callsGo l 0
/-- What an event does to a call that is pending. -/
def closeC (v : EvV) (n : Nat) (c : ClV) : ClV := if c.D < 0 ∧ c.T = v.T then ⟨c.T, c.B, n, c.K, c.Y, v.C, v.O, v.V⟩ else c
theorem close_yes {v : EvV} {n : Nat} {c : ClV} (h : c.D < 0 ∧ c.T = v.T) : closeC v n c = ⟨c.T, c.B, n, c.K, c.Y, v.C, v.O, v.V⟩ := if_pos h
theorem close_no {v : EvV} {n : Nat} {c : ClV} (h : ¬ (c.D < 0 ∧ c.T = v.T)) : closeC v n c = c := if_neg h
theorem find_snoc (t : Int) (v : EvV) : ∀ (l : List EvV) (j : Nat), findE t (l ++ [v]) j = match findE t l j with | some x => some x | none => if v.T = t then some (j + l.length, v) else none
  | [], j => by simp [findE]
  | u :: l, j => by
    rw [List.cons_append, findE, findE]
    split
    · rfl
    · rw [find_snoc t v l (j + 1), List.length_cons, show j + 1 + l.length = j + (l.length + 1) by omega]
theorem calls_go (v : EvV) : ∀ (l : List EvV) (i : Nat), callsGo (l ++ [v]) i = (callsGo l i).map (closeC v (i + l.length)) ++ if v.E = true then [] else [⟨v.T, (i + l.length : Nat), -1, v.K, v.Y, 0, false, 0⟩]
  | [], i => by
    simp [callsGo, findE, callOf]
  | u :: l, i => by
    rw [List.cons_append, callsGo, callsGo, calls_go v l (i + 1), List.map_append, List.length_cons, show i + 1 + l.length = i + (l.length + 1) by omega, List.append_assoc]
    congr 1
    by_cases hu : u.E = true
    · rw [if_pos hu, if_pos hu]
      rfl
    · rw [if_neg hu, if_neg hu, find_snoc, List.map_cons, List.map_nil]
      congr 1
      cases hf : findE u.T l (i + 1) with
      | some x =>
        obtain ⟨j, x⟩ := x
        exact (close_no (fun h => by have h1 : (j : Int) < 0 := h.1; omega)).symm
      | none =>
        by_cases ht : v.T = u.T
        · rw [close_yes (c := callOf u i none) ⟨by show (-1 : Int) < 0; omega, ht.symm⟩]
          simp only [if_pos ht]
          rw [show i + 1 + l.length = i + (l.length + 1) by omega]
          rfl
        · rw [close_no (c := callOf u i none) (fun h => ht h.2.symm)]
          simp only [if_neg ht]
/-- An event more. -/
theorem calls_snoc (l : List EvV) (v : EvV) : callsE (l ++ [v]) = (callsE l).map (closeC v l.length) ++ if v.E = true then [] else [⟨v.T, (l.length : Nat), -1, v.K, v.Y, 0, false, 0⟩] := by
  have := calls_go v l 0
  rw [Nat.zero_add] at this
  exact this
theorem close_T (v : EvV) (n : Nat) (c : ClV) : (closeC v n c).T = c.T ∧ (closeC v n c).B = c.B := by
  unfold closeC
  split <;> exact ⟨rfl, rfl⟩
theorem pend_calls (l : List EvV) : ∀ t, pendE l t = true ↔ ∃ c ∈ callsE l, c.D < 0 ∧ c.T = t := by
  induction l using snocInd with
  | nil => intro t; simp [pendE, callsE, callsGo]
  | append_singleton l v ih =>
    intro t
    rw [pend_snoc, calls_snoc]
    by_cases ht : v.T = t
    · rw [if_pos ht]
      constructor
      · intro h
        have he : ¬ v.E = true := by cases hv : v.E <;> simp [hv] at h ⊢
        rw [if_neg he]
        exact ⟨_, List.mem_append_right _ (List.mem_singleton.2 rfl), by show (-1 : Int) < 0; omega, ht⟩
      · rintro ⟨c, hc, hd, hct⟩
        rcases List.mem_append.1 hc with hc | hc
        · obtain ⟨c', hc', rfl⟩ := List.mem_map.1 hc
          rw [(close_T v l.length c').1] at hct
          unfold closeC at hd
          split at hd
          · simp at hd; omega
          · rename_i hn
            exact absurd ⟨hd, hct.trans ht.symm⟩ hn
        · split at hc
          · simp at hc
          · rename_i he
            cases hv : v.E
            · rfl
            · exact absurd hv he
    · rw [if_neg ht, ih t]
      constructor
      · rintro ⟨c, hc, hd, hct⟩
        refine ⟨closeC v l.length c, List.mem_append_left _ (List.mem_map.2 ⟨c, hc, rfl⟩), ?_, ?_⟩
        · unfold closeC
          rw [if_neg (fun h => ht (h.2.symm.trans hct))]
          exact hd
        · rw [(close_T v l.length c).1]
          exact hct
      · rintro ⟨c, hc, hd, hct⟩
        rcases List.mem_append.1 hc with hc | hc
        · obtain ⟨c', hc', rfl⟩ := List.mem_map.1 hc
          rw [(close_T v l.length c').1] at hct
          unfold closeC at hd
          split at hd
          · simp at hd; omega
          · exact ⟨c', hc', hd, hct⟩
        · split at hc
          · simp at hc
          · rw [List.mem_singleton.1 hc] at hct
            exact absurd hct ht
/-- Behind a right beginning the others are as they were. -/
theorem calls_begin {l : List EvV} {v : EvV} (h : errE l v = 0) (he : v.E = false) : callsE (l ++ [v]) = callsE l ++ [⟨v.T, (l.length : Nat), -1, v.K, v.Y, 0, false, 0⟩] := by
  rw [calls_snoc, he, if_neg (by decide)]
  congr 1
  have hp := (err_zero h).2
  rw [he] at hp
  have : ∀ c ∈ callsE l, closeC v l.length c = c := fun c hc => by
    unfold closeC
    rw [if_neg]
    intro hh
    have := (pend_calls l v.T).2 ⟨c, hc, hh⟩
    rw [hp] at this
    exact absurd this (by decide)
  exact (List.map_congr_left this).trans (List.map_id' _)
theorem calls_end {l : List EvV} {v : EvV} (he : v.E = true) : callsE (l ++ [v]) = (callsE l).map (closeC v l.length) := by
  rw [calls_snoc, if_pos he, List.append_nil]
/-- What stands behind right events. -/
structure Hold (l : List EvV) : Prop where
  order : (callsE l).Pairwise fun c d => c.T = d.T → 0 ≤ c.D ∧ c.D < d.B
  nums : ∀ c ∈ callsE l, 0 ≤ c.B ∧ c.B < l.length ∧ c.D < l.length ∧ (0 ≤ c.T ∧ c.T ≤ 7) ∧ (c.D = -1 ∨ c.B < c.D)
theorem hold_of (l : List EvV) : ValidE l → Hold l := by
  induction l using snocInd with
  | nil => intro _; exact ⟨List.Pairwise.nil, fun c hc => by simp [callsE, callsGo] at hc⟩
  | append_singleton l v ih =>
    intro h
    obtain ⟨h1, h2⟩ := valid_snoc.1 h
    obtain ⟨ho, hn⟩ := ih h1
    obtain ⟨ht, hp⟩ := err_zero h2
    have hlen : ((l ++ [v]).length : Int) = (l.length : Int) + 1 := by simp
    cases he : v.E
    · rw [he] at hp
      refine ⟨?_, ?_⟩
      · rw [calls_begin h2 he, List.pairwise_append]
        refine ⟨ho, List.pairwise_singleton _ _, fun c hc d hd hcd => ?_⟩
        rw [List.mem_singleton.1 hd] at hcd ⊢
        have := hn c hc
        refine ⟨?_, by show c.D < (l.length : Int); omega⟩
        rcases Int.lt_or_le c.D 0 with hlt | hle
        · have hq := (pend_calls l v.T).2 ⟨c, hc, hlt, hcd⟩
          rw [hp] at hq
          exact absurd hq (by decide)
        · exact hle
      · rw [calls_begin h2 he, hlen]
        intro c hc
        rcases List.mem_append.1 hc with hc | hc
        · have := hn c hc
          omega
        · rw [List.mem_singleton.1 hc]
          exact ⟨Int.natCast_nonneg _, by show (l.length : Int) < _; omega, by show (-1 : Int) < _; omega, ht, Or.inl rfl⟩
    · refine ⟨?_, ?_⟩
      · rw [calls_end he, List.pairwise_map]
        refine ho.imp fun {c d} hcd hT => ?_
        rw [(close_T v l.length c).1, (close_T v l.length d).1] at hT
        have := hcd hT
        rw [(close_T v l.length d).2]
        unfold closeC
        rw [if_neg (by omega)]
        exact this
      · rw [calls_end he, hlen]
        intro c hc
        obtain ⟨c', hc', rfl⟩ := List.mem_map.1 hc
        have := hn c' hc'
        unfold closeC
        split
        · simp only
          omega
        · omega
/-- How many are pending. -/
def pendN (L : List ClV) : Nat := (L.filter fun c => decide (c.D < 0)).length
theorem close_none (v : EvV) (n : Nat) : ∀ L : List ClV, (∀ c ∈ L, ¬ (c.D < 0 ∧ c.T = v.T)) → L.map (closeC v n) = L
  | [], _ => rfl
  | c :: L, h => by
    rw [List.map_cons, close_none v n L fun d hd => h d (List.mem_cons_of_mem _ hd)]
    congr 1
    unfold closeC
    rw [if_neg (h c (List.mem_cons_self ..))]
theorem pend_close (v : EvV) (n : Nat) : ∀ L : List ClV, (L.Pairwise fun c d => c.T = d.T → 0 ≤ c.D ∧ c.D < d.B) → (∃ c ∈ L, c.D < 0 ∧ c.T = v.T) → pendN (L.map (closeC v n)) + 1 = pendN L
  | [], _, ⟨c, hc, _⟩ => by simp at hc
  | c :: L, hp, h => by
    rw [List.pairwise_cons] at hp
    by_cases hc : c.D < 0 ∧ c.T = v.T
    · have hno : ∀ d ∈ L, ¬ (d.D < 0 ∧ d.T = v.T) := fun d hd hh => by
        have := hp.1 d hd (hc.2.trans hh.2.symm)
        omega
      rw [List.map_cons, close_none v n L hno]
      have e : closeC v n c = ⟨c.T, c.B, n, c.K, c.Y, v.C, v.O, v.V⟩ := by unfold closeC; rw [if_pos hc]
      rw [e]
      unfold pendN
      rw [List.filter_cons, List.filter_cons, if_neg (by simp), if_pos (by simpa using hc.1)]
      simp
    · have ih := pend_close v n L hp.2 (by
        obtain ⟨d, hd, hh⟩ := h
        rcases List.mem_cons.1 hd with rfl | hd
        · exact absurd hh hc
        · exact ⟨d, hd, hh⟩)
      have e : closeC v n c = c := by unfold closeC; rw [if_neg hc]
      rw [List.map_cons, e]
      unfold pendN at ih ⊢
      rw [List.filter_cons, List.filter_cons]
      split
      · simp only [List.length_cons]
        omega
      · exact ih
/-- Each call has one event, or two. -/
theorem calls_count (l : List EvV) : ValidE l → l.length + pendN (callsE l) = 2 * (callsE l).length := by
  induction l using snocInd with
  | nil => intro _; rfl
  | append_singleton l v ih =>
    intro h
    obtain ⟨h1, h2⟩ := valid_snoc.1 h
    have ih := ih h1
    obtain ⟨ht, hp⟩ := err_zero h2
    cases he : v.E
    · rw [calls_begin h2 he]
      have e : pendN (callsE l ++ [⟨v.T, (l.length : Nat), -1, v.K, v.Y, 0, false, 0⟩]) = pendN (callsE l) + 1 := by
        unfold pendN
        rw [List.filter_append, List.length_append]
        rfl
      rw [e]
      simp
      omega
    · rw [calls_end he]
      rw [he] at hp
      have := pend_close v l.length _ (hold_of l h1).order ((pend_calls l v.T).1 hp)
      simp
      omega
theorem pendN_le (L : List ClV) : pendN L ≤ L.length := List.length_filter_le _ _
theorem calls_le {l : List EvV} (h : ValidE l) : (callsE l).length ≤ l.length := by
  have h1 := calls_count l h
  have h2 := pendN_le (callsE l)
  omega
/-- What an event that is taken does. -/
def stepE (l : List EvV) (v : EvV) : List EvV := if errE l v = 0 then l ++ [bareE v] else l
theorem took_step (l : List EvV) (v : EvV) : tookE (l ++ [v]) = stepE (tookE l) v := took_snoc l v
theorem step_valid {l : List EvV} (h : ValidE l) (v : EvV) : ValidE (stepE l v) := by
  unfold stepE
  split
  · rename_i he
    exact valid_snoc.2 ⟨h, by rw [err_bare]; exact he⟩
  · exact h
theorem step_len (l : List EvV) (v : EvV) : (stepE l v).length ≤ l.length + 1 := by
  unfold stepE
  split <;> simp
theorem pend_out {l : List EvV} (h : ValidE l) {t : Int} (ht : ¬ (0 ≤ t ∧ t ≤ 7)) : pendE l t = false := by
  cases hp : pendE l t
  · rfl
  · obtain ⟨c, hc, _, hct⟩ := (pend_calls l t).1 hp
    have := ((hold_of l h).nums c hc).2.2.2.1
    omega
end Go.Proofs.YtmpilokgbblonaaGreat.hist
