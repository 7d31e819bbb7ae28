/- A meaning is asked, and a call was told the same, or not; one number more behind an order, in a list of its own; what is hoped of a set, and of a queue. -/
import Derived.Test.YtmpilokgbblonaaGreatKa21
import Derived.Test.YtmpilokgbblonaaGreatKa26
import Derived.Test.YtmpilokgbblonaaGreatKa07
import Derived.Deep.RegionLaw
namespace Go.Proofs.YtmpilokgbblonaaGreat.lin
open Go.RowKit Go.Maps
open hist (ClV befB past new_block Went At cells9 len9 Blk9)
open spec (Rw Row Mean nextL okB valI do_right do_not Told items_mean)
open task (rightB)

theorem suits_told (M : List Int) (c : ClV) : suitsB c 0 (okB M c.K c.Y) (valI M c.K) = toldC M c := by
  unfold suitsB toldC
  by_cases h1 : c.D < 0 <;> by_cases h2 : c.C = 0 <;> by_cases h3 : c.V = valI M c.K <;> by_cases h4 : c.O = okB M c.K c.Y <;> simp [h1, h2, h3, h4]
/-- What is told by a meaning of one's own that is asked. -/
structure Asked (w w' : World) (X : Nat) (f' : Nat → Prop) (s : Int) (M : List Int) (c : ClV) (f : Nat → Prop) : Prop where
  mean : Mean w' X f' s (if rightB s c.K c.Y = true then nextL s M c.K c.Y else M)
  went : spec.Went f f' w w'
set_option maxHeartbeats 1000000 in
theorem tells_any (w : World) (X : Nat) (f : Nat → Prop) (s : Int) (M : List Int) (h : Mean w X f s M) (hl : M.length ≤ 999) (hg : spec.Good s M) (i : Nat) (c : ClV) :
    Calls Tryz.prog 36 #[.pointer (some ⟨X, 0, none⟩), clA i c] w fun e w' => ∃ f', e = .returned (.bool (rightB s c.K c.Y && toldC M c)) ∧ Asked w w' X f' s M c f := by
  have hSu := suits_any
  unfold clA at hSu ⊢
  have HSU := Lib.hid hSu
  have HG := Lib.hid hg
  have HL := Lib.hid hl
  have hB : Below w.heap.size w (w.alloc (.cells #[.int .i64 c.B, .int .i64 c.D, .int .i64 (i : Int), .int .i64 c.T, .int .i64 c.K, .int .i64 c.Y, .int .i64 c.C, .bool c.O, .int .i64 c.V] 85)) := (Below.refl _ _).alloc (Nat.le_refl _) _
  have MB := Lib.hid (h.below hB)
  have WB := Lib.hid (spec.Went.ofBelow (f := f) hB)
  have NB := Lib.hid (⟨new_block w _ _⟩ : Blk9 (w.alloc (.cells #[.int .i64 c.B, .int .i64 c.D, .int .i64 (i : Int), .int .i64 c.T, .int .i64 c.K, .int .i64 c.Y, .int .i64 c.C, .bool c.O, .int .i64 c.V] 85)) w.heap.size i c)
  have HF : Hid (¬ f w.heap.size) := Lib.hid (fun e => by have := h.lt _ e; omega)
  cases hr : rightB s c.K c.Y
  · have HR := Lib.hid hr
    have HE : Hid (∀ (w' : World) (f' : Nat → Prop), Mean w' X f' s M → spec.Went f f' w w' → Asked w w' X f' s M c f) := Lib.hid (fun w' f' h1 h2 => ⟨by rw [hr]; exact h1, h2⟩)
    rw [Bool.false_and]
    clear hSu hg hl hB h hr
    go_enter Tryz.func36, Tryz.ntmps36
    go_wp2_with (go_at_call 61; go_loud (refine (do_not _ X f s c.K c.Y M MB.out HL.out HG.out HR.out).mono ?_; rintro e w2 ⟨f2, rfl, hm2, hw2⟩; have M2 := Lib.hid hm2; have W2 := Lib.hid (WB.out.trans hw2); clear hm2 hw2))
    go_returns
    refine ⟨f2, rfl, HE.out _ _ (M2.out.below ?_) (W2.out.next ?_)⟩ <;> go_grown
  · have HR := Lib.hid hr
    have HE : Hid (∀ (w' : World) (f' : Nat → Prop), Mean w' X f' s (nextL s M c.K c.Y) → spec.Went f f' w w' → Asked w w' X f' s M c f) := Lib.hid (fun w' f' h1 h2 => ⟨by rw [hr]; exact h1, h2⟩)
    rw [Bool.true_and, ← suits_told]
    generalize hok : okB M c.K c.Y = ok at *
    generalize hva : valI M c.K = va at *
    have HOK := Lib.hid hok
    have HVA := Lib.hid hva
    clear hSu hg hl hB h hr hok hva
    go_enter Tryz.func36, Tryz.ntmps36
    go_wp2_with (first
      | (go_at_call 49; have _t := M2.out; go_loud (refine (HSU.out _ i c 0 va ok).mono ?_; rintro e w3 ⟨rfl, hb3⟩; have B3 := Lib.hid hb3; clear hb3))
      | (go_at_call 61; go_loud (refine (do_right _ X f s c.K c.Y M MB.out HL.out HG.out HR.out).mono ?_; rintro e w2 ⟨f2, rfl, hm2, hw2⟩; rw [HOK.out, HVA.out]; have M2 := Lib.hid hm2; have W2 := Lib.hid (WB.out.trans hw2); have K2 : Hid (Blk9 w2 w.heap.size i c) := Lib.hid ⟨(hw2.block _ NB.out.lt HF.out).trans NB.out.box⟩; have K3 := Lib.hid (K2.out.below ((Below.refl _ _).alloc (Nat.le_refl _) (.cells #[.int .i64 0, .bool ok, .int .i64 va] 55))); obtain ⟨q0, q1, q2, q3, q4, q5, q6, q7, q8⟩ := K3.out.cells; clear hm2 hw2)))
    go_returns
    have hb := B3.out
    refine ⟨f2, rfl, HE.out _ _ (M2.out.below (past ?_ hb)) (W2.out.next (past ?_ hb))⟩ <;> go_grown

/-- An order's numbers, as Go's ints. -/
def intsL (o : List Nat) : List Int := o.map fun (i : Nat) => (i : Int)
/-- One number more, in a row of its own. -/
theorem grow_one (w : World) (ty : TypeId) (xs : List Int) (x : Int) (g c p : Nat) (A : Option Addr) (hr : Rw w g A c xs) (n : Nat) (hn : xs.length = n) (h24 : n ≤ 1000) (hp : w.cell? ⟨p, 0, none⟩ = some (.int .i64 x)) :
    ∃ c' w', (Builtin.append_ #[29, 29] ty #[.slice A n n, .slice (some ⟨p, 0, none⟩) 1 1]).run Tryz.prog w = .ok (.slice (some ⟨w.heap.size, 0, none⟩) (n + 1) c') w' ∧ Rw w' w.heap.size (some ⟨w.heap.size, 0, none⟩) c' (xs ++ [x]) ∧ Below w.heap.size w w' := by
  subst hn
  obtain ⟨i0, hi, hz0, hz1, hz2⟩ := info_parts spec.Tryzinfo_int
  have hnews : ∀ j v, [Value.int .i64 x][j]? = some v → w.cell? ((⟨p, 0, none⟩ : Addr).add j) = some v := by
    intro j v hj
    cases j with
    | zero =>
      obtain rfl : Value.int .i64 x = v := by simpa using hj
      rw [Addr.add_lit]
      exact hp
    | succ j => simp at hj
  have row : ∀ (cap : Nat) (cur : Array Value), xs.length + 1 ≤ cap → cap ≤ maxLen → cur.size = cap → (∀ j, j < xs.length + 1 → cur[j]? = some (.int .i64 ((xs ++ [x]).getD j 0))) → Row (w.drew.alloc (.cells cur 3)) w.heap.size 0 cap (xs ++ [x]) := fun cap cur h1 h2 h3 h4 =>
    ⟨by simpa using h1, by unfold maxLen at h2; omega, cur, heap_alloc_new w.drew _, by omega, fun j hj => by rw [Nat.zero_add]; exact h4 j (by simpa using hj)⟩
  have bel : ∀ o, Below w.heap.size w (w.drew.alloc o) := fun o => ((Below.refl w.heap.size w).drew).alloc (Nat.le_refl _) o
  rcases hr with ⟨rfl, rfl, rfl⟩ | ⟨o, rfl, hr⟩
  · have hrun := run_append_nil (P := Tryz.prog) w 29 ty 3 i0 (.int .i64 0) Tryz.underlying29 hi hz0 ⟨p, 0, none⟩ 1 1 [.int .i64 x] (by rw [hz1]; rfl) hnews (by omega) (by omega) (by rw [hz2]; omega)
    refine ⟨_, _, hrun, Or.inr ⟨0, rfl, row _ _ ?_ ?_ ?_ ?_⟩, bel _⟩
    · exact grownCap_ge w 1 0 _
    · exact grownCap_le_maxLen w 1 0 _ (by unfold maxLen; omega)
    · have := grownCap_ge w 1 0 3
      simp [size_zeroCells, Value.cells]
      omega
    · intro j hj
      obtain rfl : j = 0 := by simpa using hj
      simp only [List.nil_append]
      rw [Array.getElem?_append_left (by simp)]
      simp
  · have hrun := run_append_grow (P := Tryz.prog) w 29 ty 3 i0 (.int .i64 0) Tryz.underlying29 hi hz0 ⟨g, o, none⟩ xs.length xs.length (xs.map (Value.int .i64)) (by rw [hz1]; simp) (fun j v hj => by rw [Addr.add_lit]; exact hr.vals j v hj) ⟨p, 0, none⟩ 1 1 [.int .i64 x] (by rw [hz1]; rfl) hnews (by omega) (by omega) (by rw [hz2]; exact growslice_fits (by omega) (by omega))
    refine ⟨_, _, hrun, Or.inr ⟨0, rfl, row _ _ ?_ ?_ ?_ ?_⟩, bel _⟩
    · exact grownCap_ge w _ _ _
    · exact grownCap_le_maxLen w _ _ _ (by unfold maxLen; omega)
    · have := grownCap_ge w (xs.length + 1) xs.length 3
      simp [size_zeroCells, Value.cells]
      omega
    · intro j hj
      rw [Array.getElem?_append_left (by simp; omega)]
      rw [List.getD_eq_getElem?_getD]
      by_cases hjl : j < xs.length
      · rw [Array.getElem?_append_left (by simpa using hjl), List.getElem?_append_left hjl, List.getElem?_eq_getElem hjl]
        simp [hjl]
      · obtain rfl : j = xs.length := by omega
        rw [Array.getElem?_append_right (by simp)]
        simp
end Go.Proofs.YtmpilokgbblonaaGreat.lin
/- The search for the least legal order. -/
namespace Go.Proofs.YtmpilokgbblonaaGreat.quiet
open Go.RowKit
/-- A call of four arguments, by its contract. -/
theorem step_call4 {P : Program} {ops : Array Oper} {o : Oper} {a : Act} {w : World} {K : Act → World → Prop} {Q : Exit → Act → World → Prop} {E : Prop} (hg : o.guard = none) (f : FuncId) (s x p q : Operand) (t u t' u' : TypeId) (hop : o.op = Op.call { callee := Callee.value (Operand.func f), args := #[s, x, p, q], argTypes := #[t, u, t', u'] }) (v y v' y' : Value) (hs : a.eval s = v) (hx : a.eval x = y) (hp : a.eval p = v') (hq : a.eval q = y') (hcf : (callFunc f #[v, y, v', y']).run P w = .ok (.enter f #[v, y, v', y']) w)
    {R : Value → World → Prop} (hc : Calls P f #[v, y, v', y'] w fun e w' => ∃ r, e = .returned r ∧ R r w') (hK : ∀ r w', R r w' → K (a.put o.dst r) w') : if Region.wanted o (yielded ops a.tmps) = true then Oper.wp P o a w K Q else E := by
  rw [if_pos (by simp [Region.wanted, hg])]
  unfold Oper.wp
  simp only [go_sem] at hs hx hp hq
  simp [execOp, hop, go_sem]
  simp only [Array.getD_eq_getD_getElem?] at hs hx hp hq
  rw [hs, hx, hp, hq, hcf]
  show Calls P f #[v, y, v', y'] w _
  refine Calls.mono hc (fun e w' he => ?_)
  obtain ⟨r, rfl, hr⟩ := he
  exact hK _ _ hr
end Go.Proofs.YtmpilokgbblonaaGreat.quiet
namespace Go.Proofs.YtmpilokgbblonaaGreat.lin
open Go.RowKit Go.Maps
open hist (ClV befB past new_block Went At cells9 len9 Blk9)
open spec (Rw Row Mean nextL okB valI Told items_mean copy_any)
open task (rightB)

/-- What is around a search. -/
structure EnvG (Pr : World → Prop) (t : SP) (L : List ClV) (c0 : Nat) (s : Int) : Prop where
  pr : PrOK Pr t
  rlt : ∀ w, Pr w → t.R < w.heap.size
  apart : Apart t
  masks : Masks t L
  spans : Spans L
  sh : t.sh = s
  frees : ∀ g, g < 4294967296 → cntB (fun p => freeB t L g p) L.length ≤ c0
/-- What a shape's hopes are good for. -/
structure Hoped (Pr : World → Prop) (t : SP) (L : List ClV) (s : Int) (Good : Nat → List Int → Prop) (hb : Nat → Nat) : Prop where
  toGood : ∀ g M, Closed (sysOf s L) g → spec.Good s M → ¬ Vain (sysOf s L) g M → Good g M
  ofGood : ∀ g M, Closed (sysOf s L) g → spec.Good s M → Good g M → ¬ Vain (sysOf s L) g M
  hopes : ∀ (w : World) (N g X : Nat) (f : Nat → Prop) (M : List Int), SS Good Pr t L w N → Mean w X f s M → g < 4294967296 → spec.Good s M → M.length ≤ 24 → N + hb (remG L.length g) ≤ 1000000000000 →
    Calls Tryz.prog 53 #[.pointer (some ⟨t.X, 0, none⟩), .pointer (some ⟨X, 0, none⟩), .int .u32 (g : Int)] w fun e w' => ∃ b : Bool, e = .returned (.bool b) ∧ (b = false → ¬ Good g M) ∧ SS Good Pr t L w' (N + hb (remG L.length g)) ∧ Went (fS t) (fS t) w w'
/-- How much is remembered. -/
def gbF (c : Nat) (hb : Nat → Nat) : Nat → Nat
  | 0 => 1 + hb 0
  | r + 1 => 1 + hb (r + 1) + c * gbF c hb r
def gb1 (c : Nat) (hb : Nat → Nat) (r : Nat) : Nat := if 1 ≤ r then gbF c hb (r - 1) else 0
theorem gb_eq (c : Nat) (hb : Nat → Nat) (r : Nat) : gbF c hb r = 1 + hb r + c * gb1 c hb r := by
  unfold gb1
  cases r with
  | zero => simp [gbF]
  | succ r => simp [gbF]
/-- What is told: an order, or that there is none. -/
def GoTold (e : Ending) (w' : World) : Option (List Nat) → Prop
  | some r => ∃ A c G, e = .returned (.tuple #[.slice A r.length c, .bool true]) ∧ Rw w' G A c (intsL r)
  | none => e = .returned (.tuple #[.slice none 0 0, .bool false])
def GoQ (Good : Nat → List Int → Prop) (Pr : World → Prop) (t : SP) (L : List ClV) (s : Int) (w : World) (N : Nat) (o : List Nat) (e : Ending) (w' : World) : Prop :=
  ∃ res, GoTold e w' res ∧ Found (sysOf s L) o res ∧ SS Good Pr t L w' N ∧ Went (fS t) (fS t) w w'
def GoOK (Good : Nat → List Int → Prop) (Pr : World → Prop) (t : SP) (L : List ClV) (s : Int) (c0 : Nat) (hb : Nat → Nat) (r : Nat) : Prop :=
  ∀ (w : World) (N X G c n : Nat) (f : Nat → Prop) (A : Option Addr) (o : List Nat), SS Good Pr t L w N → (sysOf s L).Ok o → Closed (sysOf s L) (maskL o) → remG L.length (maskL o) = r → N + gbF c0 hb r ≤ 1000000000000 →
    Mean w X f s ((sysOf s L).run o) → (∀ b, f b → ¬ fS t b) → Rw w G A c (intsL o) → (A ≠ none → ¬ fS t G) → o.length = n →
    Calls Tryz.prog 31 #[.pointer (some ⟨t.X, 0, none⟩), .pointer (some ⟨X, 0, none⟩), .int .u32 (maskL o : Nat), .slice A n c] w (GoQ Good Pr t L s w (N + gbF c0 hb r) o)
section
variable {Good : Nat → List Int → Prop} {Pr : World → Prop} {t : SP} {L : List ClV} {s : Int} {c0 : Nat} {hb : Nat → Nat}
theorem mask_small (hE : EnvG Pr t L c0 s) {o : List Nat} (ho : (sysOf s L).Ok o) : maskL o < 4294967296 := mask_lt fun i hi => by
  have h1 := (ok_lt ho i ((mask_bit o i).1 hi)).1
  have h2 := hE.masks.small.n24
  have h3 : i < L.length := h1
  omega
theorem run_good {o : List Nat} (ho : (sysOf s L).Ok o) : spec.Good s ((sysOf s L).run o) := by
  rw [ok_run ho]
  exact spec.good_state s _ (ok_right ho)
theorem run_len {o : List Nat} (ho : (sysOf s L).Ok o) : ((sysOf s L).run o).length ≤ L.length := by
  rw [ok_run ho]
  have h1 := spec.state_len s (opsL L o)
  rw [ops_len] at h1
  exact Nat.le_trans h1 (ok_len ho)
theorem covers_must (hE : EnvG Pr t L c0 s) {o : List Nat} (ho : (sysOf s L).Ok o) : coversB (maskL o) t.mu = true ↔ ∀ i, i < (sysOf s L).n → (sysOf s L).must i = true → (maskL o).testBit i = true := by
  rw [coversB_iff hE.masks.small.mu (mask_small hE ho)]
  exact ⟨fun h i hi hm => h i ((hE.masks.mu i).2 ⟨hi, hm⟩), fun h i hi => h i ((hE.masks.mu i).1 hi).1 ((hE.masks.mu i).1 hi).2⟩
theorem went_below' {f : Nat → Prop} {w w' : World} (h : Below w.heap.size w w') : Went f f w w' := Went.ofBelow h
/-- A meaning that is not the search's own stays. -/
theorem mean_went {w w' : World} {X : Nat} {f : Nat → Prop} {M : List Int} (h : Mean w X f s M) (hf : ∀ b, f b → ¬ fS t b) (hw : Went (fS t) (fS t) w w') : Mean w' X f s M :=
  h.moved hw.size fun b hb => hw.block b (h.lt b hb) (hf b hb)
/-- A copy that was asked: nothing that was there has changed. -/
theorem asked_below {w w1 w2 : World} {X : Nat} {f1 f2 : Nat → Prop} {M : List Int} {d : ClV} (hb : Below w.heap.size w w1) (hn : ∀ b, f1 b → w.heap.size ≤ b) (h : Asked w1 w2 X f2 s M d f1) : Below w.heap.size w w2 ∧ ∀ b, f2 b → w.heap.size ≤ b :=
  ⟨h.went.below hb hb.size hn, h.went.from hb.size hn⟩

end
end Go.Proofs.YtmpilokgbblonaaGreat.lin
