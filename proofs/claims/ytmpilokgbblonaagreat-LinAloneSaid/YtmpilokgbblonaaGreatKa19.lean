/- A history's calls, and what a search asks of them: who has ended must stand; a queue's Puts and Takes. -/
import Derived.Test.YtmpilokgbblonaaGreatKa18
import Derived.Test.YtmpilokgbblonaaGreatKa15
import Derived.BigQuiet
namespace Go.Proofs.YtmpilokgbblonaaGreat.lin
open Go.RowKit
open hist (ClV befB)
open spec (nextL okB valI)
open task (rightB right_iff)

section
variable {s : Int} {L : List ClV}
theorem sys_must_at (i : Nat) : (sysOf s L).must i = mustAt L i := rfl
theorem sys_bef_at (i j : Nat) : (sysOf s L).bef i j = befL L i j := rfl
/-- Each has ended behind its beginning, or not at all. -/
def Spans (L : List ClV) : Prop := ∀ c ∈ L, 0 ≤ c.B ∧ (c.D < 0 ∨ c.B < c.D)
theorem spans_calls {l : List hist.EvV} (h : hist.ValidE l) : Spans (hist.callsE l) := fun c hc => by
  have := (hist.hold_of l h).nums c hc
  refine ⟨this.1, ?_⟩
  omega
theorem must_lt {i : Nat} (h : mustAt L i = true) : i < L.length := by
  unfold mustAt at h
  split at h
  · rename_i c hc
    exact (List.getElem?_eq_some_iff.1 hc).1
  · exact absurd h (by decide)
theorem sys_sound (h : Spans L) : Sound (sysOf s L) where
  ended i j hm hb := by
    have hb2 : befL L i j = true := hb
    unfold befL at hb2
    cases hi : L[i]? with
    | none => rw [hi] at hb2; simp at hb2
    | some c =>
      have hil := (List.getElem?_eq_some_iff.1 hi).1
      have hie := (List.getElem?_eq_some_iff.1 hi).2
      rw [sys_may hil, hie] at hm
      rw [sys_must hil, hie]
      cases hj : L[j]? with
      | none => rw [hi, hj] at hb2; simp at hb2
      | some d =>
        rw [hi, hj] at hb2
        have hb3 : 0 ≤ c.D ∧ c.D < d.B := of_decide_eq_true hb2
        unfold mayC at hm
        unfold mustC
        simp only [Bool.and_eq_true, Bool.or_eq_true, decide_eq_true_eq] at hm ⊢
        omega
  irr i := by
    show befL L i i = false
    unfold befL
    cases hi : L[i]? with
    | none => rfl
    | some c =>
      have := h c (List.mem_of_getElem? hi)
      exact decide_eq_false (by omega)
/-- What the search asks of a call is what the system has. -/
theorem free_free {t : SP} (hm : Masks t L) (hs : t.sh = s) {g i : Nat} (hg : g < 4294967296) (h : Free (sysOf s L) g i) : freeB t L g i = true := by
  subst hs
  unfold freeB
  have hmay : mayAt t.sh L i = true := h.may
  rw [hmay, h.new]
  simp only [Bool.not_false, Bool.true_and]
  refine (coversB_iff (hm.small.am i) hg).2 fun k hk => ?_
  obtain ⟨h1, h2, h3⟩ := (hm.am i hmay k).1 hk
  exact h.ahead k h1 h2 h3
theorem free_of {t : SP} (hm : Masks t L) (hs : t.sh = s) {g i : Nat} (hg : g < 4294967296) (h : freeB t L g i = true) : Free (sysOf s L) g i := by
  subst hs
  unfold freeB at h
  simp only [Bool.and_eq_true, Bool.not_eq_true'] at h
  obtain ⟨h1, h2, h3⟩ := h
  exact ⟨may_at_lt h1, h2, h1, fun k hk hmk hb => (coversB_iff (hm.small.am i) hg).1 h3 k ((hm.am i h1 k).2 ⟨hk, hmk, hb⟩)⟩
theorem closed_of {t : SP} (hm : Masks t L) {g : Nat} (hg : g < 4294967296) (h : Closed (sysOf s L) g) : closedTo t L g L.length = true := closed_iff.2 fun j hj => by
  cases hmay : mayAt t.sh L j
  · rfl
  · cases hb : g.testBit j
    · rfl
    · rw [Bool.true_and, Bool.not_true, Bool.false_or]
      exact (coversB_iff (hm.small.am j) hg).2 fun k hk => by
        obtain ⟨h1, h2, h3⟩ := (hm.am j hmay k).1 hk
        exact h j k hb h1 h2 h3

/-! Puts and Takes. -/
def takeAt (L : List ClV) (i : Nat) : Bool := decide (kindAt L i = 5)
def keyAt (L : List ClV) (i : Nat) : Int := match L[i]? with | some c => c.Y | none => 0
def suitsAt (L : List ClV) (x : Int) (i : Nat) : Bool := match L[i]? with | some c => takesB c x | none => false
def missAt (L : List ClV) (i : Nat) : Bool := match L[i]? with | some c => missB c | none => false
theorem kind_at {i : Nat} (hi : i < L.length) : kindAt L i = L[i].K := by unfold kindAt; rw [List.getElem?_eq_getElem hi]
theorem key_at {i : Nat} (hi : i < L.length) : keyAt L i = L[i].Y := by unfold keyAt; rw [List.getElem?_eq_getElem hi]
theorem suits_at {i : Nat} (hi : i < L.length) (x : Int) : suitsAt L x i = takesB L[i] x := by unfold suitsAt; rw [List.getElem?_eq_getElem hi]
theorem miss_at {i : Nat} (hi : i < L.length) : missAt L i = missB L[i] := by unfold missAt; rw [List.getElem?_eq_getElem hi]
theorem take_lt {i : Nat} (h : takeAt L i = true) : ∃ hi : i < L.length, L[i].K = 5 := by
  unfold takeAt kindAt at h
  cases hi : L[i]? with
  | none => rw [hi] at h; simp at h
  | some c =>
    rw [hi] at h
    obtain ⟨h1, h2⟩ := List.getElem?_eq_some_iff.1 hi
    exact ⟨h1, by rw [h2]; simpa using h⟩
/-- Of a shape with Puts and Takes: what may stand, and is no Take, is a Put of a key. -/
theorem put_at (hs : s = 3 ∨ s = 4) {i : Nat} (hm : (sysOf s L).may i = true) (ht : takeAt L i = false) : ∃ hi : i < L.length, L[i].K = 4 ∧ 0 ≤ L[i].Y ∧ L[i].Y ≤ 999 := by
  by_cases hi : i < L.length
  · rw [sys_may hi] at hm
    unfold mayC at hm
    rw [Bool.and_eq_true, right_iff] at hm
    unfold takeAt at ht
    rw [kind_at hi, decide_eq_false_iff_not] at ht
    exact ⟨hi, by omega⟩
  · have : (sysOf s L).may i = false := by
      show (match L[i]? with | some c => mayC s c | none => false) = false
      rw [List.getElem?_eq_none (by omega)]
    rw [this] at hm
    exact absurd hm (by decide)
theorem bags (hs : s = 3 ∨ s = 4) : Bags (sysOf s L) (takeAt L) (keyAt L) (suitsAt L) (missAt L) where
  putT i M hm ht M' := by
    obtain ⟨hi, h4, _⟩ := put_at hs hm ht
    rw [sys_tells hi, sys_tells hi]
    unfold toldC okB valI
    rw [h4]
    rfl
  takeS i m M ht := by
    obtain ⟨hi, h5⟩ := take_lt ht
    rw [sys_step hi, h5]
    rfl
  noneS i ht := by
    obtain ⟨hi, h5⟩ := take_lt ht
    rw [sys_step hi, h5]
    rfl
  takeT i m M ht := by
    obtain ⟨hi, h5⟩ := take_lt ht
    rw [sys_tells hi, suits_at hi]
    unfold toldC takesB suitsB okB valI
    rw [h5]
    by_cases h1 : L[i].D < 0 <;> by_cases h2 : L[i].C = 0 <;> by_cases h3 : L[i].V = m <;> cases L[i].O <;> simp [h1, h2, h3]
  noneT i ht h hm := by
    obtain ⟨hi, h5⟩ := take_lt ht
    rw [sys_tells hi] at h
    rw [sys_must hi] at hm
    rw [miss_at hi]
    have hd := (must_iff.1 hm).1
    unfold toldC okB valI at h
    unfold missB suitsB
    rw [hm]
    rw [h5] at h ⊢
    have hd2 : ¬ L[i].D < 0 := by omega
    by_cases h2 : L[i].C = 0 <;> by_cases h3 : L[i].V = 0 <;> cases ho : L[i].O <;> simp_all
theorem step_queue {i : Nat} (M : List Int) (hm : (sysOf 3 L).may i = true) (ht : takeAt L i = false) : (sysOf 3 L).step M i = M ++ [keyAt L i] := by
  obtain ⟨hi, h4, _⟩ := put_at (Or.inl rfl) hm ht
  rw [sys_step hi, key_at hi, h4]
  rfl
theorem step_stack {i : Nat} (M : List Int) (hm : (sysOf 4 L).may i = true) (ht : takeAt L i = false) : (sysOf 4 L).step M i = keyAt L i :: M := by
  obtain ⟨hi, h4, _⟩ := put_at (Or.inr rfl) hm ht
  rw [sys_step hi, key_at hi, h4]
  rfl
end
end Go.Proofs.YtmpilokgbblonaaGreat.lin
/- A search's state from world to world; how much a search may remember; what a queue's Take may be. -/
namespace Go.Proofs.YtmpilokgbblonaaGreat.lin
open Go.RowKit Go.Maps
open hist (ClV befB past new_block Went At cells9 len9 Blk9)
open spec (Rw Row)

theorem cnt_le (b : Nat → Bool) : ∀ {k n : Nat}, k ≤ n → cntB b k ≤ cntB b n
  | k, 0, h => by rw [Nat.le_zero.1 h]; exact Nat.le_refl _
  | k, n + 1, h => by
    rcases Nat.eq_or_lt_of_le h with rfl | h1
    · exact Nat.le_refl _
    · rw [cnt_succ]
      have := cnt_le b (k := k) (n := n) (by omega)
      omega
theorem cnt_mono {b b' : Nat → Bool} (h : ∀ i, b i = true → b' i = true) : ∀ n, cntB b n ≤ cntB b' n
  | 0 => Nat.le_refl _
  | n + 1 => by
    rw [cnt_succ, cnt_succ]
    have := cnt_mono h n
    cases hb : b n
    · simp; split <;> omega
    · rw [h n hb]; simp; omega
/-- How many don't stand yet. -/
def remG (n g : Nat) : Nat := cntB (fun i => !g.testBit i) n
theorem rem_with {n g i : Nat} (hi : i < n) (h : g.testBit i = false) : remG n g = remG n (withG g i) + 1 :=
  cnt_more (b := fun j => !(withG g i).testBit j) (b' := fun j => !g.testBit j) (k := i) (by simp only [bit_same]; rfl) (by simp only [h]; rfl) (fun j hj => by simp only [bit_other (Ne.symm hj)]) n hi
/-- How much is remembered, if c at most can be next. -/
def sbF (c : Nat) : Nat → Nat
  | 0 => 1
  | r + 1 => 1 + c * sbF c r
def sb1 (c r : Nat) : Nat := if 1 ≤ r then sbF c (r - 1) else 0
def sb2 (c r : Nat) : Nat := if 2 ≤ r then sbF c (r - 2) else 0
theorem sb1_le (c r : Nat) : 1 + c * sb1 c r ≤ sbF c r := by
  unfold sb1
  cases r with
  | zero => simp [sbF]
  | succ r => simp [sbF]
theorem sb2_le (c r : Nat) : c * sb2 c r ≤ sb1 c r := by
  unfold sb2 sb1
  match r with
  | 0 => simp
  | 1 => simp
  | r + 2 =>
    simp only [show 2 ≤ r + 2 from by omega, show 1 ≤ r + 2 from by omega, if_true]
    show c * sbF c r ≤ sbF c (r + 1)
    have e : sbF c (r + 1) = 1 + c * sbF c r := rfl
    omega

theorem Tryzzero_unit (w : World) : (zeroValue 118).run Tryz.prog w = .ok (.agg #[]) w := by kernel_rfl
/-- Something else that holds while but the search's own map is written into. -/
structure PrOK (Pr : World → Prop) (t : SP) : Prop where
  step : ∀ w w' : World, Pr w → w.heap.size ≤ w'.heap.size → (∀ b, b < w.heap.size → b ≠ t.D → w'.heap[b]? = w.heap[b]?) → Pr w'
/-- A search, with at most N things remembered. -/
structure SS (Good : Nat → List Int → Prop) (Pr : World → Prop) (t : SP) (L : List ClV) (w : World) (N : Nat) : Prop where
  srch : Srch w t L
  dead : ∃ n T, n ≤ N ∧ DeadM Good w t.D n T
  pr : Pr w
section
variable {Good : Nat → List Int → Prop} {Pr : World → Prop} {t : SP} {L : List ClV} {w w' : World} {N : Nat}
theorem SS.mono (h : SS Good Pr t L w N) {N' : Nat} (hN : N ≤ N') : SS Good Pr t L w N' := by
  obtain ⟨h1, ⟨n, T, h2, h3⟩, h4⟩ := h
  exact ⟨h1, ⟨n, T, by omega, h3⟩, h4⟩
theorem SS.below (h : SS Good Pr t L w N) (hp : PrOK Pr t) (hb : Below w.heap.size w w') : SS Good Pr t L w' N := by
  obtain ⟨h1, ⟨n, T, h2, h3⟩, h4⟩ := h
  exact ⟨h1.below hb, ⟨n, T, h2, h3.moved (hb.block _ h3.lt)⟩, hp.step w w' h4 hb.size (fun b hl _ => hb.block b hl)⟩
theorem SS.dlt (h : SS Good Pr t L w N) : t.D < w.heap.size := by
  obtain ⟨_, ⟨n, T, _, h3⟩, _⟩ := h
  exact h3.lt
/-- One more thing is remembered. -/
theorem SS.put (h : SS Good Pr t L w N) (hp : PrOK Pr t) (ha : Apart t) (hN : N < maxLen) {g : Nat} {M : List Int} (hg : g < 4294967296) (hM : ∀ x ∈ M, keyR x) (hl : M.length ≤ 1000) (hb : ¬ Good g M) :
    ∃ w', (Instr.mapUpdate 109 (.map (some t.D)) (stA g M) (.agg #[])).run Tryz.prog w = .ok () w' ∧ SS Good Pr t L w' (N + 1) ∧ Went (fS t) (fS t) w w' := by
  obtain ⟨h1, ⟨n, T, h2, h3⟩, h4⟩ := h
  obtain ⟨kl, hk⟩ := state_key g M hg hl
  obtain ⟨w', hrun, ho, hgr⟩ := h3.own.update Tryzlin_law Tryz.underlying109 (by omega) hk (unitElem_mk (H := Unit))
  have hblk : ∀ b, b < w.heap.size → b ≠ t.D → w'.heap[b]? = w.heap[b]? := fun b hl hne => hgr.block b hl (fun e => hne (Option.some.inj e))
  refine ⟨w', hrun, ⟨h1.moved ha fun b hl hf => hblk b hl (fun e => hf (Or.inl e)), ⟨n + 1, _, by omega, h3.put hM hk hb ho⟩, hp.step w w' h4 hgr.size hblk⟩, ⟨hgr.os, hgr.tape, hgr.output, hgr.size, fun b hl hf => hblk b hl (fun e => hf (Or.inl e)), fun b hb => Or.inl hb⟩⟩
/-- Was it met already? -/
theorem SS.look (h : SS Good Pr t L w N) {g : Nat} {M : List Int} (hg : g < 4294967296) (hM : ∀ x ∈ M, keyR x) (hl : M.length ≤ 1000) :
    ∃ b, (∀ wx : World, wx.heap[t.D]? = w.heap[t.D]? → (Instr.lookup 109 (.map (some t.D)) (stA g M) true).run Tryz.prog wx = .ok (.tuple #[.agg #[], .bool b]) wx) ∧ (b = true → ¬ Good g M) := by
  obtain ⟨h1, ⟨n, T, h2, h3⟩, h4⟩ := h
  obtain ⟨kl, hk⟩ := state_key g M hg hl
  refine ⟨Maps.has T kl, fun wx hx => ?_, h3.dead g M kl hM hk⟩
  obtain ⟨v, ps, hrun, hv⟩ := (h3.moved hx).own.look_ok Tryzlin_law Tryz.underlying109 (Tryzzero_unit wx) (unitElem_mk (H := Unit)) hk
  obtain ⟨rfl, _⟩ := unitElem_inv hv
  exact hrun
end
theorem went_below {f : Nat → Prop} {w w' w2 : World} (h : Went f f w w') (hb : Below w'.heap.size w' w2) : Went f f w w2 := h.next hb
/-- A list of items stays. -/
theorem rw_went {t : SP} {w w' : World} {G c : Nat} {A : Option Addr} {M : List Int} (h : Rw w G A c M) (hG : A ≠ none → ¬ fS t G) (hw : Went (fS t) (fS t) w w') : Rw w' G A c M := h.moved fun hA => hw.block G (h.lt hA) (hG hA)
end Go.Proofs.YtmpilokgbblonaaGreat.lin
/- A queue's search: can a call be the next Take, with its item's Put, if that doesn't stand, and the others behind it? -/
namespace Go.Proofs.YtmpilokgbblonaaGreat.lin
open Go.RowKit Go.Maps
open hist (ClV befB past new_block Went At cells9 len9 Blk9)
open spec (Rw Row)

/-- Can a call be the next Take? -/
def takeB (t : SP) (L : List ClV) (g i : Nat) : Bool := mayAt t.sh L i && !g.testBit i && coversB g (t.am.getD i 0 &&& t.tk) && takeAt L i
/-- What a search needs to know of what is around it. -/
structure Env (Pr : World → Prop) (t : SP) (L : List ClV) (c0 : Nat) : Prop where
  pr : PrOK Pr t
  rlt : ∀ w, Pr w → t.R < w.heap.size
  apart : Apart t
  masks : Masks t L
  spans : Spans L
  sh : t.sh = 3
  frees : ∀ g, g < 4294967296 → cntB (fun p => freeB t L g p) L.length ≤ c0
  takes : ∀ g, g < 4294967296 → cntB (fun p => takeB t L g p) L.length ≤ c0
abbrev GQ (L : List ClV) : Nat → List Int → Prop := GoodQ (sysOf 3 L) (takeAt L)
/-- What a queue's search tells, and leaves. -/
def ServeQ (Pr : World → Prop) (t : SP) (L : List ClV) (w : World) (N : Nat) (P : Prop) (e : Ending) (w' : World) : Prop :=
  ∃ b : Bool, e = .returned (.bool b) ∧ (b = false → ¬ P) ∧ SS (GQ L) Pr t L w' N ∧ Went (fS t) (fS t) w w'
def ServedOK (Pr : World → Prop) (t : SP) (L : List ClV) (c0 r : Nat) : Prop :=
  ∀ (w : World) (N g G c : Nat) (A : Option Addr) (M : List Int) (n : Nat), SS (GQ L) Pr t L w N → remG L.length g = r → N + sbF c0 r ≤ 1000000000000 → g < 4294967296 → Rw w G A c M → (A ≠ none → ¬ fS t G) → M.length = n → n ≤ 1000 → (∀ x ∈ M, keyR x) →
    Calls Tryz.prog 65 #[.pointer (some ⟨t.X, 0, none⟩), .int .u32 (g : Int), .slice A n c] w (ServeQ Pr t L w (N + sbF c0 r) (GQ L g M))
section
variable {Pr : World → Prop} {t : SP} {L : List ClV} {c0 : Nat}
theorem row_one {w : World} {G o : Nat} {m : Int} {M : List Int} (h : Row w G o 1 (m :: M)) : M = [] ∧ Row w G o 0 [] := by
  have h1 := h.len
  simp at h1
  subst h1
  obtain ⟨cur, h2, h3, h4⟩ := h.blk
  exact ⟨rfl, ⟨Nat.le_refl _, by omega, cur, h2, by omega, fun j hj => absurd hj (by simp)⟩⟩
theorem row_tail {w : World} {G o c : Nat} {m : Int} {M : List Int} (h : Row w G o c (m :: M)) : Row w G (o + 1) (c - 1) M := by
  have h1 := h.len
  have h0 := h.big
  simp at h1
  obtain ⟨cur, h2, h3, h4⟩ := h.blk
  refine ⟨by omega, by omega, cur, h2, by omega, fun j hj => ?_⟩
  have := h4 (j + 1) (by simp; omega)
  rw [show o + 1 + j = o + (j + 1) by omega, this]
  rfl
theorem rem_succ {n g i r : Nat} (hi : i < n) (h : g.testBit i = false) (hr : remG n g = r) : ∃ r', r = r' + 1 ∧ remG n (withG g i) = r' := by
  have := rem_with hi h
  exact ⟨remG n (withG g i), by omega, rfl⟩

theorem cells10 {w : World} {B k G o : Nat} {c : ClV} {m : Int} (h : Blk9 w B k c) (hq : w.cell? ⟨G, o, none⟩ = some (.int .i64 m)) : w.cell? ⟨B, 0, none⟩ = some (.int .i64 c.B) ∧ w.cell? ⟨B, 1, none⟩ = some (.int .i64 c.D) ∧ w.cell? ⟨B, 2, none⟩ = some (.int .i64 (k : Int)) ∧ w.cell? ⟨B, 3, none⟩ = some (.int .i64 c.T) ∧ w.cell? ⟨B, 4, none⟩ = some (.int .i64 c.K)
    ∧ w.cell? ⟨B, 5, none⟩ = some (.int .i64 c.Y) ∧ w.cell? ⟨B, 6, none⟩ = some (.int .i64 c.C) ∧ w.cell? ⟨B, 7, none⟩ = some (.bool c.O) ∧ w.cell? ⟨B, 8, none⟩ = some (.int .i64 c.V) ∧ w.cell? ⟨G, o, none⟩ = some (.int .i64 m) := by
  obtain ⟨q0, q1, q2, q3, q4, q5, q6, q7, q8⟩ := h.cells
  exact ⟨q0, q1, q2, q3, q4, q5, q6, q7, q8, hq⟩
theorem row_head {w : World} {G o c : Nat} {m : Int} {M : List Int} (h : Row w G o c (m :: M)) : w.cell? ⟨G, o, none⟩ = some (.int .i64 m) := by
  have := h.cell (j := 0) (by simp)
  simpa using this
/-- Ahead of a look at the first item: the call's own block, and that item. -/
structure Sv (W w : World) (i : Nat) (d : ClV) (G o : Nat) (m : Int) : Prop where
  below : Below W.heap.size W w
  blk : Blk9 w W.heap.size i d
  head : w.cell? ⟨G, o, none⟩ = some (.int .i64 m)
theorem Sv.next {W w w' : World} {i : Nat} {d : ClV} {G o : Nat} {m : Int} (h : Sv W w i d G o m) (hb : Below w.heap.size w w') : Sv W w' i d G o m :=
  ⟨past h.below hb, h.blk.below hb, (hb.cell (World.block_lt_of_cell? _ _ h.head)).trans h.head⟩
theorem Sv.cells {W w : World} {i : Nat} {d : ClV} {G o : Nat} {m : Int} (h : Sv W w i d G o m) : w.cell? ⟨W.heap.size, 0, none⟩ = some (.int .i64 d.B) ∧ w.cell? ⟨W.heap.size, 1, none⟩ = some (.int .i64 d.D) ∧ w.cell? ⟨W.heap.size, 2, none⟩ = some (.int .i64 (i : Int)) ∧ w.cell? ⟨W.heap.size, 3, none⟩ = some (.int .i64 d.T) ∧ w.cell? ⟨W.heap.size, 4, none⟩ = some (.int .i64 d.K)
    ∧ w.cell? ⟨W.heap.size, 5, none⟩ = some (.int .i64 d.Y) ∧ w.cell? ⟨W.heap.size, 6, none⟩ = some (.int .i64 d.C) ∧ w.cell? ⟨W.heap.size, 7, none⟩ = some (.bool d.O) ∧ w.cell? ⟨W.heap.size, 8, none⟩ = some (.int .i64 d.V) ∧ w.cell? ⟨G, o, none⟩ = some (.int .i64 m) := cells10 h.blk h.head
set_option maxHeartbeats 4000000 in
/-- There are items: the next Take must take the first one. -/
theorem serves_hit (hE : Env Pr t L c0) (r : Nat) (ih : ∀ r', r' < r → ServedOK Pr t L c0 r') (w : World) (N g G c o n i : Nat) (m : Int) (M : List Int) (hS : SS (GQ L) Pr t L w N) (hr : remG L.length g = r) (hN : N + sb1 c0 r ≤ 1000000000000) (hg : g < 4294967296)
    (hR : Row w G o c (m :: M)) (hG : ¬ fS t G) (hn : M.length + 1 = n) (hn1 : n ≤ 1000) (hM : ∀ x ∈ m :: M, keyR x) (d : ClV) (hd : L[i]? = some d) (hb : g.testBit i = false) (hk : takesB d m = true) :
    Calls Tryz.prog 77 #[.pointer (some ⟨t.X, 0, none⟩), clA i d, .int .u32 (g : Int), .slice (some ⟨G, o, none⟩) n c] w (ServeQ Pr t L w (N + sb1 c0 r) (NextQ (sysOf 3 L) (takeAt L) (keyAt L) (suitsAt L) (missAt L) g (m :: M) i)) := by
  have hT := takes_any
  unfold clA at hT ⊢
  have hi : i < L.length := (List.getElem?_eq_some_iff.1 hd).1
  have hi24 := hE.masks.small.n24
  obtain ⟨r', hr1, hr2⟩ := rem_succ hi hb hr
  subst hr1
  have HT := Lib.hid hT
  have HR := Lib.hid hR
  have HK := Lib.hid hk
  have HE := Lib.hid hE
  have HG := Lib.hid hG
  have h32 : Hid (i < 32) := Lib.hid (by omega)
  have HG2 := Lib.hid hg
  have HGI := Lib.hid (with_lt hg (show i < 32 by omega))
  have HI := Lib.hid (ih r' (by omega))
  have HN := Lib.hid (show N + sbF c0 r' ≤ 1000000000000 from hN)
  have HR2 := Lib.hid hr2
  have HMK := Lib.hid (fun x hx => hM x (List.mem_cons_of_mem _ hx) : ∀ x ∈ M, keyR x)
  have HML := Lib.hid hn
  have hcell := hR.cell (j := 0) (by simp)
  simp only [Nat.add_zero, List.getD_cons_zero] at hcell
  have hrlen := hR.len
  have hrbig := hR.big
  simp only [List.length_cons] at hrlen
  have hnc : n ≤ c := by omega
  have hglt := hR.lt
  have HNF : Hid (¬ fS t w.heap.size) := Lib.hid (fun e => by
    have h1 := hS.dlt
    have h2 := hE.rlt w hS.pr
    rcases e with e | e <;> omega)
  have SB := Lib.hid (hS.below hE.pr ((Below.refl _ _).alloc (Nat.le_refl _) (.cells #[.int .i64 d.B, .int .i64 d.D, .int .i64 (i : Int), .int .i64 d.T, .int .i64 d.K, .int .i64 d.Y, .int .i64 d.C, .bool d.O, .int .i64 d.V] 85)))
  have hB : Below w.heap.size w (w.alloc (.cells #[.int .i64 d.B, .int .i64 d.D, .int .i64 (i : Int), .int .i64 d.T, .int .i64 d.K, .int .i64 d.Y, .int .i64 d.C, .bool d.O, .int .i64 d.V] 85)) := (Below.refl _ _).alloc (Nat.le_refl _) _
  have HB := Lib.hid hB
  have NB := Lib.hid (⟨new_block w _ _⟩ : Blk9 (w.alloc (.cells #[.int .i64 d.B, .int .i64 d.D, .int .i64 (i : Int), .int .i64 d.T, .int .i64 d.K, .int .i64 d.Y, .int .i64 d.C, .bool d.O, .int .i64 d.V] 85)) w.heap.size i d)
  clear hT hR hk hE hG ih hN hr2 hM hS hB hd hr
  by_cases hc0 : c = 1
  · subst hc0
    obtain ⟨rfl, -⟩ := row_one HR.out
    obtain rfl : n = 1 := HML.out.symm
    have RT : ∀ {wx : World}, Row wx G o 1 [m] → Row wx G o 0 [] := fun h => (row_one h).2
    have HLN : Hid (([] : List Int).length = 0) := Lib.hid rfl
    clear hnc hrlen hrbig hn hn1
    have FIN : ∀ b : Bool, (b = false → ¬ GQ L (withG g i) []) → b = false → ¬ NextQ (sysOf 3 L) (takeAt L) (keyAt L) (suitsAt L) (missAt L) g (m :: []) i := fun b h1 h2 h3 => by
      cases h3 with
      | hit _ _ _ _ h5 => exact h1 h2 h5
    go_enter Tryz.func77, Tryz.ntmps77
    go_wp2_with (go_at_call 56; go_loud (refine (with_any _ g i HG2.out h32.out).mono ?_; rintro e w1 ⟨rfl, hw⟩; subst hw))
    obtain ⟨q0, q1, q2, q3, q4, q5, q6, q7, q8⟩ := NB.out.cells
    have R1 := Lib.hid (HR.out.moved (HB.out.block G hglt))
    have qc := (HB.out.cell (World.block_lt_of_cell? _ _ hcell)).trans hcell
    go_region_held3 (fun wx => wx.cell? ⟨w.heap.size, 0, none⟩ = some (.int .i64 d.B) ∧ wx.cell? ⟨w.heap.size, 1, none⟩ = some (.int .i64 d.D) ∧ wx.cell? ⟨w.heap.size, 2, none⟩ = some (.int .i64 (i : Int)) ∧ wx.cell? ⟨w.heap.size, 3, none⟩ = some (.int .i64 d.T) ∧ wx.cell? ⟨w.heap.size, 4, none⟩ = some (.int .i64 d.K) ∧ wx.cell? ⟨w.heap.size, 5, none⟩ = some (.int .i64 d.Y) ∧ wx.cell? ⟨w.heap.size, 6, none⟩ = some (.int .i64 d.C) ∧ wx.cell? ⟨w.heap.size, 7, none⟩ = some (.bool d.O) ∧ wx.cell? ⟨w.heap.size, 8, none⟩ = some (.int .i64 d.V) ∧ wx.cell? ⟨G, o, none⟩ = some (.int .i64 m)) (first | exact cells10 B3.out (row_head R3.out) | exact cells10 B2.out (row_head R2a.out) | exact cells10 NB.out (row_head R1.out) | go_keep) (first
      | (go_at_call 65; have _t := S2.out; go_loud (refine (HI.out _ N (withG g i) G 0 (some ⟨G, o, none⟩) [] 0 S2.out HR2.out HN.out HGI.out (Or.inr ⟨o, rfl, R2.out⟩) (fun _ => HG.out) HLN.out (by omega) HMK.out).mono ?_; rintro e w3 ⟨b3, rfl, hb3, hs3, hw3⟩; have T3 := Lib.hid hb3; have S3 := Lib.hid hs3; have W3 := Lib.hid (W2.out.trans hw3); have R3 := Lib.hid (R2a.out.moved (hw3.block G R2a.out.lt HG.out)); have B3 : Hid (Blk9 w3 w.heap.size i d) := Lib.hid ⟨(hw3.block _ B2.out.lt HNF.out).trans B2.out.box⟩; clear hb3 hs3 hw3))
      | (go_at_call 88; go_loud (refine (HT.out _ i d m).mono ?_; rintro e w2 ⟨rfl, hb2⟩; rw [HK.out]; have hb2b := ((Below.refl (w.alloc (.cells #[.int .i64 d.B, .int .i64 d.D, .int .i64 (i : Int), .int .i64 d.T, .int .i64 d.K, .int .i64 d.Y, .int .i64 d.C, .bool d.O, .int .i64 d.V] 85)).heap.size (w.alloc (.cells #[.int .i64 d.B, .int .i64 d.D, .int .i64 (i : Int), .int .i64 d.T, .int .i64 d.K, .int .i64 d.Y, .int .i64 d.C, .bool d.O, .int .i64 d.V] 85))).drew).trans hb2; have S2 := Lib.hid (SB.out.below HE.out.pr hb2b); have W2 := Lib.hid (Went.ofBelow (f := fS t) (past HB.out hb2b)); have R2a := Lib.hid (R1.out.moved (hb2b.block G (Nat.lt_of_lt_of_le hglt HB.out.size))); have R2 := Lib.hid (RT R2a.out); have B2 := Lib.hid (NB.out.below hb2b); clear hb2 hb2b)))
    all_goals
      go_wp2
      go_returns
      exact ⟨b3, rfl, FIN _ T3.out, S3.out, W3.out⟩
  · have RT : ∀ {wx : World}, Row wx G o c (m :: M) → Row wx G (o + 1) (c - 1) M := row_tail
    have HLN : Hid (M.length = n - 1) := Lib.hid (by omega)
    have hn0 : (1 : Int) ≤ (n : Int) := by omega
    have hc1 : ¬ c = 1 := hc0
    have hc2 : ¬ 1 = c := fun e => hc0 e.symm
    have hnc2 : (n : Int) ≤ (c : Int) := by omega
    have hn1c : (n : Int) ≤ 1000 := by omega
    have FIN : ∀ b : Bool, (b = false → ¬ GQ L (withG g i) M) → b = false → ¬ NextQ (sysOf 3 L) (takeAt L) (keyAt L) (suitsAt L) (missAt L) g (m :: M) i := fun b h1 h2 h3 => by
      cases h3 with
      | hit _ _ _ _ h5 => exact h1 h2 h5
    go_enter Tryz.func77, Tryz.ntmps77
    go_wp2_with (go_at_call 56; go_loud (refine (with_any _ g i HG2.out h32.out).mono ?_; rintro e w1 ⟨rfl, hw⟩; subst hw))
    obtain ⟨q0, q1, q2, q3, q4, q5, q6, q7, q8⟩ := NB.out.cells
    have R1 := Lib.hid (HR.out.moved (HB.out.block G hglt))
    have qc := (HB.out.cell (World.block_lt_of_cell? _ _ hcell)).trans hcell
    go_region_held3 (fun wx => wx.cell? ⟨w.heap.size, 0, none⟩ = some (.int .i64 d.B) ∧ wx.cell? ⟨w.heap.size, 1, none⟩ = some (.int .i64 d.D) ∧ wx.cell? ⟨w.heap.size, 2, none⟩ = some (.int .i64 (i : Int)) ∧ wx.cell? ⟨w.heap.size, 3, none⟩ = some (.int .i64 d.T) ∧ wx.cell? ⟨w.heap.size, 4, none⟩ = some (.int .i64 d.K) ∧ wx.cell? ⟨w.heap.size, 5, none⟩ = some (.int .i64 d.Y) ∧ wx.cell? ⟨w.heap.size, 6, none⟩ = some (.int .i64 d.C) ∧ wx.cell? ⟨w.heap.size, 7, none⟩ = some (.bool d.O) ∧ wx.cell? ⟨w.heap.size, 8, none⟩ = some (.int .i64 d.V) ∧ wx.cell? ⟨G, o, none⟩ = some (.int .i64 m)) (first | exact cells10 B3.out (row_head R3.out) | exact cells10 B2.out (row_head R2a.out) | exact cells10 NB.out (row_head R1.out) | go_keep) (first
      | (go_at_call 65; have _t := S2.out; go_loud (refine (HI.out _ N (withG g i) G (c - 1) (some ⟨G, (o + 1), none⟩) M (n - 1) S2.out HR2.out HN.out HGI.out (Or.inr ⟨(o + 1), rfl, R2.out⟩) (fun _ => HG.out) HLN.out (by omega) HMK.out).mono ?_; rintro e w3 ⟨b3, rfl, hb3, hs3, hw3⟩; have T3 := Lib.hid hb3; have S3 := Lib.hid hs3; have W3 := Lib.hid (W2.out.trans hw3); have R3 := Lib.hid (R2a.out.moved (hw3.block G R2a.out.lt HG.out)); have B3 : Hid (Blk9 w3 w.heap.size i d) := Lib.hid ⟨(hw3.block _ B2.out.lt HNF.out).trans B2.out.box⟩; clear hb3 hs3 hw3))
      | (go_at_call 88; go_loud (refine (HT.out _ i d m).mono ?_; rintro e w2 ⟨rfl, hb2⟩; rw [HK.out]; have hb2b := ((Below.refl (w.alloc (.cells #[.int .i64 d.B, .int .i64 d.D, .int .i64 (i : Int), .int .i64 d.T, .int .i64 d.K, .int .i64 d.Y, .int .i64 d.C, .bool d.O, .int .i64 d.V] 85)).heap.size (w.alloc (.cells #[.int .i64 d.B, .int .i64 d.D, .int .i64 (i : Int), .int .i64 d.T, .int .i64 d.K, .int .i64 d.Y, .int .i64 d.C, .bool d.O, .int .i64 d.V] 85))).drew).trans hb2; have S2 := Lib.hid (SB.out.below HE.out.pr hb2b); have W2 := Lib.hid (Went.ofBelow (f := fS t) (past HB.out hb2b)); have R2a := Lib.hid (R1.out.moved (hb2b.block G (Nat.lt_of_lt_of_le hglt HB.out.size))); have R2 := Lib.hid (RT R2a.out); have B2 := Lib.hid (NB.out.below hb2b); clear hb2 hb2b)))
    all_goals
      go_wp2
      go_returns
      exact ⟨b3, rfl, FIN _ T3.out, S3.out, W3.out⟩
set_option maxRecDepth 100000 in
set_option maxHeartbeats 4000000 in
/-- There are items: one that can't have taken the first one. -/
theorem serves_other (w : World) (t : SP) (g G c o n i : Nat) (m : Int) (hg : g < 4294967296) (hq : w.cell? ⟨G, o, none⟩ = some (.int .i64 m)) (hn : 1 ≤ n) (hi : i < 32) (d : ClV) (hk : takesB d m = false) :
    Calls Tryz.prog 77 #[.pointer (some ⟨t.X, 0, none⟩), clA i d, .int .u32 (g : Int), .slice (some ⟨G, o, none⟩) n c] w fun e w' => e = .returned (.bool false) ∧ Below w.heap.size w w' := by
  have hT := takes_any
  unfold clA at hT ⊢
  have HT := Lib.hid hT
  have HK := Lib.hid hk
  have h32 := Lib.hid hi
  have HG2 := Lib.hid hg
  have hnpos : (0 : Int) < (n : Int) := by omega
  have hB : Below w.heap.size w (w.alloc (.cells #[.int .i64 d.B, .int .i64 d.D, .int .i64 (i : Int), .int .i64 d.T, .int .i64 d.K, .int .i64 d.Y, .int .i64 d.C, .bool d.O, .int .i64 d.V] 85)) := (Below.refl _ _).alloc (Nat.le_refl _) _
  have HB := Lib.hid hB
  have NB := Lib.hid (⟨new_block w _ _⟩ : Blk9 (w.alloc (.cells #[.int .i64 d.B, .int .i64 d.D, .int .i64 (i : Int), .int .i64 d.T, .int .i64 d.K, .int .i64 d.Y, .int .i64 d.C, .bool d.O, .int .i64 d.V] 85)) w.heap.size i d)
  have Q1 := Lib.hid ((hB.cell (World.block_lt_of_cell? _ _ hq)).trans hq)
  clear hT hB
  go_enter Tryz.func77, Tryz.ntmps77
  go_wp2_with (go_at_call 56; go_loud (refine (with_any _ g i HG2.out h32.out).mono ?_; rintro e w1 ⟨rfl, hw⟩; subst hw))
  obtain ⟨q0, q1, q2, q3, q4, q5, q6, q7, q8⟩ := NB.out.cells
  have qc := Q1.out
  have C0 : Sv w (w.alloc (.cells #[.int .i64 d.B, .int .i64 d.D, .int .i64 (i : Int), .int .i64 d.T, .int .i64 d.K, .int .i64 d.Y, .int .i64 d.C, .bool d.O, .int .i64 d.V] 85)) i d G o m := ⟨HB.out, NB.out, qc⟩
  have PT : ∀ wx : World, Calls Tryz.prog 88 #[.agg #[.int .i64 d.B, .int .i64 d.D, .int .i64 (i : Int), .int .i64 d.T, .int .i64 d.K, .int .i64 d.Y, .int .i64 d.C, .bool d.O, .int .i64 d.V], .int .i64 m] wx fun e w' => e = .returned (.bool false) ∧ Below wx.heap.size wx w' := fun wx => by
    have h := HT.out wx i d m
    rw [HK.out] at h
    exact h
  clear q0 q1 q2 q3 q4 q5 q6 q7 q8 qc
  refine quiet.region (C := fun wx => Sv w wx i d G o m) (C0.next ((Below.refl _ _).drew)) (by kernel_rfl) (by kernel_rfl) ?_
  repeat (first
    | go_big_quiet_skip
    | (go_big_quiet_want; go_big_quiet_op; go_big_quiet_on)
    | (refine BigFrame.wpQuiet_want (by rfl) (fun K hK => ?_)
       apply Exists.intro
       refine ⟨fun wx hwx => ?_, hK _ ?_⟩
       · have hx := Sv.cells hwx
         go_split_ands
         go_simp
         first | rfl | (with_reducible refine quiet.call (PT wx) ?_; exact fun _ hb => Sv.next hwx hb)
       clear hK K
       simp only [Act.put, List.setIfInBounds_toArray, List.set_cons_zero, List.set_cons_succ]))
  refine wpQuiet_nil ?_
  intro w6 hq6
  go_wp2
  go_returns
  exact ⟨rfl, hq6.below⟩
end
end Go.Proofs.YtmpilokgbblonaaGreat.lin
