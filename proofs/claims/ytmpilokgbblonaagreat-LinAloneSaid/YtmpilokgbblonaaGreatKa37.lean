/- A stack's search: what it knows of pairs, how many there can be, how much it remembers. -/
import Derived.Test.YtmpilokgbblonaaGreatKa36
import Derived.Test.YtmpilokgbblonaaGreatKa29
import Derived.Test.YtmpilokgbblonaaGreatKa15
import Derived.BigQuiet
namespace Go.Proofs.YtmpilokgbblonaaGreat.lin
open Go.RowKit Go.Maps
open hist (ClV befB past new_block Went At cells9 len9 Blk9)
open spec (Rw Row)

abbrev PG (L : List ClV) : Nat → Nat → Prop := PairG (sysOf 4 L) (takeAt L) (keyAt L) (suitsAt L)
abbrev LG (L : List ClV) : Nat → Nat → Prop := Lev (sysOf 4 L) (takeAt L) (keyAt L) (suitsAt L)
abbrev GS (L : List ClV) : Nat → List Int → Prop := GoodS (sysOf 4 L) (takeAt L)
theorem with_div {g i n : Nat} (hi : i < n) : withG g i / 2 ^ n = g / 2 ^ n := by
  apply Nat.eq_of_testBit_eq
  intro j
  rw [Nat.testBit_div_two_pow, Nat.testBit_div_two_pow, bit_other (by omega)]
/-- Groups that are alike from bit n on: at most so many. -/
theorem block_le {n h : Nat} {l : List Nat} (hd : l.Nodup) (hl : ∀ y ∈ l, y / 2 ^ n = h) : l.length ≤ 2 ^ n := by
  have e : (l.map (· % 2 ^ n)).length = l.length := List.length_map _
  have hnd : (l.map (· % 2 ^ n)).Nodup := by
    refine List.pairwise_map.2 (hd.imp_of_mem ?_)
    intro a b ha hb hne e
    have h1 := Nat.div_add_mod a (2 ^ n)
    have h2 := Nat.div_add_mod b (2 ^ n)
    rw [hl a ha] at h1
    rw [hl b hb, ← e] at h2
    exact hne (h1.symm.trans h2)
  have hlt : ∀ i ∈ l.map (· % 2 ^ n), i < 2 ^ n := by
    intro i hi
    obtain ⟨a, _, rfl⟩ := List.mem_map.1 hi
    exact Nat.mod_lt _ (Nat.two_pow_pos n)
  rw [← e]
  exact nodup_le (2 ^ n) _ hnd hlt
section
variable {L : List ClV}
theorem free_rem {g i : Nat} (h : Free (sysOf 4 L) g i) : remG L.length g = remG L.length (withG g i) + 1 := rem_with (n := L.length) h.lt h.new
theorem lev_rem {g y : Nat} (h : LG L g y) : y / 2 ^ L.length = g / 2 ^ L.length ∧ (y = g ∨ remG L.length y + 2 ≤ remG L.length g) ∧ (L.length ≤ 24 → g < 4294967296 → y < 4294967296) := by
  induction h with
  | refl g => exact ⟨rfl, Or.inl rfl, fun _ h => h⟩
  | pair g p b t g2 hp fp h1 ft ht hs h2 ih1 ih2 =>
    obtain ⟨a1, a2, a3⟩ := ih1
    obtain ⟨b1, b2, b3⟩ := ih2
    have e1 := free_rem fp
    have e2 := free_rem ft
    have hpl : p < L.length := fp.lt
    have htl : t < L.length := ft.lt
    refine ⟨?_, Or.inr ?_, fun h24 hg => b3 h24 (with_lt (a3 h24 (with_lt hg (by omega))) (by omega))⟩
    · rw [b1, with_div htl, a1, with_div hpl]
    · rcases a2 with a2 | a2 <;> rcases b2 with b2 | b2 <;> first | (subst a2; subst b2; omega) | (subst a2; omega) | (subst b2; omega) | omega
theorem pair_rem {g y : Nat} (h : PG L g y) : y / 2 ^ L.length = g / 2 ^ L.length ∧ remG L.length y + 2 ≤ remG L.length g ∧ (L.length ≤ 24 → g < 4294967296 → y < 4294967296) := by
  obtain ⟨p, b, t, hp, fp, hl, ft, ht, hs, rfl⟩ := h
  obtain ⟨a1, a2, a3⟩ := lev_rem hl
  have e1 := free_rem fp
  have e2 := free_rem ft
  have hpl : p < L.length := fp.lt
  have htl : t < L.length := ft.lt
  refine ⟨by rw [with_div htl, a1, with_div hpl], ?_, fun h24 hg => with_lt (a3 h24 (with_lt hg (by omega))) (by omega)⟩
  rcases a2 with a2 | a2
  · subst a2; omega
  · omega
/-- One level more. -/
theorem lev_snoc {g x y : Nat} (h : LG L g x) (hp : PG L x y) : LG L g y := by
  induction h with
  | refl g =>
    obtain ⟨p, b, t, h1, h2, h3, h4, h5, h6, rfl⟩ := hp
    exact .pair g p b t _ h1 h2 h3 h4 h5 h6 (.refl _)
  | pair g p b t g2 h1 h2 h3 h4 h5 h6 _ _ ih2 => exact .pair g p b t _ h1 h2 h3 h4 h5 h6 (ih2 hp)
/-- What is closed under pairs, and has the first, has all. -/
theorem lev_all {F : Nat → Prop} (hF : ∀ x y, F x → PG L x y → F y) {g y : Nat} (h : LG L g y) : F g → F y := by
  induction h with
  | refl g => exact id
  | pair g p b t g2 h1 h2 h3 h4 h5 h6 _ _ ih2 => exact fun hg => ih2 (hF g _ hg ⟨p, b, t, h1, h2, h3, h4, h5, h6, rfl⟩)
/-- A row has just the groups behind one pair, each once. -/
def RowOK (L : List ClV) (g : Nat) (l : List Nat) : Prop := l.Nodup ∧ ∀ y, y ∈ l ↔ PG L g y
theorem RowOK.le {g : Nat} {l : List Nat} (h : RowOK L g l) : l.length ≤ 2 ^ L.length := block_le h.1 fun y hy => (pair_rem ((h.2 y).1 hy)).1
end
/-- What a search knows of pairs; No: where no row lies. -/
structure PS (No : Nat → Prop) (t : SP) (L : List ClV) (w : World) : Prop where
  srch : Srch w t L
  pairs : ∃ T Ks, PairM No (RowOK L) w t.R T Ks
def fR (t : SP) (b : Nat) : Prop := b = t.R
section
variable {No : Nat → Prop} {t : SP} {L : List ClV} {w w' : World}
theorem PS.rlt (h : PS No t L w) : t.R < w.heap.size := by
  obtain ⟨_, T, Ks, h⟩ := h
  exact h.lt
theorem PS.rmap (h : PS No t L w) : ∃ es k, w.heap[t.R]? = some (.map es k) := by
  obtain ⟨_, T, Ks, h⟩ := h
  obtain ⟨es, k, hb, _⟩ := h.own
  exact ⟨es, k, hb⟩
theorem PS.below (h : PS No t L w) (hb : Below w.heap.size w w') : PS No t L w' := by
  obtain ⟨h1, T, Ks, h2⟩ := h
  exact ⟨h1.below hb, T, Ks, h2.below hb⟩
theorem PS.reno (h : PS No t L w) {No' : Nat → Prop} (hN : ∀ b, No' b → No b ∨ w.heap.size ≤ b) : PS No' t L w := by
  obtain ⟨h1, T, Ks, h2⟩ := h
  exact ⟨h1, T, Ks, h2.reno hN⟩
theorem calls_kept {A : Option Addr} {M : List (Nat × ClV)} (h : At cellsI 9 w A M) (hb : ∀ b, A = some b → M ≠ [] → b.block < w.heap.size → w'.heap[b.block]? = w.heap[b.block]?) : At cellsI 9 w' A M := by
  by_cases hM : M = []
  · subst hM
    exact fun i hi => absurd hi (by simp)
  · exact h.moved fun b e hl => hb b e hM hl
theorem calls_lt {A : Option Addr} {M : List (Nat × ClV)} (h : At cellsI 9 w A M) (hM : M ≠ []) {b : Addr} (hb : A = some b) : b.block < w.heap.size := by
  have hl : 0 < M.length := List.length_pos_iff.2 hM
  obtain ⟨b', e, hc⟩ := h 0 hl
  rw [hb] at e
  obtain rfl := Option.some.inj e
  exact World.block_lt_of_cell? _ _ (hc 0 _ rfl)
/-- Nothing but one block that isn't the search's is written into. -/
theorem PS.other (h : PS No t L w) {B : Nat} (hB : ∀ b, b < w.heap.size → b ≠ B → w'.heap[b]? = w.heap[b]?) (hX : B ≠ t.X ∧ B ≠ t.ga ∧ B ≠ t.R ∧ ∀ b, t.A9 = some b → keptL t.sh L ≠ [] → B ≠ b.block) (hN : No B ∨ ∀ cur T, w.heap[B]? ≠ some (.cells cur T (0, 0))) : PS No t L w' := by
  obtain ⟨h1, T, Ks, h2⟩ := h
  refine ⟨⟨h1.box.moved (hB _ h1.box.lt (Ne.symm hX.1)), h1.row.moved (hB _ h1.row.lt (Ne.symm hX.2.1)), calls_kept h1.calls fun b hb hk hl => hB _ hl (Ne.symm (hX.2.2.2 b hb hk)), h1.len⟩, T, Ks, h2.moved (hB _ h2.lt (Ne.symm hX.2.2.1)) fun b hl hn hm => hB _ hl fun e => ?_⟩
  subst e
  obtain ⟨cur, hm⟩ := hm
  rcases hN with hN | hN
  · exact hn hN
  · exact hN cur _ hm
theorem not_cells {w : World} {B : Nat} (h : ∃ es k, w.heap[B]? = some (.map es k)) : ∀ cur T, w.heap[B]? ≠ some (.cells cur T (0, 0)) := fun cur T e => by
  obtain ⟨es, k, h⟩ := h
  rw [h] at e
  cases e
/-- A row more is known: what is known of it is there. -/
theorem PS.put (h : PS No t L w) (hap : Apart t) {x : Nat} (hx : x < 4294967296) {A : Option Addr} {c : Nat} {l : List Nat} (hA : URw w A c l) (hN : ∀ a, A = some a → ¬ No a.block) (hg : RowOK L x l) :
    ∃ w', (Instr.mapUpdate 110 (.map (some t.R)) (gv x) (.slice A l.length c)).run Tryz.prog w = .ok () w' ∧ PS No t L w' ∧ w.grownBy w' (some t.R) ∧ ∃ A2 l2 c2, URw w' A2 c2 l2 ∧ (∀ a, A2 = some a → ¬ No a.block) ∧ RowOK L x l2 ∧ (Instr.lookup 110 (.map (some t.R)) (gv x) false).run Tryz.prog w' = .ok (.slice A2 l2.length c2) w' := by
  obtain ⟨h1, T, Ks, h2⟩ := h
  obtain ⟨w', T', hrun, h3, hg3⟩ := h2.put hx hA hN hg
  exact ⟨w', hrun, ⟨h1.moved hap fun b hb hf => hg3.block b hb (fun e => hf (Or.inr (Option.some.inj e))), T', _, h3⟩, hg3, h3.get (mem_more.2 (Or.inr rfl))⟩
end
/-- How much is remembered, if m pairs at most can be next, and c calls. -/
def pbF (m c : Nat) : Nat → Nat
  | 0 => 1
  | 1 => 1 + c
  | r + 2 => 1 + m * pbF m c r + c * pbF m c (r + 1)
def pb1 (m c r : Nat) : Nat := if 1 ≤ r then pbF m c (r - 1) else 0
def pb2 (m c r : Nat) : Nat := if 2 ≤ r then pbF m c (r - 2) else 0
theorem pb_eq (m c r : Nat) : 1 + m * pb2 m c r + c * pb1 m c r = pbF m c r := by
  unfold pb1 pb2
  match r with
  | 0 => simp [pbF]
  | 1 => simp [pbF]
  | r + 2 =>
    simp only [show 2 ≤ r + 2 from by omega, show 1 ≤ r + 2 from by omega, if_true]
    show 1 + m * pbF m c r + c * pbF m c (r + 1) = pbF m c (r + 2)
    simp [pbF]
/-- A sort that serves up to m groups. -/
def SortsOK (m : Nat) : Prop := ∀ (w : World) (B n c : Nat) (xs : List Nat), GRow w B n xs → n ≤ m → Calls Tryz.prog 99 #[.slice (some ⟨B, 0, none⟩) n c] w fun e w' => e = .returned (.tuple #[]) ∧ Sorts w B n xs w'
/-- What is around a stack's search. -/
structure EnvS (t : SP) (L : List ClV) (m c0 : Nat) : Prop where
  apart : Apart t
  masks : Masks t L
  spans : Spans L
  sh : t.sh = 4
  frees : ∀ g, g < 4294967296 → cntB (fun p => freeB t L g p) L.length ≤ c0
  rows : ∀ g l, RowOK L g l → l.length ≤ m
  sorts : SortsOK m
/-- A slice of groups, the search's own no more. -/
def PairsQ (No : Nat → Prop) (t : SP) (L : List ClV) (g : Nat) (w : World) (e : Ending) (w' : World) : Prop :=
  ∃ A l c, e = .returned (.slice A l.length c) ∧ URw w' A c l ∧ (∀ a, A = some a → ¬ No a.block) ∧ RowOK L g l ∧ PS No t L w' ∧ Went (fR t) (fR t) w w'
def PairsOK (t : SP) (L : List ClV) (r : Nat) : Prop := ∀ (No : Nat → Prop) (w : World) (g : Nat), PS No t L w → (∀ b, No b → b < w.heap.size) → remG L.length g = r → g < 4294967296 →
  Calls Tryz.prog 78 #[.pointer (some ⟨t.X, 0, none⟩), .int .u32 (g : Int)] w (PairsQ No t L g w)
def LevelQ (No : Nat → Prop) (t : SP) (L : List ClV) (g : Nat) (w : World) (e : Ending) (w' : World) : Prop :=
  ∃ B T F, e = .returned (.map (some B)) ∧ SetM w' B T F ∧ (∀ x, x ∈ F ↔ LG L g x) ∧ w.heap.size ≤ B ∧ PS No t L w' ∧ Went (fR t) (fR t) w w'
def LevelOK (t : SP) (L : List ClV) (r : Nat) : Prop := ∀ (No : Nat → Prop) (w : World) (g : Nat), PS No t L w → (∀ b, No b → b < w.heap.size) → remG L.length g = r → g < 4294967296 →
  Calls Tryz.prog 91 #[.pointer (some ⟨t.X, 0, none⟩), .int .u32 (g : Int)] w (LevelQ No t L g w)
end Go.Proofs.YtmpilokgbblonaaGreat.lin
/- A stack's search: which calls can stand behind as many pairs as there may be. -/
namespace Go.Proofs.YtmpilokgbblonaaGreat.lin
open Go.RowKit Go.Maps
open hist (ClV befB past new_block Went At cells9 len9 Blk9)

/-- On the way: what was found, what of it is still to be looked at. -/
structure Lvl (No : Nat → Prop) (t : SP) (L : List ClV) (g : Nat) (W w : World) (B g1 o1 c1 : Nat) (T : DataW Unit) (F Q : List Nat) : Prop where
  set : SetM w B T F
  row : URow w g1 o1 c1 Q
  lev : ∀ x ∈ F, LG L g x
  start : g ∈ F
  sub : ∀ q ∈ Q, q ∈ F
  once : Q.Nodup
  ps : PS (fun b => No b ∨ b = g1) t L w
  went : Went (fR t) (fR t) W w
  loB : W.heap.size ≤ B
  log : W.heap.size ≤ g1
theorem went_low {f : Nat → Prop} {W w w' : World} (h : Went f f W w) (hb : Below W.heap.size w w') : Went f f W w' :=
  ⟨hb.os.trans h.os, hb.tape.trans h.tape, hb.output.trans h.output, Nat.le_trans h.size hb.size, fun b hl hf => (hb.block b hl).trans (h.block b hl hf), fun _ h => Or.inl h⟩
/-- A slice but its first, as Go has it. -/
theorem cut_one {w : World} {g o c q : Nat} {Q : List Nat} (h : URow w g o c (q :: Q)) : ∃ o2, (if c = 1 then some (⟨g, o, none⟩ : Addr) else some ⟨g, o + 1, none⟩) = some ⟨g, o2, none⟩ ∧ URow w g o2 (c - 1) Q := by
  by_cases hc : c = 1
  · subst hc
    have h1 := h.len
    obtain rfl : Q = [] := by cases Q <;> simp at h1 ⊢
    obtain ⟨cur, hb, hs, _⟩ := h.blk
    exact ⟨o, if_pos rfl, Nat.le_refl _, by decide, cur, hb, by omega, fun j hj => absurd hj (by simp)⟩
  · exact ⟨o + 1, if_neg hc, h.tail⟩
def slen : Value → Nat
  | .slice _ n _ => n
  | _ => 0
section
variable {No : Nat → Prop} {t : SP} {L : List ClV} {g : Nat} {W w w' : World} {B g1 o1 c1 : Nat} {T : DataW Unit} {F Q : List Nat}
theorem Lvl.len_le (h : Lvl No t L g W w B g1 o1 c1 T F Q) (h24 : L.length ≤ 24) : F.length ≤ 16777216 := by
  have h1 := block_le h.set.nodup fun y hy => (lev_rem (h.lev y hy)).1
  exact Nat.le_trans h1 (Nat.pow_le_pow_right (by decide) h24 : 2 ^ L.length ≤ 2 ^ 24)
theorem Lvl.qlen_le (h : Lvl No t L g W w B g1 o1 c1 T F Q) (h24 : L.length ≤ 24) : Q.length ≤ 16777216 := by
  have h1 := block_le h.once fun y hy => (lev_rem (h.lev y (h.sub y hy))).1
  exact Nat.le_trans h1 (Nat.pow_le_pow_right (by decide) h24 : 2 ^ L.length ≤ 2 ^ 24)
theorem Lvl.below (h : Lvl No t L g W w B g1 o1 c1 T F Q) (hb : Below w.heap.size w w') : Lvl No t L g W w' B g1 o1 c1 T F Q :=
  ⟨h.set.below hb, h.row.below hb, h.lev, h.start, h.sub, h.once, h.ps.below hb, h.went.next hb, h.loB, h.log⟩
theorem Lvl.ne (h : Lvl No t L g W w B g1 o1 c1 T F Q) : B ≠ g1 := fun e => by
  obtain ⟨es, k, h1, _⟩ := h.set.own
  obtain ⟨cur, h2, _⟩ := h.row.blk
  rw [e, h2] at h1
  cases h1
/-- Pairs were asked for: the first of what is still to be looked at is looked at. -/
theorem Lvl.asked {q o2 : Nat} (h : Lvl No t L g W w B g1 o1 c1 T F (q :: Q)) (hR : t.R < W.heap.size) (hp : PS (fun b => No b ∨ b = g1) t L w') (hw : Went (fR t) (fR t) w w') (h2 : URow w g1 o2 (c1 - 1) Q) : Lvl No t L g W w' B g1 o2 (c1 - 1) T F Q := by
  have hB : ¬ fR t B := fun e => by have := h.loB; have e : B = t.R := e; omega
  have hG : ¬ fR t g1 := fun e => by have := h.log; have e : g1 = t.R := e; omega
  exact ⟨h.set.moved (hw.block _ h.set.lt hB), h2.moved (hw.block _ h2.lt hG), h.lev, h.start, fun x hx => h.sub x (List.mem_cons_of_mem _ hx), (List.nodup_cons.1 h.once).2, hp, h.went.trans hw, h.loB, h.log⟩
/-- One more was found. -/
theorem Lvl.found {q y : Nat} (h : Lvl No t L g W w B g1 o1 c1 T F Q) (hS : SP.X t < W.heap.size ∧ t.ga < W.heap.size ∧ t.R < W.heap.size ∧ ∀ b, t.A9 = some b → keptL t.sh L ≠ [] → b.block < W.heap.size) (hy : y < 4294967296) (hq : q ∈ F) (hqy : PG L q y) (hn : y ∉ F) (hlen : Q.length ≤ 16777216) {A : Option Addr} {c : Nat} {l : List Nat} (hA : URw w A c l) (hAg : ∀ a, A = some a → a.block ≠ g1) :
    ∃ w2 T2, (Instr.mapUpdate 150 (.map (some B)) (gv y) (.agg #[])).run Tryz.prog w = .ok () w2 ∧
      ∃ g2 o2 c2 w3, (Builtin.append_ #[108, 108] 108 #[.slice (some ⟨g1, o1, none⟩) Q.length c1, .slice (some ⟨w2.heap.size, 0, none⟩) 1 1]).run Tryz.prog (w2.alloc (.cells #[gv y] 79)) = .ok (.slice (some ⟨g2, o2, none⟩) (Q.length + 1) c2) w3
        ∧ Lvl No t L g W w3 B g2 o2 c2 T2 (F ++ [y]) (Q ++ [y]) ∧ URw w3 A c l ∧ (∀ a, A = some a → a.block ≠ g2) := by
  obtain ⟨w2, T2, hrun, hs2, hg2⟩ := h.set.put hy
  have e : more F y = F ++ [y] := if_neg hn
  rw [e] at hs2
  have hWs := h.went.size
  have hne := h.ne
  have hb2 : Below W.heap.size w w2 := (Below.refl _ _).grown hg2 hWs (fun j e => by rw [← Option.some.inj e]; exact h.loB)
  have hrow2 : URow w2 g1 o1 c1 Q := h.row.moved (hg2.block _ h.row.lt (fun e => hne (Option.some.inj e).symm))
  have hbA : Below w2.heap.size w2 (w2.alloc (.cells #[gv y] 79)) := (Below.refl _ _).alloc (Nat.le_refl _) _
  have hp : (w2.alloc (.cells #[gv y] 79)).cell? ⟨w2.heap.size, 0, none⟩ = some (gv y) := by
    rw [Joins.cell_of_block (heap_alloc_new w2 _)]
    rfl
  have hs2l : w.heap.size ≤ w2.heap.size := hg2.size
  obtain ⟨g2, o2, c2, w3, hrun3, hrow3, hlo3, hb3, hoth, hfr⟩ := push_one (w2.alloc (.cells #[gv y] 79)) 108 y w2.heap.size W.heap.size (hrow2.below hbA) h.log (by simp; omega) Q.length rfl (by omega) hp
  have hgl := h.row.lt
  have hmap2 : ∃ es k, w.heap[B]? = some (.map es k) := by
    obtain ⟨es, k, h1, _⟩ := h.set.own
    exact ⟨es, k, h1⟩
  have ps2 : PS (fun b => No b ∨ b = g1) t L w2 := h.ps.other (fun b hb hne => hg2.block b hb (fun e => hne (Option.some.inj e))) (by
    have := h.loB
    exact ⟨by omega, by omega, by omega, fun b hb hk => by have := hS.2.2.2 b hb hk; omega⟩) (Or.inr (not_cells hmap2))
  have ps3 : PS (fun b => No b ∨ b = g2) t L w3 := by
    have p1 := (ps2.below hbA).reno (No' := fun b => (No b ∨ b = g1) ∨ b = g2) fun b hb => hb.elim Or.inl fun e => by
      rcases hfr with e2 | e2
      · exact Or.inl (Or.inr (e.trans e2))
      · exact Or.inr (by rw [e, e2]; exact Nat.le_refl _)
    exact (p1.other hoth (by
      have := h.log
      exact ⟨by omega, by omega, by omega, fun b hb hk => by have := hS.2.2.2 b hb hk; omega⟩) (Or.inl (Or.inl (Or.inr rfl)))).reno fun b hb => hb.elim (fun h => Or.inl (Or.inl (Or.inl h))) fun e => Or.inl (Or.inr e)
  have hset3 : SetM w3 B T2 (F ++ [y]) := (hs2.below hbA).moved (hoth _ (Nat.lt_of_lt_of_le hs2.lt hbA.size) hne)
  refine ⟨w2, T2, hrun, g2, o2, c2, w3, hrun3, ⟨hset3, hrow3, fun x hx => ?_, List.mem_append_left _ h.start, fun x hx => ?_, List.nodup_append.2 ⟨h.once, by simp, fun a ha b hb => by simp at hb; subst hb; exact fun e => hn (e ▸ h.sub a ha)⟩, ps3, went_low h.went ((hb2.trans (hbA.mono (by omega))).trans hb3), h.loB, hlo3⟩, ?_, fun a ha e => ?_⟩
  · rcases List.mem_append.1 hx with hx | hx
    · exact h.lev x hx
    · rw [List.mem_singleton.1 hx]; exact lev_snoc (h.lev q hq) hqy
  · rcases List.mem_append.1 hx with hx | hx
    · exact List.mem_append_left _ (h.sub x hx)
    · exact List.mem_append_right _ hx
  · refine hA.moved fun a ha hl => ?_
    obtain ⟨es, k, hm⟩ := hmap2
    rw [hoth _ (by simp; omega) (hAg a ha), hbA.block _ (by omega)]
    exact hg2.block _ hl (fun e => hA.not_map ha hm (Option.some.inj e))
  · rcases hfr with e2 | e2
    · exact hAg a ha (e.trans e2)
    · have hl : a.block < w.heap.size := by
        rcases hA with ⟨e3, _⟩ | ⟨g3, o3, e3, hr⟩
        · rw [e3] at ha; cases ha
        · rw [e3] at ha; cases ha; exact hr.lt
      rw [e, e2] at hl
      simp at hl
      omega
end
section
variable {t : SP} {L : List ClV} {m c0 : Nat}
set_option maxRecDepth 100000 in
set_option maxHeartbeats 4000000 in
theorem level_step (hE : EnvS t L m c0) (r : Nat) (ih : ∀ r', r' ≤ r → PairsOK t L r') : LevelOK t L r := by
  intro No w g hS hNo hr hg
  have hR := hS.rlt
  have HS := Lib.hid hS
  have HRL := Lib.hid hR
  have HSZ : Hid (t.X < w.heap.size ∧ t.ga < w.heap.size ∧ t.R < w.heap.size ∧ ∀ b, t.A9 = some b → keptL t.sh L ≠ [] → b.block < w.heap.size) := Lib.hid ⟨hS.srch.box.lt, hS.srch.row.lt, hR, fun b hb hk => calls_lt hS.srch.calls hk hb⟩
  have HNO := Lib.hid hNo
  have HE := Lib.hid hE
  have HG := Lib.hid hg
  have HRR := Lib.hid hr
  have HIH := Lib.hid ih
  have hmm := @run_makeMap Tryz.prog
  have M1 := Lib.hid (set_made w)
  obtain ⟨w2, T2, hrun2, hs2, hg2⟩ := (set_made w).put hg
  have hgr : Below w.heap.size w w2 := ((Below.refl _ _).alloc (Nat.le_refl _) _).grown hg2 (by simp) (fun j e => by rw [Option.some.inj e]; exact Nat.le_refl _)
  have B2 := Lib.hid hgr
  have S2 := Lib.hid hs2
  have hsz2 : w.heap.size + 1 ≤ w2.heap.size := by have := hg2.size; simpa using this
  have B3 := Lib.hid (past hgr ((Below.refl w2.heap.size w2).alloc (Nat.le_refl _) (.cells #[gv g] 79)))
  have L3 : Hid (Lvl No t L g w (w2.alloc (.cells #[gv g] 79)) w.heap.size w2.heap.size 0 1 T2 [g] [g]) := Lib.hid
    ⟨hs2.below ((Below.refl _ _).alloc (Nat.le_refl _) _), urow_one w2 g, fun x hx => by rw [List.mem_singleton.1 hx]; exact .refl g, by simp, fun q hq => hq, by simp,
      (hS.reno fun b hb => hb.elim Or.inl (fun e => Or.inr (by omega))).below B3.out, Went.ofBelow B3.out, Nat.le_refl _, by omega⟩
  clear hS hNo hE hg hr ih hs2 hg2 hgr
  go_enter Tryz.func91, Tryz.ntmps91
  go_wp2
  go_loopw [6] (fun v wr => ∃ g1 o1 c1 T F Q, v = .slice (some ⟨g1, o1, none⟩) Q.length c1 ∧ Lvl No t L g w wr w.heap.size g1 o1 c1 T F Q ∧ ∀ x ∈ F, x ∉ Q → ∀ y, PG L x y → y ∈ F) (fun v wr => 2 * (16777216 - mapLen wr w.heap.size) + slen v)
  case atStart => exact ⟨_, _, _, _, _, _, rfl, L3.out, fun x hx hq => absurd hx hq⟩
  case round =>
    obtain ⟨g1, o1, c1, T, F, Q, rfl, hL, hC⟩ := hrel
    have hlen := hL.len_le HE.out.masks.small.n24
    have HL := Lib.hid hL
    have HC := Lib.hid hC
    cases Q with
    | nil =>
      clear hL hC
      go_wp2
      go_returns
      exact ⟨w.heap.size, T, F, rfl, HL.out.set, fun x => ⟨HL.out.lev x, fun h => lev_all (F := fun x => x ∈ F) (fun x y hx hp => HC.out x hx (by simp) y hp) h HL.out.start⟩, Nat.le_refl _, HL.out.ps.reno (fun b hb => Or.inl (Or.inl hb)), HL.out.went⟩
    | cons q Qt =>
      have hqF := hL.sub q (List.mem_cons_self ..)
      obtain ⟨n, hn⟩ : ∃ n, n = Qt.length := ⟨_, rfl⟩
      have HNQ := Lib.hid hn
      have hql := hL.qlen_le HE.out.masks.small.n24
      rw [List.length_cons, ← hn] at hql
      have hn1 : (n : Int) ≤ 16777216 := by omega
      have q0 : wr.cell? ⟨g1, o1, none⟩ = some (.int .u32 (q : Int)) := by
        have := hL.row.cell (j := 0) (by simp)
        simpa using this
      obtain ⟨o2, ho2, hrow2⟩ := cut_one hL.row
      have HROW2 := Lib.hid hrow2
      have hlr := lev_rem (hL.lev q hqF)
      have HQ32 : Hid (q < 4294967296) := Lib.hid (hlr.2.2 HE.out.masks.small.n24 HG.out)
      have HQR : Hid (remG L.length q ≤ r) := Lib.hid (by
        have h1 := HRR.out
        rcases hlr.2.1 with e | e
        · rw [e]; omega
        · omega)
      have HNB : Hid (∀ b, (No b ∨ b = g1) → b < wr.heap.size) := Lib.hid (fun b hb => hb.elim (fun h => Nat.lt_of_lt_of_le (HNO.out b h) HL.out.went.size) (fun e => by rw [e]; exact HL.out.row.lt))
      have HFL : Hid (F.length ≤ 16777216) := Lib.hid hlen
      have HML : Hid (mapLen wr w.heap.size = F.length) := Lib.hid hL.set.len
      have HQF := Lib.hid hqF
      rw [List.length_cons, ← hn]
      clear hL hC hlr hlen hql hn hrow2 hqF
      go_upto_region 6 with (go_at_call 78; go_loud (refine (HIH.out _ HQR.out _ wr q HL.out.ps HNB.out rfl HQ32.out).mono ?_; rintro e w3 ⟨A, l, c, rfl, hrow, hno, hok, hps, hw⟩; have R3 := Lib.hid hrow; have N3 := Lib.hid hno; have K3 := Lib.hid hok; have L3 := Lib.hid (HL.out.asked HRL.out hps hw HROW2.out); clear hrow hno hok hps hw))
      try simp only [ho2]
      obtain ⟨nl, hnl⟩ : ∃ nl, nl = l.length := ⟨_, rfl⟩
      have HNL := Lib.hid hnl
      have hnl1 : (nl : Int) ≤ 16777216 := by
        have h1 := K3.out.le
        have h2 : 2 ^ L.length ≤ 2 ^ 24 := Nat.pow_le_pow_right (by decide) HE.out.masks.small.n24
        have h3 : (2 : Nat) ^ 24 = 16777216 := by decide
        omega
      rw [← hnl]
      clear hnl ho2 q0
      go_wp2
      go_loopw [6, 30] (fun v j wi => ∃ (k g2 o2 c2 n2 : Nat) (T2 : DataW Unit) (F2 Q2 : List Nat), v = .slice (some ⟨g2, o2, none⟩) n2 c2 ∧ j = .int .i64 (k : Int) ∧ k ≤ nl ∧ n2 = Q2.length ∧ Lvl No t L g w wi w.heap.size g2 o2 c2 T2 F2 Q2 ∧ URw wi A c l ∧ (∀ a, A = some a → a.block ≠ g2) ∧ q ∈ F2 ∧ (∀ x ∈ F2, x ∉ Q2 → x ≠ q → ∀ y, PG L x y → y ∈ F2) ∧ (∀ i, i < k → l.getD i 0 ∈ F2) ∧ (F2.length + n = F.length + Q2.length ∧ n ≤ Q2.length)) (fun _ j _ => nl - (intOf j).toNat)
      case atStart => exact ⟨0, g1, o2, _, n, T, F, Qt, rfl, rfl, Nat.zero_le _, HNQ.out, L3.out, R3.out, fun a ha e => N3.out a ha (Or.inr e), HQF.out, fun x hx hxq hne y hp => HC.out x hx (fun h => (List.mem_cons.1 h).elim hne hxq) y hp, fun i hi => absurd hi (by omega), by rw [HNQ.out], by rw [HNQ.out]; exact Nat.le_refl _⟩
      case round =>
        obtain ⟨k, g2, o3, c2, n2, T2, F2, Q2, rfl, rfl, hk, hn2, hL2, hA2, hAg, hq2, hC2, hl2, hcnt⟩ := hrel
        have IL := Lib.hid hL2
        have IA := Lib.hid hA2
        have IG := Lib.hid hAg
        have IC := Lib.hid hC2
        have II := Lib.hid hl2
        have IN := Lib.hid hcnt
        have IQ := Lib.hid hq2
        have IE := Lib.hid hn2
        have hq2l := hL2.qlen_le HE.out.masks.small.n24
        have hn2I : (n2 : Int) ≤ 16777216 := by omega
        by_cases hlt : k < nl
        · have hki : (k : Int) < (nl : Int) := by omega
          have hkl : k < l.length := by rw [← HNL.out]; exact hlt
          obtain ⟨y, hy⟩ : ∃ y, y = l.getD k 0 := ⟨_, rfl⟩
          have HYD := Lib.hid hy
          have hyl : y ∈ l := by rw [hy, List.getD_eq_getElem?_getD, List.getElem?_eq_getElem hkl]; exact List.getElem_mem _
          have HYP : Hid (PG L q y) := Lib.hid ((K3.out.2 y).1 hyl)
          have HY32 : Hid (y < 4294967296) := Lib.hid ((pair_rem HYP.out).2.2 HE.out.masks.small.n24 HQ32.out)
          obtain ⟨gA, oA, rfl, hur⟩ : ∃ gA oA, A = some ⟨gA, oA, none⟩ ∧ URow wr gA oA l.length l := by
            rcases hA2 with ⟨_, _, e⟩ | h
            · rw [e] at hkl; simp at hkl
            · exact h
          have ck := hur.cell hkl
          rw [← hy] at ck
          have LA := Lib.hid (IL.out.below ((Below.refl wr.heap.size wr).alloc (Nat.le_refl _) (.cells #[] 118)))
          have AA := Lib.hid (IA.out.below ((Below.refl wr.heap.size wr).alloc (Nat.le_refl _) (.cells #[] 118)))
          have lk := hL2.set.look HY32.out wr rfl
          by_cases hyF : y ∈ F2
          · rw [decide_eq_true hyF] at lk
            have HYF := Lib.hid hyF
            clear hL2 hA2 hAg hC2 hl2 hcnt hq2 hn2 hy hyl hyF hur hkl hq2l
            have IC2 := Lib.hid (LA.out)
            go_wp2
            go_roundw
            case rel => exact ⟨k + 1, g2, o3, c2, n2, T2, F2, Q2, rfl, by go_num, by omega, IE.out, LA.out, AA.out, IG.out, IQ.out, IC.out, fun i hi => by
              by_cases e : i = k
              · subst e; rw [← HYD.out]; exact HYF.out
              · exact II.out i (by omega), IN.out⟩
            case measure => simp [intOf]; omega
          · rw [decide_eq_false hyF] at lk
            have HYF := Lib.hid hyF
            obtain ⟨w5, T5, hrun5, g5, o5, c5, w7, hrun7, hL7, hA7, hG7⟩ := LA.out.found HSZ.out HY32.out IQ.out HYP.out hyF (by omega) AA.out IG.out
            rw [← hn2] at hrun7
            have L7 := Lib.hid hL7
            have A7 := Lib.hid hA7
            have G7 := Lib.hid hG7
            have R7 := Lib.hid hrun7
            clear hL2 hA2 hAg hC2 hl2 hcnt hq2 hn2 hy hyl hyF hur hkl hq2l hrun7 hL7 hA7 hG7
            go_wp2_with (at_builtin; have _t := R7.out; go_loud (refine spec.wpList_known rfl (.tmp 45) (.tmp 47) 108 rfl _ _ _ w7 rfl rfl R7.out ?_))
            go_roundw
            case rel => exact ⟨k + 1, g5, o5, c5, n2 + 1, T5, F2 ++ [y], Q2 ++ [y], by first | rfl | go_num, by go_num, by omega, by rw [List.length_append, IE.out]; rfl, L7.out, A7.out, G7.out, List.mem_append_left _ IQ.out, fun x hx hxq hne z hp => by
              rcases List.mem_append.1 hx with hx | hx
              · exact List.mem_append_left _ (IC.out x hx (fun h => hxq (List.mem_append_left _ h)) hne z hp)
              · exact absurd (List.mem_append_right _ hx) hxq, fun i hi => by
              by_cases e : i = k
              · subst e; rw [← HYD.out]; simp
              · exact List.mem_append_left _ (II.out i (by omega)), by have := IN.out; rw [List.length_append, List.length_append]; simp only [List.length_singleton]; omega, by have := IN.out; rw [List.length_append]; omega⟩
            case measure => simp [intOf]; omega
        · have hkn : k = l.length := by rw [← HNL.out]; omega
          have HKN := Lib.hid hkn
          have HML2 : Hid (mapLen wr w.heap.size = F2.length) := Lib.hid hL2.set.len
          have HFL2 : Hid (F2.length ≤ 16777216) := Lib.hid (hL2.len_le HE.out.masks.small.n24)
          clear hL2 hA2 hAg hC2 hl2 hcnt hq2 hn2 hq2l hkn
          go_wp2
          go_roundw
          case rel => exact ⟨g2, o3, c2, T2, F2, Q2, by rw [IE.out], IL.out, fun x hx hxq z hp => by
            by_cases e : x = q
            · subst e
              obtain ⟨i, hi, hzi⟩ := List.getElem_of_mem ((K3.out.2 z).2 hp)
              have := II.out i (by rw [HKN.out]; exact hi)
              rwa [List.getD_eq_getElem?_getD, List.getElem?_eq_getElem hi, hzi] at this
            · exact IC.out x hx hxq e z hp⟩
          case measure =>
            have h1 := HML.out
            have h2 := HML2.out
            have h3 := HFL.out
            have h4 := HFL2.out
            have h5 := IN.out
            have h6 := IE.out
            simp [slen]
            omega
end
end Go.Proofs.YtmpilokgbblonaaGreat.lin
