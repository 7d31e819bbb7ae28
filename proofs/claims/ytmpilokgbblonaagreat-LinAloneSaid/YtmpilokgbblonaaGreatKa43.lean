/- What is hoped of a stack: what its own search tells. Calls one behind the other: but one pair can be next. -/
import Derived.Test.YtmpilokgbblonaaGreatKa42
import Derived.Test.YtmpilokgbblonaaGreatKa30
import Derived.Test.YtmpilokgbblonaaGreatKa34
import Derived.Test.YtmpilokgbblonaaGreatKa35
import Derived.Test.YtmpilokgbblonaaGreatKa38
import Derived.Test.YtmpilokgbblonaaGreatKa02
namespace Go.Proofs.YtmpilokgbblonaaGreat.lin
open Go.RowKit Go.Maps
open hist (ClV EvV befB past new_block Went At cells9 len9 Blk9 Hst callsE calls_any)
open spec (Rw Row Mean Told items_mean)
section
variable {t : SP} {L : List ClV} {m c0 : Nat}
theorem hopes_stack (hE : EnvS t L m c0) (w : World) (N g X : Nat) (f : Nat → Prop) (M : List Int) (hS : SS (GS L) (PrS t L) t L w N) (h : Mean w X f 4 M) (hg : g < 4294967296) (hM : spec.Good 4 M) (hl : M.length ≤ 24) (hN : N + pbF m c0 (remG L.length g) ≤ 1000000000000) :
    Calls Tryz.prog 53 #[.pointer (some ⟨t.X, 0, none⟩), .pointer (some ⟨X, 0, none⟩), .int .u32 (g : Int)] w (PopQ t L w (N + pbF m c0 (remG L.length g)) (GS L g M)) := by
  have c2 := h.cell2
  have HS := Lib.hid hS
  have HH := Lib.hid h
  have HE := Lib.hid hE
  have HG := Lib.hid hg
  have HN := Lib.hid hN
  have HML := Lib.hid hl
  have HMK : Hid (∀ x ∈ M, keyR x) := Lib.hid (fun x hx => by have := hM.keys x hx; unfold keyR; omega)
  clear hS h hE hg hM hl hN
  go_enter Tryz.func53, Tryz.ntmps53
  go_wp2_with (first
    | (go_at_call 66; have _t := T1.out; go_loud (refine (popped_any HE.out _ _ N g G2 c2' A2 M M.length S2.out rfl HN.out HG.out R2.out HGF.out rfl (by have := HML.out; omega) HMK.out).mono ?_; rintro e w3 ⟨b3, rfl, h1, h2, h3⟩; have R3 := Lib.hid (And.intro h1 (And.intro h2 h3)); clear h1 h2 h3))
    | (go_at_call 38; go_loud (refine (items_mean _ X f 4 M HH.out (by have := HML.out; omega)).mono ?_; rintro e w2 ⟨A2, c2', G2, rfl, hr2, hg2, hb2⟩; have R2 := Lib.hid hr2; have B2 := Lib.hid hb2; have S2 := Lib.hid (HS.out.below (prS_ok HE.out.apart) hb2); have HGF : Hid (A2 ≠ none → ¬ fS t G2) := Lib.hid (fun hA e => by
        have h0 := hg2 hA
        have h1 := HS.out.dlt
        have h2 := prS_lt HS.out.pr
        rcases e with e | e <;> omega); have T1 := Lib.hid (Eq.refl 0); clear hr2 hg2 hb2)))
  go_returns
  exact ⟨b3, rfl, R3.out.1, R3.out.2.1, (Went.ofBelow B2.out).trans R3.out.2.2⟩
theorem step_keys {i : Nat} {M : List Int} (hm : (sysOf 4 L).may i = true) (hM : ∀ x ∈ M, 0 ≤ x) : ∀ x ∈ (sysOf 4 L).step M i, 0 ≤ x := by
  cases ht : takeAt L i
  · obtain ⟨hi, h4, h5⟩ := put_at (L := L) (Or.inr rfl) hm ht
    rw [step_stack M hm ht]
    intro x hx
    rcases List.mem_cons.1 hx with rfl | hx
    · rw [sys_may hi] at hm
      unfold mayC at hm
      rw [Bool.and_eq_true] at hm
      have h6 := (task.right_iff _ _ _).1 hm.1
      rw [key_at hi]
      omega
    · exact hM x hx
  · cases M with
    | nil =>
      rw [(bags (L := L) (Or.inr rfl)).noneS i ht]
      exact fun x hx => by simp at hx
    | cons m M =>
      rw [(bags (L := L) (Or.inr rfl)).takeS i m M ht]
      exact fun x hx => hM x (List.mem_cons_of_mem _ hx)
theorem hoped_stack (hE : EnvS t L m c0) : Hoped (PrS t L) t L 4 (GS L) (pbF m c0) where
  toGood g M _ hM h := by
    obtain ⟨cs, hg⟩ := Classical.not_forall.1 h
    exact ⟨cs, goes_goesK (fun i M hm hM => step_keys hm hM) (fun x hx => (hM.keys x hx).1) (Classical.not_not.1 hg)⟩
  ofGood g M _ _ h hv := by
    obtain ⟨cs, hg⟩ := h
    exact hv cs (goesK_goes hg)
  hopes w N g X f M hS hM hg hgd hl hN := hopes_stack hE w N g X f M hS hM hg hgd hl hN
theorem envG_stack (hE : EnvS t L m c0) : EnvG (PrS t L) t L c0 4 := ⟨prS_ok hE.apart, fun _ h => prS_lt h, hE.apart, hE.masks, hE.spans, hE.sh, hE.frees⟩
end
/-- Of a stack. -/
theorem hopes_of_stack {w1 w' : World} {t : SP} {L : List ClV} (hns : NewS w1 w' t L) (hsh : t.sh = 4) (hV : Spans L) (m c0 : Nat) (hf : ∀ g, g < 4294967296 → cntB (fun p => freeB t L g p) L.length ≤ c0) (hr : ∀ g l, RowOK L g l → l.length ≤ m) (hs : SortsOK m) (hb : gbF c0 (pbF m c0) L.length ≤ 1000000000000) : Hopes w' t L 4 := by
  have hE : EnvS t L m c0 := ⟨hns.apart, hns.masks, hV, hsh, hf, hr, hs⟩
  exact ⟨⟨_, _, c0, _, envG_stack hE, hoped_stack hE, ⟨_, _, pair_made _ _ _ _ hns.pairs⟩, hb⟩⟩
section
variable {L : List ClV}
theorem line_freeG (h : Line 4 L) {g : Nat} : ∀ i j, Free (sysOf 4 L) g i → Free (sysOf 4 L) g j → i = j := by
  have key : ∀ i j, Free (sysOf 4 L) g i → Free (sysOf 4 L) g j → ¬ i < j := fun i j h1 h2 hlt => by
    have hil : i < L.length := h1.lt
    have hjl : j < L.length := h2.lt
    have h3 := h2.ahead i hil (line_must h h1.may) (by rw [sys_bef hil hjl, h.bef i j hil hjl]; exact decide_eq_true hlt)
    rw [h1.new] at h3
    exact absurd h3 (by decide)
  intro i j hi hj
  have h1 := key i j hi hj
  have h2 := key j i hj hi
  omega
theorem line_lev (h : Line 4 L) {g b : Nat} (hl : LG L g b) : ∀ {t b' t' : Nat}, Free (sysOf 4 L) b t → takeAt L t = true → LG L g b' → Free (sysOf 4 L) b' t' → takeAt L t' = true → b = b' := by
  induction hl with
  | refl g =>
    intro t b' t' f1 k1 h2 f2 k2
    cases h2 with
    | refl => rfl
    | pair _ p _ _ _ hp fp =>
      have := line_freeG h t p f1 fp
      rw [this, hp] at k1
      exact absurd k1 (by decide)
  | pair g p b t0 g2 hp fp h1 ft ht hs h2 ih1 ih2 =>
    intro t b' t' f1 k1 h3 f2 k2
    cases h3 with
    | refl =>
      have := line_freeG h t' p f2 fp
      rw [this, hp] at k2
      exact absurd k2 (by decide)
    | pair _ p' b2 t2 _ hp' fp' h1' ft' ht' hs' h2' =>
      obtain rfl := line_freeG h p p' fp fp'
      obtain rfl := ih1 ft ht h1' ft' ht'
      obtain rfl := line_freeG h t0 t2 ft ft'
      exact ih2 f1 k1 h2' f2 k2
theorem line_pair (h : Line 4 L) {g x y : Nat} (hx : PG L g x) (hy : PG L g y) : x = y := by
  obtain ⟨p, b, t, h1, h2, h3, h4, h5, _, rfl⟩ := hx
  obtain ⟨p', b', t', h1', h2', h3', h4', h5', _, rfl⟩ := hy
  obtain rfl := line_freeG h p p' h2 h2'
  obtain rfl := line_lev h h3 h4 h5 h3' h4' h5'
  obtain rfl := line_freeG h t t' h4 h4'
  rfl
theorem line_rows (h : Line 4 L) (g : Nat) (l : List Nat) (hl : RowOK L g l) : l.length ≤ 1 := by
  match l, hl with
  | [], _ => exact Nat.zero_le _
  | [_], _ => exact Nat.le_refl _
  | a :: b :: _, ⟨hd, hm⟩ =>
    have e := line_pair h ((hm a).1 (by simp)) ((hm b).1 (by simp))
    rw [e] at hd
    simp at hd
end
theorem line_budget4 : ∀ n, n ≤ 24 → gbF 1 (pbF 1 1) n ≤ 1000000000000 := by decide
theorem small_budget4 : ∀ n, n ≤ 8 → gbF n (pbF (2 ^ n) n) n ≤ 1000000000000 := by decide
theorem sorts_le {m m' : Nat} (h : SortsOK m') (hm : m ≤ m') : SortsOK m := fun w B n c xs hx hn => h w B n c xs hx (Nat.le_trans hn hm)
end Go.Proofs.YtmpilokgbblonaaGreat.lin
/- Operations one behind the other: what came in, the history beside them, whether it is linear. -/
namespace Go.Proofs.YtmpilokgbblonaaGreat.lin
open Go.RowKit Go.Maps
open hist (ClV EvV befB past new_block Went At Hst callsE Grow ValidE errE pendE pend_snoc valid_snoc err_ok)
open spec (Rw Row OpV OpsAt okR valR)
open task (rightB)

/-- An operation that came in: its kind, key, thread; how long it lasts. -/
structure LapV where
  K : Int
  Y : Int
  T : Int
  A : Int
  B : Int
/-- What it was told. -/
structure ResV where
  C : Int
  O : Bool
  V : Int
def cells5 (_ : Nat) (v : LapV) : List Value := [.int .i64 v.K, .int .i64 v.Y, .int .i64 v.T, .int .u8 v.A, .int .u8 v.B]
def cells3 (_ : Nat) (v : ResV) : List Value := [.int .i64 v.C, .bool v.O, .int .i64 v.V]
theorem at5 {w : World} {a : Option Addr} {xs : List LapV} (h : At cells5 5 w a xs) (i : Nat) (hi : i < xs.length) : ∃ b, a = some b ∧ w.cell? (b.add (i * 5)) = some (.int .i64 xs[i].K) ∧ w.cell? ⟨(b.add (i * 5)).block, (b.add (i * 5)).off + 1, none⟩ = some (.int .i64 xs[i].Y)
    ∧ w.cell? ⟨(b.add (i * 5)).block, (b.add (i * 5)).off + 2, none⟩ = some (.int .i64 xs[i].T) ∧ w.cell? ⟨(b.add (i * 5)).block, (b.add (i * 5)).off + 3, none⟩ = some (.int .u8 xs[i].A) ∧ w.cell? ⟨(b.add (i * 5)).block, (b.add (i * 5)).off + 4, none⟩ = some (.int .u8 xs[i].B) := by
  obtain ⟨b, hb, hc⟩ := h i hi
  exact ⟨b, hb, hc 0 _ rfl, hc 1 _ rfl, hc 2 _ rfl, hc 3 _ rfl, hc 4 _ rfl⟩
theorem at3 {w : World} {a : Option Addr} {rs : List ResV} (h : At cells3 3 w a rs) (i : Nat) (hi : i < rs.length) : ∃ b, a = some b ∧ w.cell? (b.add (i * 3)) = some (.int .i64 rs[i].C) ∧ w.cell? ⟨(b.add (i * 3)).block, (b.add (i * 3)).off + 1, none⟩ = some (.bool rs[i].O)
    ∧ w.cell? ⟨(b.add (i * 3)).block, (b.add (i * 3)).off + 2, none⟩ = some (.int .i64 rs[i].V) := by
  obtain ⟨b, hb, hc⟩ := h i hi
  exact ⟨b, hb, hc 0 _ rfl, hc 1 _ rfl, hc 2 _ rfl⟩
/-- The last three bits of a number. -/
theorem and7 (n : Int) : bits .and .i64 n 7 = n % 8 := by
  have h7 : (BitVec.ofInt 64 7).toNat = 2 ^ 3 - 1 := by decide
  have key : (BitVec.ofInt 64 n &&& BitVec.ofInt 64 7).toNat = (n % ((2 ^ 64 : Nat) : Int)).toNat % 2 ^ 3 := by
    rw [BitVec.toNat_and, BitVec.toNat_ofInt, h7, Nat.and_two_pow_sub_one_eq_mod]
  show IntKind.i64.wrap ((BitVec.ofInt 64 n &&& BitVec.ofInt 64 7).toNat : Nat) = n % 8
  rw [key, IntKind.wrap_i64]
  omega
/-- Each with what it was told. -/
def evR (x : LapV) (r : ResV) : EvV := ⟨x.T % 8, true, x.K, x.Y, r.C, r.O, r.V⟩
def evsR (xs : List LapV) (rs : List ResV) : List EvV := List.zipWith evR xs rs
theorem evs_len {xs : List LapV} {rs : List ResV} (h : xs.length ≤ rs.length) : (evsR xs rs).length = xs.length := by
  unfold evsR
  rw [List.length_zipWith]
  omega
theorem evs_get {xs : List LapV} {rs : List ResV} {i : Nat} (hx : i < xs.length) (hr : i < rs.length) (h : i < (evsR xs rs).length) : (evsR xs rs)[i] = evR xs[i] rs[i] := by
  unfold evsR
  exact List.getElem_zipWith ..
theorem evs_thread {xs : List LapV} {rs : List ResV} : ∀ v ∈ evsR xs rs, 0 ≤ v.T ∧ v.T ≤ 7 := by
  intro v hv
  obtain ⟨i, hi, rfl⟩ := List.getElem_of_mem hv
  have h := hi
  unfold evsR at h
  rw [List.length_zipWith] at h
  rw [evs_get (by omega) (by omega) hi]
  unfold evR
  simp only
  omega
/-- One more, begun and ended. -/
theorem alt_next {l : List EvV} (hl : ∀ v ∈ l, 0 ≤ v.T ∧ v.T ≤ 7) {v : EvV} (hv : 0 ≤ v.T ∧ v.T ≤ 7) : errE (altE l) (beginE v) = 0 ∧ errE (altE l ++ [beginE v]) (endE v) = 0 ∧ altE l ++ [beginE v] ++ [endE v] = altE (l ++ [v]) := by
  obtain ⟨h1, h2, h3⟩ := alt_all l hl
  refine ⟨err_ok hv (by rw [h2]; rfl), err_ok hv ?_, (alt_snoc l v).symm⟩
  rw [pend_snoc]
  exact if_pos rfl
theorem right_next {s : Int} {l : List EvV} {k : Nat} (hk : k < l.length) : rightTo s l (k + 1) ↔ rightTo s l k ∧ (l[k].C = 0 → l[k].O = okR s (didL l k) l[k].K l[k].Y ∧ l[k].V = valR s (didL l k) l[k].K) := by
  constructor
  · exact fun h => ⟨fun i hi hik => h i hi (by omega), h k hk (by omega)⟩
  · rintro ⟨h1, h2⟩ i hi hik
    by_cases e : i = k
    · subst e; exact h2
    · exact h1 i hi (by omega)
/-- A history, and a row of operations, both made behind world W. -/
structure Beside (W w : World) (X : Nat) (f : Nat → Prop) (v : Value) (l : List EvV) (os : List OpV) : Prop where
  hst : Hst w X f l
  row : Grow cells2 2 47 W w v os
  apart : ∀ g, v.ownBlock = some g → ¬ f g
  foot : ∀ b, f b → W.heap.size ≤ b
section
variable {W w w' : World} {X : Nat} {f f' : Nat → Prop} {v v' : Value} {l l' : List EvV} {os : List OpV}
theorem Beside.next (h : Beside W w X f v l os) (hb : Below w.heap.size w w') : Beside W w' X f v l os := ⟨h.hst.below hb, h.row.next hb, h.apart, h.foot⟩
theorem Beside.step (h : Beside W w X f v l os) (hm : Hst w' X f' l') (hw : Went f f' w w') : Beside W w' X f' v l' os :=
  ⟨hm, h.row.went hw h.foot h.apart, fun g hg => hw.apart (h.row.own.lt hg) (h.apart g hg), hw.from h.row.below.size h.foot⟩
theorem Beside.more (h : Beside W w X f v l os) {a : OpV} (ho : hist.Own cells2 2 47 w' v' (os ++ [a])) (hg : w.grownBy w' v.ownBlock) (hat : v'.ownBlock = v.ownBlock ∨ v'.ownBlock = some w.heap.size) : Beside W w' X f v' l (os ++ [a]) := by
  refine ⟨h.hst.grown hg h.apart, h.row.more ho hg hat, fun g hg' hf => ?_, h.foot⟩
  rcases hat with e | e
  · exact h.apart g (e ▸ hg') hf
  · rw [hg'] at e
    have := Option.some.inj e
    have := h.hst.lt g hf
    omega
end
theorem alone_hopes {s : Int} {l : List EvV} (hr : ∀ v ∈ l, rightB s v.K v.Y = true) (ht : ∀ v ∈ l, 0 ≤ v.T ∧ v.T ≤ 7) (hs : 1 ≤ s ∧ s ≤ 4) (hm : l.length ≤ 24) {w1 w' : World} {t : SP} (hns : NewS w1 w' t (altC l)) (hsh : t.sh = s) : Hopes w' t (altC l) s := by
  have hn : (altC l).length = l.length := altC_len l
  have hl : Line s (altC l) := alt_line hr
  have hV : Spans (altC l) := by
    obtain ⟨h1, _, h3⟩ := alt_all l ht
    rw [← h3]
    exact spans_calls h1
  have hf : ∀ g, g < 4294967296 → cntB (fun p => freeB t (altC l) g p) (altC l).length ≤ 1 := fun g hg => cnt_one (line_free hl hns.masks hsh hg) _
  have ht : ∀ g, g < 4294967296 → cntB (fun p => takeB t (altC l) g p) (altC l).length ≤ 1 := fun g hg => cnt_one (line_take hl hns.masks hsh hg) _
  obtain ⟨b1, b2⟩ := line_budget _ (show (altC l).length ≤ 24 by omega)
  by_cases h12 : s = 1 ∨ s = 2
  · exact hopes_of_set hns hsh hV h12 1 hf b2
  · by_cases h3 : s = 3
    · subst h3
      exact hopes_of_queue hns hsh hV 1 hf ht b1
    · obtain rfl : s = 4 := by omega
      exact hopes_of_stack hns hsh hV 1 1 hf (line_rows hl) (sorts_le sort_small (by omega)) (line_budget4 _ (by omega))
/-- Such a history is linear just if each that was told OK was told what the meaning tells. -/
theorem alone_linear (w : World) (X : Nat) (f : Nat → Prop) (s : Int) (l : List EvV) (h : Hst w X f (altE l)) (hr : ∀ v ∈ l, rightB s v.K v.Y = true) (ht : ∀ v ∈ l, 0 ≤ v.T ∧ v.T ≤ 7) (hs : 1 ≤ s ∧ s ≤ 4) (hm : l.length ≤ 24) (b : Bool) (hb : b = true ↔ rightTo s l l.length) :
    Calls Tryz.prog 11 #[.int .i64 s, .pointer (some ⟨X, 0, none⟩)] w fun e w' => e = .returned (.bool b) ∧ Below w.heap.size w w' := by
  obtain ⟨h1, _, hc⟩ := alt_all l ht
  have ho := order_any w X f _ h (by rw [alt_len]; omega) (by rw [hc, altC_len]; exact hm) s hs (by rw [hc]; rw [← hc]; exact spans_calls h1) (fun _ _ w1 w' t hns hsh => by
    rw [hc] at hns ⊢
    exact alone_hopes hr ht hs hm hns hsh)
  rw [hc] at ho
  refine (linear_any w X s _ ho).mono ?_
  rintro e w' ⟨res, rfl, hf, hbl⟩
  refine ⟨?_, hbl⟩
  have key : res.isSome = true ↔ b = true := by
    rw [hb, ← alt_some hr]
    cases res with
    | none => exact ⟨fun h => absurd h (by decide), fun ⟨r, h⟩ => absurd (List.nil_prefix ..) (hf r h)⟩
    | some r => exact ⟨fun _ => ⟨r, hf.legal⟩, fun _ => rfl⟩
  rw [Bool.eq_iff_iff.2 key]
end Go.Proofs.YtmpilokgbblonaaGreat.lin
/- Operations with their threads, and results, as they came in. -/
namespace Go.Proofs.YtmpilokgbblonaaGreat.law
open Go.ChangeShapes Go.WideShapes Go.ChangeAt Go.RowKit Go.Deep Go.Joins

section
variable {H : Type} {enc : TypeId × Value → H} {w : World} {base : Nat} {spare : Nat → Bool} {held : Bool}
/-- An operation's five cells, read. -/
theorem lap_cells {fuel : Nat} {cs : List Value} {x : DataW H × List MemPlace} (hl : cs.length = 5) (h : DataW.trod enc Tryz.prog w base spare held fuel 49 cs = some x) : ∃ v : lin.LapV, cs = lin.cells5 0 v := by
  obtain ⟨c0, c1, c2, c3, c4, rfl⟩ : ∃ c0 c1 c2 c3 c4, cs = [c0, c1, c2, c3, c4] := by
    match cs, hl with
    | [a, b, c, d, e], _ => exact ⟨a, b, c, d, e, rfl⟩
  obtain ⟨y0, y1, y2, y3, n, _, _, r0, r1, r2, r3⟩ := trod_struct4 Tryz.underlying49 h
  rw [show Tryz.prog.cellsOf 47 = 2 by kernel_rfl] at r0
  rw [show Tryz.prog.cellsOf 3 = 1 by kernel_rfl] at r1
  rw [show Tryz.prog.cellsOf 5 = 1 by kernel_rfl] at r2 r3
  simp only [List.drop_zero, List.drop_succ_cons, List.take_succ_cons, List.take_zero] at r0 r1 r2 r3
  obtain ⟨z0, z1, m, _, _, s0, s1⟩ := trod_struct2 Tryz.underlying47 r0
  rw [show Tryz.prog.cellsOf 3 = 1 by kernel_rfl] at s0 s1
  simp only [List.drop_zero, List.drop_succ_cons, List.take_succ_cons, List.take_zero] at s0 s1
  obtain ⟨K, rfl, _⟩ := cell_int Tryz.underlying3 s0
  obtain ⟨Y, rfl, _⟩ := cell_int Tryz.underlying3 s1
  obtain ⟨T, rfl, _⟩ := cell_int Tryz.underlying3 r1
  obtain ⟨A, rfl, _⟩ := cell_int Tryz.underlying5 r2
  obtain ⟨B, rfl, _⟩ := cell_int Tryz.underlying5 r3
  exact ⟨⟨K, Y, T, A, B⟩, rfl⟩
/-- A result's three cells, read. -/
theorem res_cells {fuel : Nat} {cs : List Value} {x : DataW H × List MemPlace} (hl : cs.length = 3) (h : DataW.trod enc Tryz.prog w base spare held fuel 55 cs = some x) : ∃ v : lin.ResV, cs = lin.cells3 0 v := by
  obtain ⟨c0, c1, c2, rfl⟩ : ∃ c0 c1 c2, cs = [c0, c1, c2] := by
    match cs, hl with
    | [a, b, c], _ => exact ⟨a, b, c, rfl⟩
  obtain ⟨u0, u1, u2, m', _, _, t0, t1, t2⟩ := trod_struct3 Tryz.underlying55 h
  rw [show Tryz.prog.cellsOf 3 = 1 by kernel_rfl] at t2
  rw [show Tryz.prog.cellsOf 30 = 1 by kernel_rfl] at t0
  rw [show Tryz.prog.cellsOf 4 = 1 by kernel_rfl] at t1
  simp only [List.drop_zero, List.drop_succ_cons, List.take_succ_cons, List.take_zero] at t0 t1 t2
  obtain ⟨C, rfl, _⟩ := cell_int Tryz.underlying30 t0
  obtain ⟨O, rfl⟩ := cell_bool Tryz.underlying4 t1
  obtain ⟨V, rfl, _⟩ := cell_int Tryz.underlying3 t2
  exact ⟨⟨C, O, V⟩, rfl⟩
end
set_option maxRecDepth 100000 in
theorem open_laps {H : Type} {enc : TypeId × Value → H} {W : World} {b0 base : Nat} {spare : Nat → Bool} {held : Bool} {r : Reach} {v : Value} {d : DataW H} {p : List MemPlace}
    (hv : Value.okWide Tryz.prog W r b0 45 v) (h : DataW.Trod enc Tryz.prog W base spare held 45 v d p) :
    ∃ (a : Option Addr) (l : List lin.LapV) (M cap : Nat), v = .slice a M cap ∧ l.length = M ∧ hist.At lin.cells5 5 W a l := by
  obtain ⟨a1, len, cap, rfl⟩ := okWide_slice Tryz.underlying45 hv
  obtain ⟨fuel, hf⟩ := h
  rcases open_slice Tryz.underlying45 hf with ⟨hcs, _⟩ | ⟨b, len', cap', m, n, D, Pl, hcs, _, hle, _, hm, _, element⟩
  · simp [Value.cells] at hcs
    obtain ⟨rfl, rfl, rfl⟩ := hcs
    exact ⟨none, [], 0, 0, rfl, rfl, fun i hi => absurd hi (by simp)⟩
  · simp [Value.cells] at hcs
    obtain ⟨rfl, rfl, rfl⟩ := hcs
    have hlm : len ≤ m := by rw [hm]; split <;> omega
    have h5 : Tryz.prog.cellsOf 49 = 5 := by kernel_rfl
    have each : ∀ i, i < len → ∃ o : lin.LapV, ∀ j u, (lin.cells5 0 o)[j]? = some u → W.cell? (hist.spell b (i * 5) j) = some u := by
      intro i hi
      obtain ⟨cs, hc, hr⟩ := element i (by omega)
      rw [h5] at hc
      obtain ⟨_, hl, cell⟩ := World.cells?_some hc
      obtain ⟨o, rfl⟩ := lap_cells hl hr
      refine ⟨o, fun j u hu => ?_⟩
      have hj := (List.getElem?_eq_some_iff.1 hu).1
      have := cell j hj
      rw [Go.Deep.add_add, hist.add_spelled] at this
      rw [this]
      exact hu
    have : Inhabited lin.LapV := ⟨⟨0, 0, 0, 0, 0⟩⟩
    obtain ⟨f, hf⟩ := choose_lt each
    refine ⟨some b, (List.range len).map f, len, cap, rfl, by simp, ?_⟩
    intro i hi
    have hi2 : i < len := by simpa using hi
    refine ⟨b, rfl, ?_⟩
    simp only [List.getElem_map, List.getElem_range]
    exact hf i hi2
set_option maxRecDepth 100000 in
theorem open_told {H : Type} {enc : TypeId × Value → H} {W : World} {b0 base : Nat} {spare : Nat → Bool} {held : Bool} {r : Reach} {v : Value} {d : DataW H} {p : List MemPlace}
    (hv : Value.okWide Tryz.prog W r b0 58 v) (h : DataW.Trod enc Tryz.prog W base spare held 58 v d p) :
    ∃ (a : Option Addr) (l : List lin.ResV) (M cap : Nat), v = .slice a M cap ∧ l.length = M ∧ hist.At lin.cells3 3 W a l := by
  obtain ⟨a1, len, cap, rfl⟩ := okWide_slice Tryz.underlying58 hv
  obtain ⟨fuel, hf⟩ := h
  rcases open_slice Tryz.underlying58 hf with ⟨hcs, _⟩ | ⟨b, len', cap', m, n, D, Pl, hcs, _, hle, _, hm, _, element⟩
  · simp [Value.cells] at hcs
    obtain ⟨rfl, rfl, rfl⟩ := hcs
    exact ⟨none, [], 0, 0, rfl, rfl, fun i hi => absurd hi (by simp)⟩
  · simp [Value.cells] at hcs
    obtain ⟨rfl, rfl, rfl⟩ := hcs
    have hlm : len ≤ m := by rw [hm]; split <;> omega
    have h3 : Tryz.prog.cellsOf 55 = 3 := by kernel_rfl
    have each : ∀ i, i < len → ∃ o : lin.ResV, ∀ j u, (lin.cells3 0 o)[j]? = some u → W.cell? (hist.spell b (i * 3) j) = some u := by
      intro i hi
      obtain ⟨cs, hc, hr⟩ := element i (by omega)
      rw [h3] at hc
      obtain ⟨_, hl, cell⟩ := World.cells?_some hc
      obtain ⟨o, rfl⟩ := res_cells hl hr
      refine ⟨o, fun j u hu => ?_⟩
      have hj := (List.getElem?_eq_some_iff.1 hu).1
      have := cell j hj
      rw [Go.Deep.add_add, hist.add_spelled] at this
      rw [this]
      exact hu
    have : Inhabited lin.ResV := ⟨⟨0, false, 0⟩⟩
    obtain ⟨f, hf⟩ := choose_lt each
    refine ⟨some b, (List.range len).map f, len, cap, rfl, by simp, ?_⟩
    intro i hi
    have hi2 : i < len := by simpa using hi
    refine ⟨b, rfl, ?_⟩
    simp only [List.getElem_map, List.getElem_range]
    exact hf i hi2
end Go.Proofs.YtmpilokgbblonaaGreat.law
