/- A search is made: each call that has to stand is noted; do all stand that have to stand ahead of those that stand? -/
import Derived.Test.YtmpilokgbblonaaGreatKa16
import Derived.Test.YtmpilokgbblonaaGreatKa07
import Derived.Deep.RegionHeld3
import Derived.Deep.DeepCutAuto
namespace Go.Proofs.YtmpilokgbblonaaGreat.lin
open Go.RowKit Go.Maps
open hist (ClV befB past new_block Went At cells9 len9 Blk9 before_any)
open spec (Rw Row)

/-- Of the first k calls: with each that stands all stand that have to stand ahead of it. -/
def closedTo (t : SP) (L : List ClV) (g k : Nat) : Bool := (List.range k).all fun j => !(mayAt t.sh L j && g.testBit j) || coversB g (t.am.getD j 0)
theorem closed_iff {t : SP} {L : List ClV} {g k : Nat} : closedTo t L g k = true ↔ ∀ j, j < k → (!(mayAt t.sh L j && g.testBit j) || coversB g (t.am.getD j 0)) = true := by
  unfold closedTo
  rw [List.all_eq_true]
  exact ⟨fun h j hj => h j (List.mem_range.2 hj), fun h j hj => h j (List.mem_range.1 hj)⟩
theorem closed_first (t : SP) (L : List ClV) (g : Nat) : closedTo t L g (bd t.sh L 0) = true := closed_iff.2 (below_first fun j hj => by rw [hj]; rfl)
theorem closed_next {t : SP} {L : List ClV} {g p k : Nat} (hp : p < (keptL t.sh L).length) (hk : bd t.sh L p = k) (h : closedTo t L g (bd t.sh L p) = true) (hx : (!g.testBit k || coversB g (t.am.getD k 0)) = true) : closedTo t L g (bd t.sh L (p + 1)) = true :=
  closed_iff.2 (below_next (fun j hj => by rw [hj]; rfl) hp (closed_iff.1 h) (by
    rw [hk]
    cases hb : g.testBit k
    · rw [Bool.and_false]; rfl
    · rw [hb, Bool.not_true, Bool.false_or] at hx
      rw [hx, Bool.or_true]))
theorem closed_no {t : SP} {L : List ClV} {g k n : Nat} (hk : k < n) (hm : mayAt t.sh L k = true) (h : (!g.testBit k || coversB g (t.am.getD k 0)) = false) : closedTo t L g n = false := by
  unfold closedTo
  rw [List.all_eq_false]
  exact ⟨k, List.mem_range.2 hk, by rw [hm, Bool.true_and, h]; decide⟩

set_option maxRecDepth 100000 in
set_option maxHeartbeats 2000000 in
theorem closed_any (w : World) (t : SP) (L : List ClV) (h : Srch w t L) (hs : Small t L) (g : Nat) (hg : g < 4294967296) :
    Calls Tryz.prog 90 #[.pointer (some ⟨t.X, 0, none⟩), .int .u32 (g : Int)] w fun e w' => e = .returned (.bool (closedTo t L g L.length)) ∧ Below w.heap.size w w' := by
  obtain ⟨s0, s1, s2, s3, s4, s5⟩ := h.cs
  have HH := Lib.hid h
  have HS := Lib.hid hs
  have hn24 : L.length ≤ 24 := hs.n24
  have HG := Lib.hid hg
  have hkl0 : (keptL t.sh L).length ≤ L.length := kept_len _
  obtain ⟨nL, hnl⟩ : ∃ nL, nL = L.length := ⟨_, rfl⟩
  have HNN := Lib.hid hnl
  obtain ⟨n, hn⟩ : ∃ n, n = (keptL t.sh L).length := ⟨_, rfl⟩
  have HKN := Lib.hid hn
  rw [← hn] at s0
  rw [← hnl] at s3
  have hl0 : (n : Int) ≤ 24 := by omega
  have hl1 : (nL : Int) ≤ 24 := by omega
  clear h hs hg hn hnl hkl0
  go_enter Tryz.func90, Tryz.ntmps90
  go_wp2
  go_loopw [12] (fun i wr => ∃ p : Nat, p ≤ n ∧ i = .int .i64 (p : Int) ∧ Below w.heap.size w wr ∧ closedTo t L g (bd t.sh L p) = true) (fun i _ => n - (intOf i).toNat)
  case atStart => exact ⟨0, Nat.zero_le _, rfl, Below.refl _ _, closed_first t L g⟩
  case round =>
    obtain ⟨p, hp, rfl, hb, hcl⟩ := hrel
    have HC := Lib.hid hcl
    have HB := Lib.hid hb
    clear hcl s0 s1 s2 s3 s4 s5
    by_cases hlt : p < n
    · have hpi : (p : Int) < (n : Int) := by omega
      have hpl : p < (keptL t.sh L).length := by rw [← HKN.out]; exact hlt
      obtain ⟨k, dk, he, hbd, hkl, hLk, hmay, -⟩ := kept_at hpl
      have hki : (k : Int) < (nL : Int) := by have := HNN.out; omega
      have SR := Lib.hid (HH.out.below hb)
      obtain ⟨b, hb9, p0, p1, p2, p3, p4, p5, p6, p7, p8⟩ := kept_ci SR.out.calls hpl he
      have HKL := Lib.hid hkl
      have h32 : Hid (k < 32) := Lib.hid (by omega)
      have HPL := Lib.hid hpl
      have HBD := Lib.hid hbd
      have HMK : Hid (mayAt t.sh L k = true) := Lib.hid (by rw [may_at hkl]; rw [← hmay]; congr 1; exact (List.getElem?_eq_some_iff.1 hLk).2)
      obtain ⟨a, ha⟩ : ∃ a, t.am.getD k 0 = a := ⟨_, rfl⟩
      have HAA := Lib.hid ha
      have HAL : Hid (a < 4294967296) := Lib.hid (ha ▸ HS.out.am k)
      have HA9 := Lib.hid hb9
      have KB := Lib.hid (⟨new_block wr _ _⟩ : Blk9 (wr.alloc (.cells #[.int .i64 dk.B, .int .i64 dk.D, .int .i64 (k : Int), .int .i64 dk.T, .int .i64 dk.K, .int .i64 dk.Y, .int .i64 dk.C, .bool dk.O, .int .i64 dk.V] 85)) wr.heap.size k dk)
      have bB : Below wr.heap.size wr (wr.alloc (.cells #[.int .i64 dk.B, .int .i64 dk.D, .int .i64 (k : Int), .int .i64 dk.T, .int .i64 dk.K, .int .i64 dk.Y, .int .i64 dk.C, .bool dk.O, .int .i64 dk.V] 85)) := (Below.refl _ _).alloc (Nat.le_refl _) _
      have C0 : Sq wr (wr.alloc (.cells #[.int .i64 dk.B, .int .i64 dk.D, .int .i64 (k : Int), .int .i64 dk.T, .int .i64 dk.K, .int .i64 dk.Y, .int .i64 dk.C, .bool dk.O, .int .i64 dk.V] 85)) t L k dk := ⟨bB, KB.out, SR.out.below bB⟩
      rw [hb9]
      clear hb hpl he hbd hkl hLk hmay bB ha hb9
      cases hbit : g.testBit k
      · have HBT := Lib.hid hbit
        have PH : ∀ wx : World, Calls Tryz.prog 67 #[.int .u32 (g : Int), .int .i64 (k : Int)] wx fun e w' => e = .returned (.bool false) ∧ Below wx.heap.size wx w' := fun wx => has_still wx g k HG.out h32.out false HBT.out
        have HSU := Lib.hid (closed_next (g := g) HPL.out HBD.out HC.out (by rw [HBT.out]; rfl))
        clear hbit
        go_wp2
        refine quiet.region (C := fun wx => Sq wr wx t L k dk) (C0.next ((Below.refl _ _).drew)) (by kernel_rfl) (by kernel_rfl) ?_
        repeat (first
          | go_big_quiet_skip
          | (go_big_quiet_want; go_big_quiet_op; go_big_quiet_on)
          | (refine BigFrame.wpQuiet_want (by rfl) (fun K hK => ?_)
             apply Exists.intro
             refine ⟨fun wx hwx => ?_, hK _ ?_⟩
             · have hx := cells12 hwx.blk hwx.srch HKL.out HNN.out HAA.out
               go_split_ands
               go_simp
               first | rfl | (with_reducible refine quiet.call (PH wx) ?_; exact fun _ hb => Sq.next hwx hb)
             clear hK K
             simp only [Act.put, List.setIfInBounds_toArray, List.set_cons_zero, List.set_cons_succ]))
        refine wpQuiet_nil ?_
        intro w6 hq6
        have B6 := Lib.hid (past HB.out hq6.below)
        clear hq6
        go_wp2
        go_roundw
        case rel => exact ⟨p + 1, by omega, by go_num, B6.out, HSU.out⟩
        case measure => simp [intOf]; omega
      · have HBT := Lib.hid hbit
        have PH : ∀ wx : World, Calls Tryz.prog 67 #[.int .u32 (g : Int), .int .i64 (k : Int)] wx fun e w' => e = .returned (.bool true) ∧ Below wx.heap.size wx w' := fun wx => has_still wx g k HG.out h32.out true HBT.out
        cases hcv : coversB g a
        · have HCV := Lib.hid hcv
          have PC : ∀ wx : World, Calls Tryz.prog 51 #[.int .u32 (g : Int), .int .u32 (a : Int)] wx fun e w' => e = .returned (.bool false) ∧ Below wx.heap.size wx w' := fun wx => covers_still wx g _ HG.out HAL.out false HCV.out
          have HNO2 := Lib.hid (closed_no (n := nL) (g := g) (by rw [HNN.out]; exact HKL.out) HMK.out (by rw [HBT.out, HAA.out, HCV.out]; rfl))
          clear hbit hcv
          go_wp2
          refine quiet.region (C := fun wx => Sq wr wx t L k dk) (C0.next ((Below.refl _ _).drew)) (by kernel_rfl) (by kernel_rfl) ?_
          repeat (first
            | go_big_quiet_skip
            | (go_big_quiet_want; go_big_quiet_op; go_big_quiet_on)
            | (refine BigFrame.wpQuiet_want (by rfl) (fun K hK => ?_)
               apply Exists.intro
               refine ⟨fun wx hwx => ?_, hK _ ?_⟩
               · have hx := cells12 hwx.blk hwx.srch HKL.out HNN.out HAA.out
                 go_split_ands
                 go_simp
                 first | rfl | (with_reducible refine quiet.call (PH wx) ?_; exact fun _ hb => Sq.next hwx hb) | (with_reducible refine quiet.call (PC wx) ?_; exact fun _ hb => Sq.next hwx hb)
               clear hK K
               simp only [Act.put, List.setIfInBounds_toArray, List.set_cons_zero, List.set_cons_succ]))
          refine wpQuiet_nil ?_
          intro w6 hq6
          have B6 := Lib.hid (past HB.out hq6.below)
          clear hq6
          go_wp2
          go_returns
          exact ⟨by rw [← HNN.out, HNO2.out]; rfl, B6.out⟩
        · have HCV := Lib.hid hcv
          have PC : ∀ wx : World, Calls Tryz.prog 51 #[.int .u32 (g : Int), .int .u32 (a : Int)] wx fun e w' => e = .returned (.bool true) ∧ Below wx.heap.size wx w' := fun wx => covers_still wx g _ HG.out HAL.out true HCV.out
          have HSU := Lib.hid (closed_next (g := g) HPL.out HBD.out HC.out (by rw [HAA.out, HCV.out, Bool.or_true]))
          clear hbit hcv
          go_wp2
          refine quiet.region (C := fun wx => Sq wr wx t L k dk) (C0.next ((Below.refl _ _).drew)) (by kernel_rfl) (by kernel_rfl) ?_
          repeat (first
            | go_big_quiet_skip
            | (go_big_quiet_want; go_big_quiet_op; go_big_quiet_on)
            | (refine BigFrame.wpQuiet_want (by rfl) (fun K hK => ?_)
               apply Exists.intro
               refine ⟨fun wx hwx => ?_, hK _ ?_⟩
               · have hx := cells12 hwx.blk hwx.srch HKL.out HNN.out HAA.out
                 go_split_ands
                 go_simp
                 first | rfl | (with_reducible refine quiet.call (PH wx) ?_; exact fun _ hb => Sq.next hwx hb) | (with_reducible refine quiet.call (PC wx) ?_; exact fun _ hb => Sq.next hwx hb)
               clear hK K
               simp only [Act.put, List.setIfInBounds_toArray, List.set_cons_zero, List.set_cons_succ]))
          refine wpQuiet_nil ?_
          intro w6 hq6
          have B6 := Lib.hid (past HB.out hq6.below)
          clear hq6
          go_wp2
          go_roundw
          case rel => exact ⟨p + 1, by omega, by go_num, B6.out, HSU.out⟩
          case measure => simp [intOf]; omega
    · have hpn : p = n := by omega
      have HCN : Hid (closedTo t L g L.length = true) := Lib.hid (by have := HC.out; rw [hpn, HKN.out, bd_all] at this; exact this)
      clear hpn
      go_wp2
      go_returns
      exact ⟨by rw [HCN.out]; rfl, HB.out⟩

/-! A call is noted. -/
/-- Is call i before call j? -/
def befL (L : List ClV) (i j : Nat) : Bool := match L[i]?, L[j]? with | some c, some d => befB c.D d.B | _, _ => false
def befM (s : Int) (L : List ClV) (i j : Nat) : Bool := mayAt s L j && befL L i j
def amTo (s : Int) (L : List ClV) (i k : Nat) (am : List Nat) : List Nat := am.mapIdx fun j a => if j < k ∧ befM s L i j = true then withG a i else a
theorem amTo_zero (s : Int) (L : List ClV) (i : Nat) (am : List Nat) : amTo s L i 0 am = am := by
  unfold amTo
  apply List.ext_getElem?
  intro j
  rw [List.getElem?_mapIdx]
  cases am[j]? <;> simp
theorem amTo_len (s : Int) (L : List ClV) (i k : Nat) (am : List Nat) : (amTo s L i k am).length = am.length := by simp [amTo]
theorem amTo_get (s : Int) (L : List ClV) (i k : Nat) (am : List Nat) {j : Nat} (hj : j < am.length) : (amTo s L i k am).getD j 0 = if j < k ∧ befM s L i j = true then withG (am.getD j 0) i else am.getD j 0 := by
  rw [List.getD_eq_getElem?_getD, List.getD_eq_getElem?_getD]
  unfold amTo
  rw [List.getElem?_mapIdx, List.getElem?_eq_getElem hj]
  rfl
theorem amTo_no {s : Int} {L : List ClV} {i k : Nat} {am : List Nat} (h : befM s L i k = false) : amTo s L i (k + 1) am = amTo s L i k am := by
  unfold amTo
  apply List.ext_getElem?
  intro j
  rw [List.getElem?_mapIdx, List.getElem?_mapIdx]
  cases am[j]? with
  | none => rfl
  | some a =>
    simp only [Option.map_some]
    by_cases hj : j = k
    · subst hj
      rw [h]
      simp
    · have e1 : (j < k + 1 ∧ befM s L i j = true) ↔ (j < k ∧ befM s L i j = true) := by constructor <;> (rintro ⟨h1, h2⟩; exact ⟨by omega, h2⟩)
      simp only [e1]
theorem amTo_yes {s : Int} {L : List ClV} {i k : Nat} {am : List Nat} (hk : k < am.length) (h : befM s L i k = true) : amTo s L i (k + 1) am = (amTo s L i k am).set k (withG (am.getD k 0) i) := by
  unfold amTo
  apply List.ext_getElem?
  intro j
  rw [List.getElem?_mapIdx, List.getElem?_set, List.getElem?_mapIdx, List.length_mapIdx]
  by_cases hj : k = j
  · subst hj
    rw [if_pos rfl, if_pos hk, List.getElem?_eq_getElem hk, List.getD_eq_getElem?_getD, List.getElem?_eq_getElem hk]
    simp [h]
  · rw [if_neg hj]
    cases am[j]? with
    | none => rfl
    | some a =>
      simp only [Option.map_some]
      have e1 : (j < k + 1 ∧ befM s L i j = true) ↔ (j < k ∧ befM s L i j = true) := by constructor <;> (rintro ⟨h1, h2⟩; exact ⟨by omega, h2⟩)
      simp only [e1]
theorem amTo_same {s : Int} {L : List ClV} {i k k' : Nat} {am : List Nat} (h : ∀ j, k ≤ j → j < k' → befM s L i j = false) (hk : k ≤ k') : amTo s L i k' am = amTo s L i k am := by
  induction k' with
  | zero => rw [Nat.le_zero.1 hk]
  | succ n ih =>
    by_cases e : k = n + 1
    · rw [e]
    · rw [amTo_no (h n (by omega) (by omega)), ih (fun j h1 h2 => h j h1 (by omega)) (by omega)]
theorem befM_not {s : Int} {L : List ClV} {i j : Nat} (h : mayAt s L j = false) : befM s L i j = false := by unfold befM; rw [h]; rfl
theorem befM_yes {s : Int} {L : List ClV} {i j : Nat} (h : mayAt s L j = true) : befM s L i j = befL L i j := by unfold befM; rw [h]; rfl
theorem amTo_first (s : Int) (L : List ClV) (i : Nat) (am : List Nat) : amTo s L i (bd s L 0) am = am := by
  rw [amTo_same (k := 0) (fun j _ hj => befM_not (bd_first hj)) (Nat.zero_le _), amTo_zero]
theorem amTo_next {s : Int} {L : List ClV} {i p k : Nat} {am : List Nat} (hp : p < (keptL s L).length) (hk : bd s L p = k) (hk1 : k + 1 ≤ bd s L (p + 1)) : amTo s L i (bd s L (p + 1)) am = amTo s L i (k + 1) am :=
  amTo_same (fun j h1 h2 => befM_not (bd_gap hp (by omega) h2)) hk1
theorem lineU_set (am : List Nat) (k v : Nat) : lineU (am.set k v) = (lineU am).set k (.int .u32 (v : Int)) := by
  unfold lineU
  rw [List.map_set]

section
variable {w : World} {t : SP} {L : List ClV}
theorem Srch.put_mu (h : Srch w t L) (hxa : t.X ≠ t.ga) (hca : ∀ b, t.A9 = some b → b.block ≠ t.X ∧ b.block ≠ t.ga) (v : Nat) : Srch (w.setCell ⟨t.X, 1, none⟩ (.int .u32 (v : Int))) { t with mu := v } L :=
  ⟨h.box.put 1 _, h.row.other hxa 1 _, h.calls.moved fun b hb _ => Below.heap_setCell _ _ _ _ (hca b hb).1, h.len⟩
theorem Srch.put_tk (h : Srch w t L) (hxa : t.X ≠ t.ga) (hca : ∀ b, t.A9 = some b → b.block ≠ t.X ∧ b.block ≠ t.ga) (v : Nat) : Srch (w.setCell ⟨t.X, 2, none⟩ (.int .u32 (v : Int))) { t with tk := v } L :=
  ⟨h.box.put 2 _, h.row.other hxa 2 _, h.calls.moved fun b hb _ => Below.heap_setCell _ _ _ _ (hca b hb).1, h.len⟩
theorem Srch.put_am (h : Srch w t L) (hxa : t.X ≠ t.ga) (hca : ∀ b, t.A9 = some b → b.block ≠ t.X ∧ b.block ≠ t.ga) (k v : Nat) : Srch (w.setCell ⟨t.ga, k, none⟩ (.int .u32 (v : Int))) { t with am := t.am.set k v } L :=
  ⟨h.box.other (fun e => hxa e.symm) k _, by show Line1 _ _ _ (lineU (t.am.set k v)); rw [lineU_set]; exact h.row.put k _, h.calls.moved fun b hb _ => Below.heap_setCell _ _ _ _ (hca b hb).2, by simpa using h.len⟩
end
/-- Behind a note of call i. -/
structure Noted (w w' : World) (t : SP) (L : List ClV) (i tk : Nat) : Prop where
  srch : Srch w' { t with mu := withG t.mu i, tk := tk, am := amTo t.sh L i L.length t.am } L
  went : Went (fun b => b = t.X ∨ b = t.ga) (fun b => b = t.X ∨ b = t.ga) w w'
theorem befL_eq {L : List ClV} {i j : Nat} (hi : i < L.length) (hj : j < L.length) : befL L i j = befB L[i].D L[j].B := by
  unfold befL
  rw [List.getElem?_eq_getElem hi, List.getElem?_eq_getElem hj]
theorem set_size (w : World) (a : Addr) (v : Value) : (w.setCell a v).heap.size = w.heap.size := by simp


set_option maxRecDepth 100000 in
set_option maxHeartbeats 4000000 in
theorem note_some (w : World) (X D R ga c9 : Nat) (b : Addr) (mu tk : Nat) (am : List Nat) (sh : Int) (L : List ClV) (h : Srch w ⟨X, D, R, ga, c9, some b, mu, tk, am, sh⟩ L) (hxa : X ≠ ga) (hca : ∀ b', some b = some b' → b'.block ≠ X ∧ b'.block ≠ ga) (hs : Small ⟨X, D, R, ga, c9, some b, mu, tk, am, sh⟩ L) (i : Nat) (c : ClV) (hc : L[i]? = some c) :
    Calls Tryz.prog 50 #[.pointer (some ⟨X, 0, none⟩), clA i c] w fun e w' => e = .returned (.tuple #[]) ∧ Noted w w' ⟨X, D, R, ga, c9, some b, mu, tk, am, sh⟩ L i (if c.K = 5 then withG tk i else tk) := by
  unfold clA
  have H := Lib.hid h
  have HS := Lib.hid hs
  have hi : i < L.length := (List.getElem?_eq_some_iff.1 hc).1
  have HCC := Lib.hid hc
  have HXA := Lib.hid hxa
  have HCA := Lib.hid hca
  have h32 : Hid (i < 32) := Lib.hid (by have := hs.n24; omega)
  have hn24 : L.length ≤ 24 := hs.n24
  have hx := h.box.lt
  have hgx := h.row.lt
  simp only at hx hgx
  obtain ⟨tk2, htk⟩ : ∃ tk2, tk2 = if c.K = 5 then withG tk i else tk := ⟨_, rfl⟩
  rw [← htk]
  have hkl0 : (keptL sh L).length ≤ L.length := kept_len _
  obtain ⟨nL, hnl⟩ : ∃ nL, nL = L.length := ⟨_, rfl⟩
  have HNN := Lib.hid hnl
  obtain ⟨n, hn⟩ : ∃ n, n = (keptL sh L).length := ⟨_, rfl⟩
  have HKN := Lib.hid hn
  have hl0 : (n : Int) ≤ 24 := by omega
  have hl1 : (nL : Int) ≤ 24 := by omega
  have NB : Hid (Blk9 (w.alloc (.cells #[.int .i64 c.B, .int .i64 c.D, .int .i64 (i : Int), .int .i64 c.T, .int .i64 c.K, .int .i64 c.Y, .int .i64 c.C, .bool c.O, .int .i64 c.V] 85)) w.heap.size i c) := Lib.hid ⟨new_block _ _ _⟩
  have hbw : Below w.heap.size w (w.alloc (.cells #[.int .i64 c.B, .int .i64 c.D, .int .i64 (i : Int), .int .i64 c.T, .int .i64 c.K, .int .i64 c.Y, .int .i64 c.C, .bool c.O, .int .i64 c.V] 85)) := (Below.refl _ _).alloc (Nat.le_refl _) _
  have SB := Lib.hid (h.below hbw)
  have WB : Hid (Went (fun b => b = X ∨ b = ga) (fun b => b = X ∨ b = ga) w (w.alloc (.cells #[.int .i64 c.B, .int .i64 c.D, .int .i64 (i : Int), .int .i64 c.T, .int .i64 c.K, .int .i64 c.Y, .int .i64 c.C, .bool c.O, .int .i64 c.V] 85))) := Lib.hid (Went.ofBelow hbw)
  have HXB : Hid (X ≠ w.heap.size ∧ ga ≠ w.heap.size) := Lib.hid ⟨by omega, by omega⟩
  clear h hs hi hc hxa hca hbw hx hgx hnl hn hkl0
  go_enter Tryz.func50, Tryz.ntmps50
  go_upto_region 1 with (fail)
  generalize w.alloc (.cells #[.int .i64 c.B, .int .i64 c.D, .int .i64 (i : Int), .int .i64 c.T, .int .i64 c.K, .int .i64 c.Y, .int .i64 c.C, .bool c.O, .int .i64 c.V] 85) = w1 at *
  generalize w.heap.size = B at *
  go_cut [] (fun wx => Srch wx ⟨X, D, R, ga, c9, some b, withG mu i, tk, am, sh⟩ L ∧ Blk9 wx B i c ∧ Went (fun b => b = X ∨ b = ga) (fun b => b = X ∨ b = ga) w wx)
  case first =>
    have d1 := (Below.refl w1.heap.size w1).drew
    have s1 : w1.cell? ⟨X, 1, none⟩ = some (.int .u32 (mu : Int)) := SB.out.cs.2.1
    have fX : ∀ i, w1.frozen? ⟨X, i, none⟩ = false := SB.out.box.free
    have hx := SB.out.box.lt
    obtain ⟨q0, q1, q2, q3, q4, q5, q6, q7, q8⟩ := NB.out.cells
    have hqb := NB.out.lt
    have FIN : Hid (Srch (w1.drew.setCell ⟨X, 1, none⟩ (.int .u32 (withG mu i : Nat))) ⟨X, D, R, ga, c9, some b, withG mu i, tk, am, sh⟩ L ∧ Blk9 (w1.drew.setCell ⟨X, 1, none⟩ (.int .u32 (withG mu i : Nat))) B i c ∧ Went (fun b => b = X ∨ b = ga) (fun b => b = X ∨ b = ga) w (w1.drew.setCell ⟨X, 1, none⟩ (.int .u32 (withG mu i : Nat)))) :=
      Lib.hid ⟨(SB.out.below d1).put_mu HXA.out HCA.out (withG mu i), ⟨(Below.heap_setCell _ _ _ _ (fun e => HXB.out.1 e.symm)).trans (NB.out.below d1).box⟩, (WB.out.next d1).trans (Went.setCell _ ⟨X, 1, none⟩ _ (Or.inl rfl))⟩
    clear d1
    simp only at hx
    refine wp_region_still_tail 10 (by kernel_rfl) (by kernel_rfl) ?_
    simp only [List.take_succ_cons, List.take_zero, List.drop_succ_cons, List.drop_zero]
    repeat (first | still_step | still_call (with_still _ mu i HS.out.mu h32.out))
    try refine wpStill_nil ?_
    go_wp2_with fail
    go_meet
    exact FIN.out
  case rest =>
  obtain ⟨hS1, hN1, hW1⟩ := hcut
  have S1 := Lib.hid hS1
  have N1 := Lib.hid hN1
  have W1 := Lib.hid hW1
  obtain ⟨q0, q1, q2, q3, q4, q5, q6, q7, q8⟩ := hN1.cells
  clear hS1 hN1 hW1 SB NB WB
  by_cases h5 : c.K = 5
  · have h5b : (c.K == 5) = true := beq_iff_eq.2 h5
    obtain rfl : tk2 = withG tk i := by rw [htk, if_pos h5]
    clear h5 htk
    go_upto_region 3 with (fail)
    go_cut [] (fun wx => Srch wx ⟨X, D, R, ga, c9, some b, withG mu i, withG tk i, am, sh⟩ L ∧ Blk9 wx B i c ∧ Went (fun b => b = X ∨ b = ga) (fun b => b = X ∨ b = ga) w wx)
    case first =>
      have d1 := (Below.refl wc.heap.size wc).drew
      have s2 : wc.cell? ⟨X, 2, none⟩ = some (.int .u32 (tk : Int)) := S1.out.cs.2.2.1
      have fX : ∀ i, wc.frozen? ⟨X, i, none⟩ = false := S1.out.box.free
      have hx := S1.out.box.lt
      have hqb := N1.out.lt
      have FIN : Hid (Srch (wc.drew.setCell ⟨X, 2, none⟩ (.int .u32 (withG tk i : Nat))) ⟨X, D, R, ga, c9, some b, withG mu i, withG tk i, am, sh⟩ L ∧ Blk9 (wc.drew.setCell ⟨X, 2, none⟩ (.int .u32 (withG tk i : Nat))) B i c ∧ Went (fun b => b = X ∨ b = ga) (fun b => b = X ∨ b = ga) w (wc.drew.setCell ⟨X, 2, none⟩ (.int .u32 (withG tk i : Nat)))) :=
        Lib.hid ⟨(S1.out.below d1).put_tk HXA.out HCA.out (withG tk i), ⟨(Below.heap_setCell _ _ _ _ (fun e => HXB.out.1 e.symm)).trans (N1.out.below d1).box⟩, (W1.out.next d1).trans (Went.setCell _ ⟨X, 2, none⟩ _ (Or.inl rfl))⟩
      clear d1
      simp only at hx
      refine wp_region_still_tail 10 (by kernel_rfl) (by kernel_rfl) ?_
      simp only [List.take_succ_cons, List.take_zero, List.drop_succ_cons, List.drop_zero]
      repeat (first | still_step | still_call (with_still _ tk i HS.out.tk h32.out))
      try refine wpStill_nil ?_
      go_wp2_with fail
      go_meet
      exact FIN.out
    clear q0 q1 q2 q3 q4 q5 q6 q7 q8 S1 N1 W1
    obtain ⟨hS1, hN1, hW1⟩ := hcut
    have S1 := Lib.hid hS1
    have N1 := Lib.hid hN1
    have W1 := Lib.hid hW1
    obtain ⟨q0, q1, q2, q3, q4, q5, q6, q7, q8⟩ := hN1.cells
    have s0 := hS1.cs.1
    simp only at s0
    rw [← HKN.out] at s0
    clear hS1 hN1 hW1
    go_wp2
    clear q0 q1 q2 q3 q4 q5 q6 q7 q8 s0
    go_loopw [35] (fun j wr => ∃ p : Nat, p ≤ n ∧ j = .int .i64 (p : Int) ∧ Srch wr (⟨X, D, R, ga, c9, some b, withG mu i, withG tk i, amTo sh L i (bd sh L p) am, sh⟩ : SP) L ∧ Went (fun b => b = X ∨ b = ga) (fun b => b = X ∨ b = ga) w wr ∧ Blk9 wr B i c) (fun j _ => n - (intOf j).toNat)
    case atStart => exact ⟨0, Nat.zero_le _, rfl, by rw [amTo_first]; exact S1.out, W1.out, N1.out⟩
    case round =>
      obtain ⟨p, hp, rfl, hS, hW, hB⟩ := hrel
      have SR := Lib.hid hS
      have WR := Lib.hid hW
      have BR := Lib.hid hB
      clear S1 N1 W1
      by_cases hlt : p < n
      · have hpi : (p : Int) < (n : Int) := by omega
        have hpl : p < (keptL sh L).length := by rw [← HKN.out]; exact hlt
        obtain ⟨k, d, he, hbd, hkl, hLk, hmay, hnx⟩ := kept_at hpl
        have hki : (k : Int) < (nL : Int) := by have := HNN.out; omega
        have hkm : k < am.length := by have := H.out.len; simp only at this; omega
        obtain ⟨b', hb9, p0, p1, p2, p3, p4, p5, p6, p7, p8⟩ := kept_ci (show hist.At cellsI 9 wr (some b) (keptL sh L) from hS.calls) hpl he
        obtain rfl := Option.some.inj hb9
        have s3 := hS.cs.2.2.2.1
        simp only at s3
        rw [← HNN.out] at s3
        have sa := hS.am hkl
        simp only at sa
        rw [amTo_get sh L i _ am hkm, if_neg (by rw [hbd]; omega)] at sa
        have hag := hS.row.lt
        have fG := hS.row.free
        simp only at hag fG
        obtain ⟨q0, q1, q2, q3, q4, q5, q6, q7, q8⟩ := hB.cells
        have hqb := hB.lt
        have hmk : mayAt sh L k = true := by rw [may_at hkl, ← hmay]; congr 1; exact (List.getElem?_eq_some_iff.1 hLk).2
        have HBE := befL_eq (L := L) (i := i) (j := k) (List.getElem?_eq_some_iff.1 HCC.out).1 hkl
        rw [show L[i]'((List.getElem?_eq_some_iff.1 HCC.out).1) = c from (List.getElem?_eq_some_iff.1 HCC.out).2, show L[k] = d from (List.getElem?_eq_some_iff.1 hLk).2] at HBE
        have HNX := amTo_next (i := i) (am := am) hpl hbd hnx
        rw [hbd] at SR
        have HNO := @amTo_no sh L i k am
        have HYES := @amTo_yes sh L i k am hkm
        rw [← HNX, befM_yes hmk] at HNO HYES
        have HAM := Lib.hid (HS.out.am k)
        simp only at HAM
        generalize am.getD k 0 = a at *
        have hbb : Below wr.heap.size wr (wr.alloc (.cells #[.int .i64 d.B, .int .i64 d.D, .int .i64 (k : Int), .int .i64 d.T, .int .i64 d.K, .int .i64 d.Y, .int .i64 d.C, .bool d.O, .int .i64 d.V] 85)) := (Below.refl _ _).alloc (Nat.le_refl _) _
        have SR2 := Lib.hid (SR.out.below hbb)
        have WR2 := Lib.hid (WR.out.next hbb)
        have BR2 := Lib.hid (BR.out.below hbb)
        have KB : Hid (Blk9 (wr.alloc (.cells #[.int .i64 d.B, .int .i64 d.D, .int .i64 (k : Int), .int .i64 d.T, .int .i64 d.K, .int .i64 d.Y, .int .i64 d.C, .bool d.O, .int .i64 d.V] 85)) wr.heap.size k d) := Lib.hid ⟨new_block _ _ _⟩
        have HKL := Lib.hid hkl
        have t3 := (hbb.cell (World.block_lt_of_cell? _ _ s3)).trans s3
        have ta := (hbb.cell (World.block_lt_of_cell? _ _ sa)).trans sa
        have HT3 := Lib.hid t3
        have HTA := Lib.hid ta
        clear hS hW hB hkl hkm hpl he hbd hLk hmay hnx hmk HNX hbb t3 ta
        cases hbe : befL L i k
        · rw [hbe] at HBE
          have HE := Lib.hid HBE
          have HNO2 := Lib.hid (HNO hbe)
          clear HBE HNO HYES hbe
          go_wp2_with (go_at_call 35; go_loud (refine (before_any _ c.B c.D d.B d.D).mono ?_; rintro e w3 ⟨rfl, hb3⟩; rw [← HE.out]; have SR3 := Lib.hid (SR2.out.below hb3); have WR3 := Lib.hid (WR2.out.next hb3); have BR3 := Lib.hid (BR2.out.below hb3); clear hb3))
          go_roundw
          case rel => exact ⟨p + 1, by omega, by go_num, by rw [HNO2.out]; exact SR3.out, WR3.out, BR3.out⟩
          case measure => simp [intOf]; omega
        · rw [hbe] at HBE
          have HE := Lib.hid HBE
          have HYES2 := Lib.hid (HYES hbe)
          clear HBE HNO HYES hbe
          go_wp2_with (go_at_call 35; go_loud (refine (before_any _ c.B c.D d.B d.D).mono ?_; rintro e w3 ⟨rfl, hb3⟩; rw [← HE.out]; have SR3 := Lib.hid (SR2.out.below hb3); have WR3 := Lib.hid (WR2.out.next hb3); have BR3 := Lib.hid (BR2.out.below hb3); have K3 := Lib.hid (KB.out.below hb3); have x3 := (hb3.cell (World.block_lt_of_cell? _ _ HT3.out)).trans HT3.out; have xa := (hb3.cell (World.block_lt_of_cell? _ _ HTA.out)).trans HTA.out; clear hb3))
          clear p0 p1 p2 p3 p4 p5 p6 p7 p8 q0 q1 q2 q3 q4 q5 q6 q7 q8 s3 sa fG hag hqb
          have x4 := SR3.out.row.free
          have x5 := SR3.out.row.lt
          simp only at x4 x5
          obtain ⟨q0, q1, q2, q3, q4, q5, q6, q7, q8⟩ := BR3.out.cells
          obtain ⟨e0, e1, e2, e3, e4, e5, e6, e7, e8⟩ := K3.out.cells
          have dB := (Below.refl w3.heap.size w3).drew
          have FIN : Hid (Srch (w3.drew.setCell ⟨ga, k, none⟩ (.int .u32 (withG a i : Nat))) (⟨X, D, R, ga, c9, some b, withG mu i, withG tk i, amTo sh L i (bd sh L (p + 1)) am, sh⟩ : SP) L ∧ Went (fun b => b = X ∨ b = ga) (fun b => b = X ∨ b = ga) w (w3.drew.setCell ⟨ga, k, none⟩ (.int .u32 (withG a i : Nat))) ∧ Blk9 (w3.drew.setCell ⟨ga, k, none⟩ (.int .u32 (withG a i : Nat))) B i c) :=
            Lib.hid ⟨by rw [HYES2.out]; exact (SR3.out.below dB).put_am HXA.out HCA.out k (withG a i), (WR3.out.next dB).trans (Went.setCell _ ⟨ga, k, none⟩ _ (Or.inr rfl)), ⟨(Below.heap_setCell _ _ _ _ (fun e => HXB.out.2 e.symm)).trans (BR3.out.below dB).box⟩⟩
          clear dB
          refine wp_region_still_tail 18 (by kernel_rfl) (by kernel_rfl) ?_
          simp only [List.take_succ_cons, List.take_zero, List.drop_succ_cons, List.drop_zero]
          repeat (first | still_step | still_call (with_still _ a i HAM.out h32.out))
          try refine wpStill_nil ?_
          go_wp2
          go_roundw
          case rel => exact ⟨p + 1, by omega, by go_num, FIN.out.1, FIN.out.2.1, FIN.out.2.2⟩
          case measure => simp [intOf]; omega
      · have hpn : p = n := by omega
        have HF : Hid (Noted w wr ⟨X, D, R, ga, c9, some b, mu, tk, am, sh⟩ L i (withG tk i)) := Lib.hid ⟨by have := SR.out; rw [hpn, HKN.out, bd_all] at this; exact this, WR.out⟩
        clear hpn
        go_wp2
        go_returns
        exact ⟨rfl, HF.out⟩
  · have h5b : (c.K == 5) = false := by rw [Bool.eq_false_iff]; exact fun h => h5 (beq_iff_eq.1 h)
    obtain rfl : tk2 = tk := by rw [htk, if_neg h5]
    clear h5 htk
    have s0 := S1.out.cs.1
    simp only at s0
    rw [← HKN.out] at s0
    go_wp2
    clear q0 q1 q2 q3 q4 q5 q6 q7 q8 s0
    go_loopw [35] (fun j wr => ∃ p : Nat, p ≤ n ∧ j = .int .i64 (p : Int) ∧ Srch wr (⟨X, D, R, ga, c9, some b, withG mu i, tk2, amTo sh L i (bd sh L p) am, sh⟩ : SP) L ∧ Went (fun b => b = X ∨ b = ga) (fun b => b = X ∨ b = ga) w wr ∧ Blk9 wr B i c) (fun j _ => n - (intOf j).toNat)
    case atStart => exact ⟨0, Nat.zero_le _, rfl, by rw [amTo_first]; exact S1.out, W1.out, N1.out⟩
    case round =>
      obtain ⟨p, hp, rfl, hS, hW, hB⟩ := hrel
      have SR := Lib.hid hS
      have WR := Lib.hid hW
      have BR := Lib.hid hB
      clear S1 N1 W1
      by_cases hlt : p < n
      · have hpi : (p : Int) < (n : Int) := by omega
        have hpl : p < (keptL sh L).length := by rw [← HKN.out]; exact hlt
        obtain ⟨k, d, he, hbd, hkl, hLk, hmay, hnx⟩ := kept_at hpl
        have hki : (k : Int) < (nL : Int) := by have := HNN.out; omega
        have hkm : k < am.length := by have := H.out.len; simp only at this; omega
        obtain ⟨b', hb9, p0, p1, p2, p3, p4, p5, p6, p7, p8⟩ := kept_ci (show hist.At cellsI 9 wr (some b) (keptL sh L) from hS.calls) hpl he
        obtain rfl := Option.some.inj hb9
        have s3 := hS.cs.2.2.2.1
        simp only at s3
        rw [← HNN.out] at s3
        have sa := hS.am hkl
        simp only at sa
        rw [amTo_get sh L i _ am hkm, if_neg (by rw [hbd]; omega)] at sa
        have hag := hS.row.lt
        have fG := hS.row.free
        simp only at hag fG
        obtain ⟨q0, q1, q2, q3, q4, q5, q6, q7, q8⟩ := hB.cells
        have hqb := hB.lt
        have hmk : mayAt sh L k = true := by rw [may_at hkl, ← hmay]; congr 1; exact (List.getElem?_eq_some_iff.1 hLk).2
        have HBE := befL_eq (L := L) (i := i) (j := k) (List.getElem?_eq_some_iff.1 HCC.out).1 hkl
        rw [show L[i]'((List.getElem?_eq_some_iff.1 HCC.out).1) = c from (List.getElem?_eq_some_iff.1 HCC.out).2, show L[k] = d from (List.getElem?_eq_some_iff.1 hLk).2] at HBE
        have HNX := amTo_next (i := i) (am := am) hpl hbd hnx
        rw [hbd] at SR
        have HNO := @amTo_no sh L i k am
        have HYES := @amTo_yes sh L i k am hkm
        rw [← HNX, befM_yes hmk] at HNO HYES
        have HAM := Lib.hid (HS.out.am k)
        simp only at HAM
        generalize am.getD k 0 = a at *
        have hbb : Below wr.heap.size wr (wr.alloc (.cells #[.int .i64 d.B, .int .i64 d.D, .int .i64 (k : Int), .int .i64 d.T, .int .i64 d.K, .int .i64 d.Y, .int .i64 d.C, .bool d.O, .int .i64 d.V] 85)) := (Below.refl _ _).alloc (Nat.le_refl _) _
        have SR2 := Lib.hid (SR.out.below hbb)
        have WR2 := Lib.hid (WR.out.next hbb)
        have BR2 := Lib.hid (BR.out.below hbb)
        have KB : Hid (Blk9 (wr.alloc (.cells #[.int .i64 d.B, .int .i64 d.D, .int .i64 (k : Int), .int .i64 d.T, .int .i64 d.K, .int .i64 d.Y, .int .i64 d.C, .bool d.O, .int .i64 d.V] 85)) wr.heap.size k d) := Lib.hid ⟨new_block _ _ _⟩
        have HKL := Lib.hid hkl
        have t3 := (hbb.cell (World.block_lt_of_cell? _ _ s3)).trans s3
        have ta := (hbb.cell (World.block_lt_of_cell? _ _ sa)).trans sa
        have HT3 := Lib.hid t3
        have HTA := Lib.hid ta
        clear hS hW hB hkl hkm hpl he hbd hLk hmay hnx hmk HNX hbb t3 ta
        cases hbe : befL L i k
        · rw [hbe] at HBE
          have HE := Lib.hid HBE
          have HNO2 := Lib.hid (HNO hbe)
          clear HBE HNO HYES hbe
          go_wp2_with (go_at_call 35; go_loud (refine (before_any _ c.B c.D d.B d.D).mono ?_; rintro e w3 ⟨rfl, hb3⟩; rw [← HE.out]; have SR3 := Lib.hid (SR2.out.below hb3); have WR3 := Lib.hid (WR2.out.next hb3); have BR3 := Lib.hid (BR2.out.below hb3); clear hb3))
          go_roundw
          case rel => exact ⟨p + 1, by omega, by go_num, by rw [HNO2.out]; exact SR3.out, WR3.out, BR3.out⟩
          case measure => simp [intOf]; omega
        · rw [hbe] at HBE
          have HE := Lib.hid HBE
          have HYES2 := Lib.hid (HYES hbe)
          clear HBE HNO HYES hbe
          go_wp2_with (go_at_call 35; go_loud (refine (before_any _ c.B c.D d.B d.D).mono ?_; rintro e w3 ⟨rfl, hb3⟩; rw [← HE.out]; have SR3 := Lib.hid (SR2.out.below hb3); have WR3 := Lib.hid (WR2.out.next hb3); have BR3 := Lib.hid (BR2.out.below hb3); have K3 := Lib.hid (KB.out.below hb3); have x3 := (hb3.cell (World.block_lt_of_cell? _ _ HT3.out)).trans HT3.out; have xa := (hb3.cell (World.block_lt_of_cell? _ _ HTA.out)).trans HTA.out; clear hb3))
          clear p0 p1 p2 p3 p4 p5 p6 p7 p8 q0 q1 q2 q3 q4 q5 q6 q7 q8 s3 sa fG hag hqb
          have x4 := SR3.out.row.free
          have x5 := SR3.out.row.lt
          simp only at x4 x5
          obtain ⟨q0, q1, q2, q3, q4, q5, q6, q7, q8⟩ := BR3.out.cells
          obtain ⟨e0, e1, e2, e3, e4, e5, e6, e7, e8⟩ := K3.out.cells
          have dB := (Below.refl w3.heap.size w3).drew
          have FIN : Hid (Srch (w3.drew.setCell ⟨ga, k, none⟩ (.int .u32 (withG a i : Nat))) (⟨X, D, R, ga, c9, some b, withG mu i, tk2, amTo sh L i (bd sh L (p + 1)) am, sh⟩ : SP) L ∧ Went (fun b => b = X ∨ b = ga) (fun b => b = X ∨ b = ga) w (w3.drew.setCell ⟨ga, k, none⟩ (.int .u32 (withG a i : Nat))) ∧ Blk9 (w3.drew.setCell ⟨ga, k, none⟩ (.int .u32 (withG a i : Nat))) B i c) :=
            Lib.hid ⟨by rw [HYES2.out]; exact (SR3.out.below dB).put_am HXA.out HCA.out k (withG a i), (WR3.out.next dB).trans (Went.setCell _ ⟨ga, k, none⟩ _ (Or.inr rfl)), ⟨(Below.heap_setCell _ _ _ _ (fun e => HXB.out.2 e.symm)).trans (BR3.out.below dB).box⟩⟩
          clear dB
          refine wp_region_still_tail 18 (by kernel_rfl) (by kernel_rfl) ?_
          simp only [List.take_succ_cons, List.take_zero, List.drop_succ_cons, List.drop_zero]
          repeat (first | still_step | still_call (with_still _ a i HAM.out h32.out))
          try refine wpStill_nil ?_
          go_wp2
          go_roundw
          case rel => exact ⟨p + 1, by omega, by go_num, FIN.out.1, FIN.out.2.1, FIN.out.2.2⟩
          case measure => simp [intOf]; omega
      · have hpn : p = n := by omega
        have HF : Hid (Noted w wr ⟨X, D, R, ga, c9, some b, mu, tk2, am, sh⟩ L i tk2) := Lib.hid ⟨by have := SR.out; rw [hpn, HKN.out, bd_all] at this; exact this, WR.out⟩
        clear hpn
        go_wp2
        go_returns
        exact ⟨rfl, HF.out⟩
theorem note_any (w : World) (t : SP) (L : List ClV) (h : Srch w t L) (hxa : t.X ≠ t.ga) (hca : ∀ b, t.A9 = some b → b.block ≠ t.X ∧ b.block ≠ t.ga) (hs : Small t L) (i : Nat) (c : ClV) (hc : L[i]? = some c) (hm : mayC t.sh c = true) :
    Calls Tryz.prog 50 #[.pointer (some ⟨t.X, 0, none⟩), clA i c] w fun e w' => e = .returned (.tuple #[]) ∧ Noted w w' t L i (if c.K = 5 then withG t.tk i else t.tk) := by
  obtain ⟨X, D, R, ga, c9, A9, mu, tk, am, sh⟩ := t
  have hmem : (i, c) ∈ keptTo sh L L.length := kept_mem.2 ⟨(List.getElem?_eq_some_iff.1 hc).1, hc, hm⟩
  obtain ⟨p, hp, he⟩ := List.getElem_of_mem hmem
  obtain ⟨b, hb, -⟩ := kept_ci (show hist.At cellsI 9 w A9 (keptL sh L) from h.calls) hp he
  subst hb
  exact note_some w X D R ga c9 b mu tk am sh L h hxa hca hs i c hc
end Go.Proofs.YtmpilokgbblonaaGreat.lin
