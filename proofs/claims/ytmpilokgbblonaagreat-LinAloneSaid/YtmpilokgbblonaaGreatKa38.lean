/- The groups of a set, collected in whatever order they come. -/
import Derived.Test.YtmpilokgbblonaaGreatKa36
import Derived.RangeFuncNested
import Derived.RangeFuncBound
import Derived.RangeFuncCalls
import Derived.RangeFuncLeaves
import Derived.RangeFuncStops
import Derived.RangeFuncBox
import Derived.Shelf.Abstract
import Derived.WalkKit
import Derived.OwnWalkIn
import Derived.TacticsInMore
import Derived.LoopNIn
import Derived.LoopIn
import Derived.Maps.AppendAt
import Derived.Sort.MapsRangeIn
import Derived.Test.YtmpilokgbblonaaGreatKa35
import Derived.Shelf.SlSortCmp.Xorshift
import Derived.Shelf.Small.Bits
import Derived.Ground.NamesProg
import Derived.Ground.SlsfProg
import Derived.Test.YtmpilokgbblonaaGreatProg
import Derived.Test.YtmpilokgbblonaaGreatKa37
namespace Go.Proofs.YtmpilokgbblonaaGreat.lin
open Go.RowKit Go.Maps Go.Shelf
open hist (past new_block Went)
attribute [local go_sem] Oper.semAt_some

/-- The groups that have come, those that are left still to come. -/
def Came (G : List Nat) (left : Lit → Bool) (ss : List Nat) : Prop := ss.Nodup ∧ ∀ x : Nat, x ∈ ss ↔ (x ∈ G ∧ left (.int .u32 (x : Int)) = false)
theorem Came.step {G : List Nat} {left : Lit → Bool} {ss : List Nat} (h : Came G left ss) {x : Nat} (hl : left (.int .u32 (x : Int)) = true) (hx : x ∈ G) : Came G (fun z => left z && !z.sameKey (.int .u32 (x : Int))) (ss ++ [x]) := by
  have hnew : x ∉ ss := fun hx => by have := ((h.2 x).1 hx).2; rw [hl] at this; cases this
  refine ⟨List.nodup_append.2 ⟨h.1, by simp, fun a ha b hb => by simp at hb; subst hb; exact fun e => hnew (e ▸ ha)⟩, fun y => ?_⟩
  by_cases hy : y = x
  · subst hy; simp [hx, Lit.sameKey]
  · have : ¬ (y : Int) = (x : Int) := by omega
    simp [h.2 y, hy, Lit.sameKey, this]
theorem Came.perm {G : List Nat} {left : Lit → Bool} {ss : List Nat} (h : Came G left ss) (hG : G.Nodup) (hl : ∀ kl, left kl = false) : ss.Perm G :=
  (List.perm_ext_iff_of_nodup h.1 hG).2 fun x => by rw [h.2 x, hl]; simp
set_option maxRecDepth 100000 in
set_option maxHeartbeats 2000000 in
theorem keys1_in (n : Nat) (hn : 1 ≤ n) (l Bm b : Nat) (T : DataW Unit) (G : List Nat) (J Jx : List Nat → World → Prop)
    (hY : ∀ pre x W, J pre W → pre.length < G.length → YieldAt Fence.wide (n - 1) Tryz.prog l #[gv x] W fun e W' => (e = .returned (.bool true) ∧ J (pre ++ [x]) W' ∧ KeepsWalks W W') ∨ (e = .returned (.bool false) ∧ Jx (pre ++ [x]) W'))
    (W : World) (hJ : AbidesFrom W.heap.size J) (hm : W.cell? ⟨Bm, 0, none⟩ = some (.map (some b))) (hG : SetM W b T G) (h0 : J [] W) :
    CallsIn Fence.wide n Tryz.prog 100 #[.func (.yield l) #[] #[], .pointer (some ⟨Bm, 0, none⟩)] W fun e W' => (∃ v, e = .returned v) ∧ ((∃ ss : List Nat, ss.Perm G ∧ J ss W') ∨ ∃ pre : List Nat, True ∧ Jx pre W') := by
  have hown := hG.own
  have hsz := keys_size hG.own hG.has hG.nodup hG.small
  have HH := Lib.hid hG.has
  have HND := Lib.hid hG.nodup
  have HSM := Lib.hid hG.small
  clear hG
  refine callsIn_of_wp Tryz.func100 rfl trivial ?_ rfl
  simp only [Tryz.ntmps100, List.size_toArray, List.length_cons, List.length_nil, Nat.reduceAdd, Nat.reduceSub, Array.replicate_succ, Array.replicate_zero, List.push_toArray, List.append_toArray, List.nil_append, List.cons_append]
  gi_wp2_with (first
    | (gi_at_range; refine wpListIn_range_own _ rfl _ 150 rfl 79 118 group_keyed Tryz.underlying150 _ b G.length _ rfl hown ?_; intro w0 hrg0 hg0 hs0)
    | gi_in)
  go_frame
  gi_loopw [3] (fun _ wr => ∃ (left : Lit → Bool) (cnt : Nat) (ss : List Nat), wr.ranges Tryz.prog 79 unitElem b W.heap.size G.length T left cnt ∧ ss.length + cnt ≤ G.length ∧ Came G left ss ∧ J ss wr)
    (fun _ wr => wr.rangeLeft b W.heap.size)
  case atStart =>
    refine ⟨_, _, [], hrg0, by rw [hsz]; simp, ⟨List.nodup_nil, fun x => ?_⟩, hJ [] W w0 none h0 hg0 (fun r e => by cases e)⟩
    constructor
    · intro h; simp at h
    · rintro ⟨h1, h2⟩
      exfalso
      by_cases hx : x < 4294967296
      · rw [(HH.out x hx).2 h1] at h2; exact absurd h2 (by decide)
      · exact hx (HSM.out x h1)
  case round =>
    obtain ⟨left, cnt, ss, hrg, hcs, hC, hJs⟩ := hrel
    gi_wp2_with (first
      | (gi_at_next; refine wpListIn_next_ranges _ rfl _ rfl 79 group_keyed unitElem gv id (fun key kl hk => by obtain ⟨x, _, hx, _⟩ := group_inv hk; exact ⟨x, hx⟩) (fun v _ _ => ⟨v, rfl⟩) b W.heap.size G.length _ _ _ rfl hrg ?_ ?_)
      | gi_in)
    · intro hc0 hl0
      gi_wp2
      go_end0
      exact ⟨⟨_, rfl⟩, .inl ⟨ss, hC.perm HND.out hl0, hJs⟩⟩
    · intro x c kl yd yp w2 cnt2 hkey hlk hv hat hrg2 hlt hg2 hs2 hen
      obtain ⟨x', hx', ex, rfl⟩ := group_inv hkey
      obtain rfl : x = x' := by
        have := (Value.int.inj ex).2
        omega
      have hJ2 : J ss w2 := hJ ss wr w2 (some W.heap.size) hJs hg2 (fun r e => by cases e; exact ⟨Nat.le_refl _, hrg.iter_walk⟩)
      obtain ⟨fn, tmps, assign, body, hy, hR⟩ := hY ss x w2 hJ2 (by omega)
      have hC2 := hC.step hlk ((HH.out x hx').1 (has_true_of_atKey hat))
      clear hs2
      gi_wp2
      refine hR.mono ?_
      rintro e W3 (⟨rfl, hJ3, hk3⟩ | ⟨rfl, hJx3⟩)
      · gi_wp2
        have hrg3 := hrg2.of_walks hk3
        go_roundw
        case rel => exact ⟨_, cnt2, ss ++ [x], hrg3, by simp; omega, hC2, hJ3⟩
        case measure => rw [hrg3.left_eq, hrg.left_eq]; exact hlt
      · gi_wp2
        refine bodyPost_ret (results_none rfl _ _ _) rfl ?_
        exact ⟨⟨_, rfl⟩, .inr ⟨ss ++ [x], trivial, hJx3⟩⟩
theorem keys_stops (n : Nat) (hn : 1 ≤ n) (Bm b : Nat) (T : DataW Unit) (G : List Nat) (w : World) (hBm : Bm < w.heap.size) (hm : w.cell? ⟨Bm, 0, none⟩ = some (.map (some b))) (hG : SetM w b T G) :
    SeqStops Fence.wide n Tryz.prog 100 #[.pointer (some ⟨Bm, 0, none⟩)] gv (fun ss => ss.Perm G) (fun _ => True) G.length w := fun l J Jx W hW hJ _ hY h0 =>
  keys1_in n hn l Bm b T G J Jx hY W hJ ((hW.cell (p := ⟨Bm, 0, none⟩) hBm).trans hm) (hG.below hW) h0
theorem keys_any (w : World) (b : Nat) : Calls Tryz.prog 93 #[.map (some b)] w fun e w' => e = .returned (.func (.func 100) #[] #[.pointer (some ⟨w.heap.size, 0, none⟩)]) ∧ w' = w.alloc (.cells #[.map (some b)] 150) := by
  go_enter Tryz.func93, Tryz.ntmps93
  go_wp2
  go_returns
  first | exact ⟨rfl, rfl⟩ | rfl
/-- The same, told by what is there. -/
theorem keys_ptr (w : World) (b : Nat) : Calls Tryz.prog 93 #[.map (some b)] w fun e w' => ∃ Bm, e = .returned (.func (.func 100) #[] #[.pointer (some ⟨Bm, 0, none⟩)]) ∧ Bm < w'.heap.size ∧ w'.cell? ⟨Bm, 0, none⟩ = some (.map (some b)) ∧ Below w.heap.size w w' :=
  (keys_any w b).mono fun e w' ⟨h1, h2⟩ => ⟨_, h1, by rw [h2]; simp, by rw [h2, Joins.cell_of_block (heap_alloc_new w _)]; rfl, by rw [h2]; exact (Below.refl _ _).alloc (Nat.le_refl _) _⟩
set_option maxRecDepth 100000 in
set_option maxHeartbeats 2000000 in
/-- All that comes, in one slice. -/
theorem appendSeq_in (n : Nat) (hn : 2 ≤ n) (g : Nat) (lb : Array Value) (eg : ∀ args w, (callFunc g args).run Tryz.prog w = .ok (.enter g args) w) (G : List Nat) (hG : G.length ≤ 100000000) (w : World)
    (hseq : SeqStops Fence.wide (n - 1) Tryz.prog g lb gv (fun ss => ss.Perm G) (fun _ => True) G.length w) :
    CallsIn Fence.wide n Tryz.prog 102 #[.slice none 0 0, .func (.func g) #[] lb] w fun e w' => ∃ (v : Value) (ss : List Nat), e = .returned v ∧ ss.Perm G ∧ w'.ownsRow w.heap.size 79 1 v ss.length (ss.map gv) ∧ Below w.heap.size w w' := by
  have h1 : 1 ≤ n := by omega
  obtain ⟨i0, hi, hz0, hz1, hz2⟩ := info_parts Tryzinfo_group
  refine callsIn_of_wp_marks Tryz.func102 rfl trivial ?_ rfl
  simp only [Tryz.ntmps102, List.size_toArray, List.length_cons, List.length_nil, Nat.reduceAdd, Nat.reduceSub, Array.replicate_succ, Array.replicate_zero, List.push_toArray, List.append_toArray, List.nil_append, List.cons_append]
  gi_wp2
  have bO := Boxed.new w 108 (.slice none 0 0)
  have hB0 : Below w.heap.size w (w.alloc (.cells #[.slice none 0 0] 108)) := (Below.refl _ w).alloc (Nat.le_refl _) _
  refine wpIn_rangeFunc_ownG (α := Nat) rfl h1 (gf := g) (lb := lb) rfl trivial eg (encs := fun x => #[gv x]) (Kp := KeepsWalks) hseq walksK_t walksK_b hB0 (fun _ => rfl)
    (fun pre W => (∃ v, Boxed W w.heap.size 108 v ∧ W.ownsRow w.heap.size 79 1 v pre.length (pre.map gv) ∧ True) ∧ Below w.heap.size w W)
    (fun _ _ _ => False)
    (OwnFrom.and (Own.from (holdsRow_own w.heap.size w.heap.size 108 79 1 (fun pre : List Nat => pre.length) (fun pre => pre.map gv) (fun _ _ => True)) _) (ownFrom_below (Nat.le_refl _) (by simp)))
    (fun _ _ _ _ _ hs _ _ => hs)
    ⟨⟨_, bO, World.ownsRow_nil _ _ _ _, trivial⟩, hB0⟩
    (fun x => { tmps := #[.slice none 0 0, .func (.func g) #[] lb, .pointer (some ⟨w.heap.size, 0, none⟩), undef, .slice none 0 0, gv x, .func (.func g) #[] lb, gv x, undef, undef, undef, undef, undef], defers := [] }) ?assign ?body ?done ?stop
  case assign =>
    intro l x W K hK
    gi_wp2
    exact hK
  case body =>
    rintro l pre x W ⟨⟨v, hv, hrow, -⟩, hB⟩ hlt
    have hc := hv.cell
    gi_wp2_with (gi_at_builtin; refine wpListIn_append_own _ rfl _ _ 108 rfl w.heap.size 79 i0 (.int .u32 0) 1 4 Tryz.underlying108 hi hz0 hz1 hz2 rfl (by decide) _ _ _ rfl (hrow.alloc _) ⟨W.heap.size, 0, none⟩ 1 1 [gv x] rfl rfl (cell_one_new _ _ _) (by simp [Value.oneCell']) (by unfold maxLen; omega) (by omega) (by have := hB.size; simp; omega) ?_; intro v' w1 hown' hgrow _; obtain ⟨g', cap', rfl⟩ := ownsRow_succ hown'; obtain ⟨hv1, hv2, hr2, hk2, hb2⟩ := hv.appended (by decide) hrow hB.size (Nat.le_refl _) hown' hgrow; have hc1 := hv1.cell; have hf1 := hv1.frozen)
    exact ⟨hk2.from _, hk2.walks, ⟨_, hv2, by simpa using hr2, trivial⟩, hB.trans hb2⟩
  case done =>
    rintro D ys W hD hS ⟨⟨v, hv, hrow, -⟩, hB⟩ hK
    have hc := hv.cell
    gi_wp2
    refine ⟨by simp, .inl ⟨_, _, rfl, run_takeDeferred hK, ?_⟩⟩
    exact ⟨_, results_tmp rfl _ _ _, v, ys, rfl, hS, ownsRow_putObj hrow _ hK rfl, hB.trans (belowK_b (w := w) (Nat.le_refl _) W D _ _ (by simp at hD; omega) hK rfl rfl)⟩
  case stop =>
    rintro D c pre W _ _ h _
    exact h.elim
end Go.Proofs.YtmpilokgbblonaaGreat.lin
/- Parts of a row of groups, turned round or put in order by insertion: the same groups. -/
namespace Go.Proofs.YtmpilokgbblonaaGreat.lin
open Go.RowKit
open hist (past new_block Went)

set_option maxRecDepth 100000 in
set_option maxHeartbeats 4000000 in
theorem reverse_any (w : World) (B n c a b : Nat) (xs : List Nat) (h : GRow w B n xs) (hab : a ≤ b) (hb : b ≤ n) :
    Calls Tryz.prog 109 #[.slice (some ⟨B, 0, none⟩) n c, .int .i64 (a : Int), .int .i64 (b : Int)] w fun e w' => e = .returned (.tuple #[]) ∧ Sorts w B n xs w' := by
  have H := Lib.hid h
  have hbig := h.big
  have HAB := Lib.hid (And.intro hab hb)
  have hbI : (b : Int) ≤ 1000000000 := by omega
  clear h hab hb
  go_enter Tryz.func109, Tryz.ntmps109
  go_wp2
  go_loopw [6, 7] (fun u v wr => ∃ (i : Nat) (j : Int) (ys : List Nat), u = .int .i64 (i : Int) ∧ v = .int .i64 j ∧ i ≤ n ∧ -1 ≤ j ∧ j < n ∧ ys.Perm xs ∧ GRow wr B n ys ∧ Went (fun b => b = B) (fun b => b = B) w wr) (fun _ v _ => (intOf v + 1).toNat)
  case atStart => exact ⟨a, (b : Int) - 1, xs, rfl, by first | rfl | (congr 1; omega) | simp, by have := HAB.out; omega, by omega, by have := HAB.out; omega, .refl _, H.out, Went.refl _ _⟩
  case round =>
    obtain ⟨i, j, ys, rfl, rfl, hi, hj0, hjn, hp, hG, hW⟩ := hrel
    have HP := Lib.hid hp
    have HG := Lib.hid hG
    have HW := Lib.hid hW
    by_cases hlt : (i : Int) < j
    · obtain ⟨m, rfl⟩ : ∃ m : Nat, j = m := ⟨j.toNat, by omega⟩
      have hin : i < n := by omega
      have hmn : m < n := by omega
      have him : i ≠ m := by omega
      have hmi : m ≠ i := by omega
      have hinI : (i : Int) < (n : Int) := by omega
      have hmnI : (m : Int) < (n : Int) := by omega
      have ci := hG.cell hin
      have cm := hG.cell hmn
      have fz := hG.free
      have SW := Lib.hid (hG.swap hin hmn)
      have SP := Lib.hid ((swap_perm (xs := ys) (i := i) (j := m) (by rw [hG.len]; exact hin) (by rw [hG.len]; exact hmn)).trans hp)
      have hm1 : (m : Int) ≤ 1000000000 := by omega
      generalize ys.getD i 0 = x at *
      generalize ys.getD m 0 = y at *
      clear hp hG hW
      go_wp2
      go_region
      go_wp2
      go_roundw
      case rel => exact ⟨i + 1, (m : Int) - 1, _, by go_num, by go_num, by omega, by omega, by omega, SP.out, SW.out.drew, swap_went HW.out rfl _ _ _ _⟩
      case measure => simp [intOf] <;> omega
    · go_wp2
      go_returns
      exact ⟨rfl, ys, HP.out, HG.out, HW.out⟩

set_option maxRecDepth 100000 in
set_option maxHeartbeats 8000000 in
theorem insertion_any (w : World) (B n c a b : Nat) (xs : List Nat) (h : GRow w B n xs) (hb : b ≤ n) (hab : a ≤ n) :
    Calls Tryz.prog 105 #[.slice (some ⟨B, 0, none⟩) n c, .int .i64 (a : Int), .int .i64 (b : Int)] w fun e w' => e = .returned (.tuple #[]) ∧ Sorts w B n xs w' := by
  have H := Lib.hid h
  have hbig := h.big
  have HAB := Lib.hid hb
  have hbI : (b : Int) ≤ 1000000000 := by omega
  have haI : (a : Int) ≤ 1000000000 := by omega
  clear h hb
  go_enter Tryz.func105, Tryz.ntmps105
  go_wp2
  go_loopw [6] (fun u wr => ∃ (i : Nat) (ys : List Nat), u = .int .i64 (i : Int) ∧ a + 1 ≤ i ∧ i ≤ 1000000001 ∧ ys.Perm xs ∧ GRow wr B n ys ∧ Went (fun b => b = B) (fun b => b = B) w wr) (fun u _ => (b - intOf u).toNat)
  case atStart => exact ⟨a + 1, xs, by first | rfl | go_num, by omega, by omega, .refl _, H.out, Went.refl _ _⟩
  case round =>
    obtain ⟨i, ys, rfl, hia, hib, hp, hG, hW⟩ := hrel
    have HP := Lib.hid hp
    have HG := Lib.hid hG
    have HW := Lib.hid hW
    have HIA := Lib.hid hia
    by_cases hlt : (i : Int) < b
    · have hin : Hid (i < n) := Lib.hid (by have := HAB.out; omega)
      clear hp hG hW hia hib
      go_wp2
      go_loopw [7] (fun u wi => ∃ (j : Nat) (zs : List Nat), u = .int .i64 (j : Int) ∧ a ≤ j ∧ j < n ∧ zs.Perm xs ∧ GRow wi B n zs ∧ Went (fun b => b = B) (fun b => b = B) w wi) (fun u _ => (intOf u - a).toNat)
      case atStart => exact ⟨i, ys, rfl, by have := HIA.out; omega, hin.out, HP.out, HG.out, HW.out⟩
      case round =>
        obtain ⟨j, zs, rfl, hja, hjn, hp, hG, hW⟩ := hrel
        have KP := Lib.hid hp
        have KG := Lib.hid hG
        have KW := Lib.hid hW
        by_cases hgt : a < j
        · obtain ⟨m, hm⟩ : ∃ m, j = m + 1 := ⟨j - 1, by omega⟩
          have hmn : m < n := by omega
          have hjm : (j : Int) - 1 = (m : Int) := by omega
          have hI1 : (j : Int) < (n : Int) := by omega
          have hI2 : (m : Int) < (n : Int) := by omega
          have hI3 : (a : Int) < (j : Int) := by omega
          have hI4 : (j : Int) ≤ 1000000000 := by omega
          have hI5 : decide ((a : Int) < (j : Int)) = true := decide_eq_true hI3
          have hwm : IntKind.i64.wrap (m : Int) = (m : Int) := by
            simp [IntKind.wrap, IntKind.bits, IntKind.signed]
            omega
          have HM : Hid (j < n ∧ m < n ∧ a ≤ m ∧ m ≠ j) := Lib.hid ⟨hjn, hmn, by omega, by omega⟩
          clear hm
          have C0 : Gq wr wr B n zs := ⟨Below.refl _ _, hG⟩
          obtain ⟨x, hx⟩ : ∃ x, x = zs.getD j 0 := ⟨_, rfl⟩
          obtain ⟨y, hy⟩ : ∃ y, y = zs.getD m 0 := ⟨_, rfl⟩
          have HX : Hid (zs.getD j 0 = x ∧ zs.getD m 0 = y) := Lib.hid ⟨hx.symm, hy.symm⟩
          clear hx hy
          cases hlx : decide (x < y)
          · have PL : ∀ wx : World, Calls Tryz.prog 111 #[.int .u32 (x : Int), .int .u32 (y : Int)] wx fun e w' => e = .returned (.bool false) ∧ Below wx.heap.size wx w' := fun wx => by
              have h := less_any wx x y
              rw [hlx] at h
              exact h
            clear hp hG hW hlx
            go_wp2
            refine quiet.region (C := fun wx => Gq wr wx B n zs) (C0.next ((Below.refl _ _).drew)) (by kernel_rfl) (by kernel_rfl) ?_
            repeat (first
              | go_big_quiet_skip
              | (go_big_quiet_want; go_big_quiet_op; go_big_quiet_on)
              | (refine BigFrame.wpQuiet_want (by rfl) (fun K hK => ?_)
                 apply Exists.intro
                 refine ⟨fun wx hwx => ?_, hK _ ?_⟩
                 · have hx := Gq.two hwx HM.out.1 HM.out.2.1
                   rw [HX.out.1, HX.out.2] at hx
                   go_split_ands
                   go_simp
                   first | rfl | (with_reducible refine quiet.call (PL wx) ?_; exact fun _ hb => Gq.next hwx hb)
                 clear hK K
                 simp only [Act.put, List.setIfInBounds_toArray, List.set_cons_zero, List.set_cons_succ]))
            refine wpQuiet_nil ?_
            intro w6 hq6
            have G6 := Lib.hid hq6.row
            have W6 := Lib.hid (KW.out.next hq6.below)
            clear hq6
            go_wp2
            exact ⟨⟨i + 1, zs, by go_num, by have := HIA.out; omega, by have := hin.out; omega, KP.out, G6.out, W6.out⟩, by simp [intOf]; omega⟩
          · have PL : ∀ wx : World, Calls Tryz.prog 111 #[.int .u32 (x : Int), .int .u32 (y : Int)] wx fun e w' => e = .returned (.bool true) ∧ Below wx.heap.size wx w' := fun wx => by
              have h := less_any wx x y
              rw [hlx] at h
              exact h
            clear hp hG hW hlx
            go_wp2
            refine quiet.region (C := fun wx => Gq wr wx B n zs) (C0.next ((Below.refl _ _).drew)) (by kernel_rfl) (by kernel_rfl) ?_
            repeat (first
              | go_big_quiet_skip
              | (go_big_quiet_want; go_big_quiet_op; go_big_quiet_on)
              | (refine BigFrame.wpQuiet_want (by rfl) (fun K hK => ?_)
                 apply Exists.intro
                 refine ⟨fun wx hwx => ?_, hK _ ?_⟩
                 · have hx := Gq.two hwx HM.out.1 HM.out.2.1
                   rw [HX.out.1, HX.out.2] at hx
                   go_split_ands
                   go_simp
                   first | rfl | (with_reducible refine quiet.call (PL wx) ?_; exact fun _ hb => Gq.next hwx hb)
                 clear hK K
                 simp only [Act.put, List.setIfInBounds_toArray, List.set_cons_zero, List.set_cons_succ]))
            refine wpQuiet_nil ?_
            intro w6 hq6
            have G6 := Lib.hid hq6.row
            have W6 := Lib.hid (KW.out.next hq6.below)
            clear hq6
            have cj := G6.out.cell HM.out.1
            have cm := G6.out.cell HM.out.2.1
            rw [HX.out.1] at cj
            rw [HX.out.2] at cm
            have fz := G6.out.free
            have SW := Lib.hid (G6.out.swap HM.out.1 HM.out.2.1)
            have SP := Lib.hid ((swap_perm (xs := zs) (i := j) (j := m) (by rw [G6.out.len]; exact HM.out.1) (by rw [G6.out.len]; exact HM.out.2.1)).trans KP.out)
            have hmj : m ≠ j := HM.out.2.2.2
            have hjm2 : j ≠ m := fun e => hmj e.symm
            rw [HX.out.1, HX.out.2] at SW
            go_wp2
            go_region
            go_wp2
            go_roundw
            case rel => exact ⟨m, _, by go_num, HM.out.2.2.1, HM.out.2.1, SP.out, SW.out.drew, swap_went W6.out rfl _ _ _ _⟩
            case measure => simp [intOf]; omega
        · have hI5 : decide ((a : Int) < (j : Int)) = false := decide_eq_false (by omega)
          have hI6 : ¬ ((a : Int) < (j : Int)) := by omega
          have C0 : Gq wr wr B n zs := ⟨Below.refl _ _, hG⟩
          clear hp hG hW
          go_wp2
          refine quiet.region (C := fun wx => Gq wr wx B n zs) (C0.next ((Below.refl _ _).drew)) (by kernel_rfl) (by kernel_rfl) ?_
          repeat (first
            | go_big_quiet_skip
            | (go_big_quiet_want; go_big_quiet_op; go_big_quiet_on)
            | (refine BigFrame.wpQuiet_want (by rfl) (fun K hK => ?_)
               apply Exists.intro
               refine ⟨fun wx _ => ?_, hK _ ?_⟩
               · go_simp
                 rfl
               clear hK K
               simp only [Act.put, List.setIfInBounds_toArray, List.set_cons_zero, List.set_cons_succ]))
          refine wpQuiet_nil ?_
          intro w6 hq6
          have G6 := Lib.hid hq6.row
          have W6 := Lib.hid (KW.out.next hq6.below)
          clear hq6
          go_wp2
          exact ⟨⟨i + 1, zs, by go_num, by have := HIA.out; omega, by have := hin.out; omega, KP.out, G6.out, W6.out⟩, by simp [intOf]; omega⟩
    · go_wp2
      go_returns
      exact ⟨rfl, ys, HP.out, HG.out, HW.out⟩
end Go.Proofs.YtmpilokgbblonaaGreat.lin
/- Three of the library's functions that a sort calls (bits.Len, nextPowerOfTwo, xorshift's Next), laid at this seat's numbers by program: so what is proved of them once holds here. -/
namespace Go.Proofs
open Go.Shelf
def Tryz.laysLen_ren : Go.Shelf.Ren := ⟨fun | 125 => 104 | 128 => 114 | 129 => 115 | n => n, fun | 46 => 157 | 3 => 3 | 51 => 78 | 53 => 173 | 4 => 4 | 5 => 5 | 9 => 9 | n => n, fun | n => n⟩
theorem Tryz.laysLen : Go.Proofs.Lays.n125 Tryz.prog Tryz.laysLen_ren := {
  mixed := by kernel_rfl
  f125 := Tryz.func104.trans (congrArg some (by kernel_rfl))
  f128 := Tryz.func114.trans (congrArg some (by kernel_rfl))
  f129 := Tryz.func115.trans (congrArg some (by kernel_rfl))
  t3 := Tryz.underlying3
  a3 := Tryz.isAgg3
  z3 := Tryz.sizeOf3
  v3 := Tryz.zeroValue3
  t4 := Tryz.underlying4
  a4 := Tryz.isAgg4
  z4 := Tryz.sizeOf4
  v4 := Tryz.zeroValue4
  t5 := Tryz.underlying5
  a5 := Tryz.isAgg5
  z5 := Tryz.sizeOf5
  v5 := Tryz.zeroValue5
  t9 := Tryz.underlying9
  a9 := Tryz.isAgg9
  z9 := Tryz.sizeOf9
  v9 := Tryz.zeroValue9
  t46 := Tryz.underlying157
  a46 := Tryz.isAgg157
  z46 := Tryz.sizeOf157
  v46 := Tryz.zeroValue157
  t51 := Tryz.underlying78
  a51 := Tryz.isAgg78
  z51 := Tryz.sizeOf78
  v51 := Tryz.zeroValue78
  t53 := Tryz.underlying173
  a53 := Tryz.isAgg173
  z53 := Tryz.sizeOf173
  v53 := Tryz.zeroValue173 }
def Tryz.laysPow_ren : Go.Shelf.Ren := ⟨fun | 47 => 117 | 15 => 104 | 28 => 114 | 29 => 115 | n => n, fun | 3 => 3 | 39 => 157 | 53 => 78 | 55 => 173 | 4 => 4 | 5 => 5 | 9 => 9 | n => n, fun | n => n⟩
theorem Tryz.laysPow : Go.Proofs.SlLaysF0.n47 Tryz.prog Tryz.laysPow_ren := {
  mixed := by kernel_rfl
  f15 := Tryz.func104.trans (congrArg some (by kernel_rfl))
  f28 := Tryz.func114.trans (congrArg some (by kernel_rfl))
  f29 := Tryz.func115.trans (congrArg some (by kernel_rfl))
  f47 := Tryz.func117.trans (congrArg some (by kernel_rfl))
  t3 := Tryz.underlying3
  a3 := Tryz.isAgg3
  z3 := Tryz.sizeOf3
  v3 := Tryz.zeroValue3
  t4 := Tryz.underlying4
  a4 := Tryz.isAgg4
  z4 := Tryz.sizeOf4
  v4 := Tryz.zeroValue4
  t5 := Tryz.underlying5
  a5 := Tryz.isAgg5
  z5 := Tryz.sizeOf5
  v5 := Tryz.zeroValue5
  t9 := Tryz.underlying9
  a9 := Tryz.isAgg9
  z9 := Tryz.sizeOf9
  v9 := Tryz.zeroValue9
  t39 := Tryz.underlying157
  a39 := Tryz.isAgg157
  z39 := Tryz.sizeOf157
  v39 := Tryz.zeroValue157
  t53 := Tryz.underlying78
  a53 := Tryz.isAgg78
  z53 := Tryz.sizeOf78
  v53 := Tryz.zeroValue78
  t55 := Tryz.underlying173
  a55 := Tryz.isAgg173
  z55 := Tryz.sizeOf173
  v55 := Tryz.zeroValue173 }
def Tryz.laysNext_ren : Go.Shelf.Ren := ⟨fun | 48 => 118 | n => n, fun | 76 => 180 | 55 => 173 | 0 => 0 | 66 => 174 | 39 => 157 | n => n, fun | n => n⟩
theorem Tryz.laysNext : Go.Proofs.SlLaysF0.n48 Tryz.prog Tryz.laysNext_ren := {
  mixed := by kernel_rfl
  f48 := Tryz.func118.trans (congrArg some (by kernel_rfl))
  t0 := Tryz.underlying0
  a0 := Tryz.isAgg0
  z0 := Tryz.sizeOf0
  v0 := Tryz.zeroValue0
  t39 := Tryz.underlying157
  a39 := Tryz.isAgg157
  z39 := Tryz.sizeOf157
  v39 := Tryz.zeroValue157
  t55 := Tryz.underlying173
  a55 := Tryz.isAgg173
  z55 := Tryz.sizeOf173
  v55 := Tryz.zeroValue173
  t66 := Tryz.underlying174
  a66 := Tryz.isAgg174
  z66 := Tryz.sizeOf174
  v66 := Tryz.zeroValue174
  t76 := Tryz.underlying180
  a76 := Tryz.isAgg180
  z76 := Tryz.sizeOf180
  v76 := Tryz.zeroValue180 }
end Go.Proofs
/- Up to twelve groups are put in order by insertion; none are left as they are. All that comes, collected, then put in order. -/
namespace Go.Proofs.YtmpilokgbblonaaGreat.lin
open Go.RowKit Go.Maps Go.Shelf
open hist (past new_block Went)

theorem len_bits (w : World) (n : Nat) (hn : n ≤ 1000000000) : Calls Tryz.prog 104 #[.int .u64 (n : Int)] w fun e w' => ∃ k : Nat, e = .returned (.int .i64 (k : Int)) ∧ w' = w :=
  (Any.bits_Len Tryz.laysLen (n : Int) w (by omega) (by omega)).mono fun e w' ⟨h1, h2⟩ => ⟨_, h1, h2⟩
theorem insertion_nil (w : World) : Calls Tryz.prog 105 #[.slice none 0 0, .int .i64 0, .int .i64 0] w fun e w' => e = .returned (.tuple #[]) ∧ w' = w := by
  go_enter Tryz.func105, Tryz.ntmps105
  go_wp2
  go_rounds 1
  go_returns
  first | exact ⟨rfl, rfl⟩ | rfl
theorem pdq_nil (w : World) (k : Nat) : Calls Tryz.prog 103 #[.slice none 0 0, .int .i64 0, .int .i64 0, .int .i64 (k : Int)] w fun e w' => e = .returned (.tuple #[]) ∧ w' = w := by
  go_enter Tryz.func103, Tryz.ntmps103
  go_wp2
  refine wp_loop_rounds 1 ?_
  rw [rounds_succ]
  go_wp2_with (go_at_call 105; go_loud (refine (insertion_nil w).mono ?_; rintro e w1 ⟨rfl, hw⟩; subst hw))
  go_returns
  first | exact ⟨rfl, rfl⟩ | rfl
theorem sort_nil (w : World) : Calls Tryz.prog 99 #[.slice none 0 0] w fun e w' => e = .returned (.tuple #[]) ∧ w' = w := by
  go_enter Tryz.func99, Tryz.ntmps99
  go_wp2_with (first
    | (go_at_call 103; go_loud (refine (pdq_nil _ k1).mono ?_; rintro e w2 ⟨rfl, hw⟩; subst hw))
    | (go_at_call 104; go_loud (refine (len_bits _ 0 (by omega)).mono ?_; rintro e w1 ⟨k1, rfl, hw⟩; subst hw)))
  go_returns
  first | exact ⟨rfl, rfl⟩ | rfl
set_option maxRecDepth 100000 in
set_option maxHeartbeats 4000000 in
theorem pdq_small (w : World) (B n c : Nat) (xs : List Nat) (h : GRow w B n xs) (hn : n ≤ 12) (k : Nat) :
    Calls Tryz.prog 103 #[.slice (some ⟨B, 0, none⟩) n c, .int .i64 0, .int .i64 (n : Int), .int .i64 (k : Int)] w fun e w' => e = .returned (.tuple #[]) ∧ Sorts w B n xs w' := by
  have H := Lib.hid h
  have hn0 : (n : Int) ≤ 12 := by omega
  clear h
  go_enter Tryz.func103, Tryz.ntmps103
  go_wp2
  refine wp_loop_rounds 1 ?_
  rw [rounds_succ]
  go_wp2_with (go_at_call 105; go_loud (refine (insertion_any w B n c 0 n xs H.out (Nat.le_refl _) (Nat.zero_le _)).mono ?_; rintro e w1 ⟨rfl, hs⟩; have S1 := Lib.hid hs; clear hs))
  go_returns
  exact ⟨rfl, S1.out⟩
theorem sort_small : SortsOK 12 := by
  intro w B n c xs h hn
  have H := Lib.hid h
  have HN := Lib.hid hn
  have hn0 : (n : Int) ≤ 12 := by omega
  clear h hn
  go_enter Tryz.func99, Tryz.ntmps99
  go_wp2_with (first
    | (go_at_call 103; go_loud (refine (pdq_small _ B n c xs H.out HN.out k1).mono ?_; rintro e w2 ⟨rfl, hs⟩; have S2 := Lib.hid hs; clear hs))
    | (go_at_call 104; go_loud (refine (len_bits _ n (by have := HN.out; omega)).mono ?_; rintro e w1 ⟨k1, rfl, hw⟩; subst hw)))
  go_returns
  exact ⟨rfl, S2.out⟩
end Go.Proofs.YtmpilokgbblonaaGreat.lin
