/- Two layouts compare as equal just if their fields are the same; so do two actions. -/
import Derived.Test.YtnphnhafifaaoaaM1
import Derived.DeepKeys
import Derived.Test.YtnphnhafifaaoaaM2
import Derived.Deep.AppendSrc
import Derived.BigQuiet
import Derived.Deep.QuietTactic
import Derived.Deep.RegionWith
import Derived.Test.YtnphnhafifaaoaaQuiet
namespace Go.Proofs.Ytnphnhafifaaoaa.mem
open Go.RowKit
theorem eqi (n : Nat) (x y : Int) (w : World) : (Op.equalIn (n + 1) 3 (.int .i64 x) (.int .i64 y)).run Try.prog w = .ok (x == y) w := by
  simp [Op.equalIn, run_underlying Try.underlying3]
theorem equ (n : Nat) (x y : Int) (w : World) : (Op.equalIn (n + 1) 25 (.int .u64 x) (.int .u64 y)).run Try.prog w = .ok (x == y) w := by
  simp [Op.equalIn, run_underlying Try.underlying25]
theorem eqb (n : Nat) (x y : Bool) (w : World) : (Op.equalIn (n + 1) 4 (.bool x) (.bool y)).run Try.prog w = .ok (x == y) w := by
  simp [Op.equalIn, run_underlying Try.underlying4]
theorem eq_lay_at (d : Nat) (t n t' n' : Int) (w : World) : (Op.equalIn (d + 1 + 1) 28 (.agg #[.int .i64 t, .int .i64 n]) (.agg #[.int .i64 t', .int .i64 n'])).run Try.prog w = .ok (t == t' && n == n') w := by
  have hs : Try.prog.stoodInHeld 28 = false := by kernel_rfl
  unfold Op.equalIn
  simp only [Sem.run_bind, run_underlying Try.underlying28, Result.andThen_ok]
  simp [go_sem, hs, eqi]
  by_cases h1 : t = t' <;> by_cases h2 : n = n' <;> simp [*]
/-- As the walk asks it. -/
theorem eq_lay (t n t' n' : Int) (w : World) : (Op.equalIn 10000 28 (.agg #[.int .i64 t, .int .i64 n]) (.agg #[.int .i64 t', .int .i64 n'])).run Try.prog w = .ok (t == t' && n == n') w := eq_lay_at 9998 t n t' n' w
theorem eq_act_at (d : Nat) (k a o n k' a' o' n' : Int) (b b' : Bool) (w : World) : (Op.equalIn (d + 1 + 1) 63 (.agg #[.int .i64 k, .int .i64 a, .int .u64 o, .int .u64 n, .bool b]) (.agg #[.int .i64 k', .int .i64 a', .int .u64 o', .int .u64 n', .bool b'])).run Try.prog w = .ok (k == k' && (a == a' && (o == o' && (n == n' && b == b')))) w := by
  have hs : Try.prog.stoodInHeld 63 = false := by kernel_rfl
  unfold Op.equalIn
  simp only [Sem.run_bind, run_underlying Try.underlying63, Result.andThen_ok]
  simp [go_sem, hs, eqi, equ, eqb]
  by_cases h1 : k = k' <;> by_cases h2 : a = a' <;> by_cases h3 : o = o' <;> by_cases h4 : n = n' <;> by_cases h5 : b = b' <;> simp [*]
theorem eq_act (k a o n k' a' o' n' : Int) (b b' : Bool) (w : World) : (Op.equalIn 10000 63 (.agg #[.int .i64 k, .int .i64 a, .int .u64 o, .int .u64 n, .bool b]) (.agg #[.int .i64 k', .int .i64 a', .int .u64 o', .int .u64 n', .bool b'])).run Try.prog w = .ok (k == k' && (a == a' && (o == o' && (n == n' && b == b')))) w := eq_act_at 9998 k a o n k' a' o' n' b b' w
end Go.Proofs.Ytnphnhafifaaoaa.mem
/- slices.Clone and slices.Equal of words; a memory's copy; whether two memories are the same. -/
namespace Go.Proofs.Ytnphnhafifaaoaa.mem
open Go.RowKit

/-- A row of words of the call's own. -/
structure RowAt (w : World) (Y : Nat) (zs : List Int) : Prop where
  body : ∃ ex, w.heap[Y]? = some (.cells (wordCells zs ++ ex) 25 (0, 0))
theorem RowAt.lt {w : World} {Y : Nat} {zs : List Int} (h : RowAt w Y zs) : Y < w.heap.size := by
  obtain ⟨c, h⟩ := h.body
  exact (Array.getElem?_eq_some_iff.1 h).1
theorem RowAt.below {w w' : World} {Y : Nat} {zs : List Int} (h : RowAt w Y zs) (hb : Below w.heap.size w w') : RowAt w' Y zs := ⟨by rw [hb.block Y h.lt]; exact h.body⟩
theorem RowAt.word {w : World} {Y : Nat} {zs : List Int} (h : RowAt w Y zs) {a : Nat} (ha : a < zs.length) : w.cell? ⟨Y, a, none⟩ = some (.int .u64 (zs.getD a 0)) := by
  obtain ⟨ex, hb⟩ := h.body
  rw [Joins.cell_of_block hb, Array.getElem?_append_left (by simpa [wordCells] using ha)]
  exact wordCells_get zs a ha

theorem RowAt.news {w : World} {Y : Nat} {zs : List Int} (h : RowAt w Y zs) : ∀ j v, (zs.map (Value.int .u64))[j]? = some v → w.cell? ((⟨Y, 0, none⟩ : Addr).add j) = some v := by
  intro j v hj
  rw [List.getElem?_map] at hj
  obtain ⟨x, hx, rfl⟩ := Option.map_eq_some_iff.1 hj
  obtain ⟨hlt, hxe⟩ := List.getElem?_eq_some_iff.1 hx
  rw [Addr.add_lit, Nat.zero_add, h.word hlt, List.getD_eq_getElem?_getD, hx]
  rfl
theorem words_one_cell (zs : List Int) : ∀ u ∈ zs.map (Value.int .u64), u.oneCell' = true := by
  intro v hv
  obtain ⟨x, _, rfl⟩ := List.mem_map.1 hv
  rfl
/-- What owns words is a row of them. -/
theorem row_of_owns {w : World} {base z : Nat} {v : Value} {zs : List Int} (hz : 0 < z) (h : w.ownsRow base 25 1 v z (zs.map (Value.int .u64))) :
    ∃ Y c, v = .slice (some ⟨Y, 0, none⟩) z c ∧ base ≤ Y ∧ RowAt w Y zs := by
  obtain ⟨hl, h | ⟨g, cap, cur, rfl, hb, hg, hn, hc, hs, ht⟩⟩ := h
  · omega
  · refine ⟨g, cap, rfl, hb, ⟨⟨(cur.toList.drop (z * 1)).toArray, ?_⟩⟩⟩
    rw [hg]
    congr 2
    unfold wordCells
    rw [← ht]
    apply Array.ext'
    simp

/-- A row was copied. -/
structure ClonedAt (w : World) (zs : List Int) (Y : Nat) (w' : World) : Prop where
  row : RowAt w' Y zs
  below : Below w.heap.size w w'
  y : w.heap.size ≤ Y
def Cloned (w : World) (zs : List Int) (z : Nat) (e : Ending) (w' : World) : Prop := ∃ Y c, e = .returned (.slice (some ⟨Y, 0, none⟩) z c) ∧ ClonedAt w zs Y w'

set_option maxHeartbeats 400000 in
theorem clone_any (w : World) (Y z c : Nat) (zs : List Int) (hz : zs.length = z) (z0 : 0 < z) (z1 : z ≤ 1000) (h : RowAt w Y zs) :
    Calls Try.prog 29 #[.slice (some ⟨Y, 0, none⟩) z c] w (Cloned w zs z) := by
  have qT : ∀ (w : World) (a : Option Addr) (n c n' c' : Nat), (binOp .eql 24 (.slice a n c) (.slice none n' c')).run Try.prog w = .ok (.bool a.isNone) w := fun w a n c n' c' => Lib.run_eql_slice_nil w _ _ a n c n' c' Try.underlying24
  have H := Lib.hid h
  clear h
  go_enter Try.func29, Try.ntmps29
  obtain ⟨i0, hi, hz0, hz1, hz2⟩ := info_parts Tryinfo_u64
  have hown : (w.alloc (.cells #[] 25)).ownsRow w.heap.size 25 1 (.slice (some ⟨w.heap.size, 0, none⟩) 0 0) 0 [] := World.ownsRow_made w #[] 0 (Nat.le_refl _) (by unfold maxLen; omega) rfl
  have hmz : 0 + z ≤ maxLen := by unfold maxLen; omega
  go_wp2_with (at_builtin; refine wpList_append_own _ rfl (.tmp 5) (.tmp 6) 24 rfl w.heap.size 25 i0 (.int .u64 0) 1 8 Try.underlying24 hi hz0 hz1 hz2 rfl (by decide) _ 0 [] rfl hown ⟨Y, 0, none⟩ z c (zs.map (Value.int .u64)) rfl (by rw [List.length_map, hz]; omega) (RowAt.news (H.out.below ((Below.refl _ _).alloc (Nat.le_refl _) _))) (words_one_cell zs) hmz (by omega) (by simp) ?_; intro v' w1 hown' hgrow _; simp only [Nat.zero_add, List.nil_append] at hown'; obtain ⟨Y', c', rfl, hY, hrow⟩ := row_of_owns z0 hown'; have HR := Lib.hid hrow; clear hrow hown'; have HB := Lib.hid (Below.grown (((Below.refl w.heap.size w).alloc (Nat.le_refl _) (.cells #[] 25))) hgrow (by simp) (by intro k hk; obtain rfl : w.heap.size = k := Option.some.inj hk; exact Nat.le_refl _)); clear hgrow)
  go_returns
  exact ⟨Y', c', rfl, HR.out, HB.out, hY⟩

theorem take_next {zs ys : List Int} {k : Nat} (h : zs.take k = ys.take k) (hz : k < zs.length) (hy : k < ys.length) (he : zs.getD k 0 = ys.getD k 0) : zs.take (k + 1) = ys.take (k + 1) := by
  rw [List.take_succ_eq_append_getElem hz, List.take_succ_eq_append_getElem hy, h]
  rw [List.getD_eq_getElem?_getD, List.getD_eq_getElem?_getD, List.getElem?_eq_getElem hz, List.getElem?_eq_getElem hy] at he
  simp only [Option.getD_some] at he
  rw [he]
theorem below_draws (B : Nat) (w : World) (n : Nat) : Below B w (w.drewN n) := ⟨rfl, rfl, rfl, Nat.le_refl _, fun _ _ => rfl⟩
set_option maxHeartbeats 1000000 in
theorem equal_any (w : World) (Y1 Y2 z c1 c2 : Nat) (zs ys : List Int) (hz : zs.length = z) (hy : ys.length = z) (z1 : z ≤ 1000) (h : RowAt w Y1 zs) (g : RowAt w Y2 ys) :
    Calls Try.prog 37 #[.slice (some ⟨Y1, 0, none⟩) z c1, .slice (some ⟨Y2, 0, none⟩) z c2] w fun e w' => e = .returned (.bool (decide (zs = ys))) ∧ Below w.heap.size w w' := by
  have H := Lib.hid h
  have G := Lib.hid g
  have HZ := Lib.hid hz
  have HY := Lib.hid hy
  clear h g hz hy
  go_enter Try.func37, Try.ntmps37
  go_wp2
  go_loopw [13] (fun i wr => ∃ k : Nat, k ≤ z ∧ i = .int .i64 k ∧ Below w.heap.size w wr ∧ zs.take k = ys.take k) (fun i _ => z - (intOf i).toNat)
  case atStart => exact ⟨0, Nat.zero_le _, rfl, Below.refl _ _, rfl⟩
  case round =>
    obtain ⟨k, hk, rfl, hb, ht⟩ := hrel
    have HB := Lib.hid hb
    have HT := Lib.hid ht
    clear hb ht
    by_cases hlt : k < z
    · obtain ⟨x, hx⟩ : ∃ x, x = zs.getD k 0 := ⟨_, rfl⟩
      obtain ⟨y, hy⟩ : ∃ y, y = ys.getD k 0 := ⟨_, rfl⟩
      have c1 := (H.out.below HB.out).word (a := k) (by rw [HZ.out]; exact hlt)
      have c2 := (G.out.below HB.out).word (a := k) (by rw [HY.out]; exact hlt)
      rw [← hx] at c1
      rw [← hy] at c2
      have HX := Lib.hid hx
      have HV := Lib.hid hy
      clear hx hy
      have i0 : (0 : Int) ≤ (k : Int) := by omega
      have i1 : (k : Int) < (z : Int) := by omega
      by_cases he : x = y
      · have hq : (x != y) = false := by simp [he]
        have HE := Lib.hid he
        clear he
        go_wp2
        go_quiet (fail)
        go_wp2
        go_roundw
        case rel => exact ⟨k + 1, by omega, by go_num, HB.out.trans (below_draws _ _ _), take_next HT.out (by rw [HZ.out]; exact hlt) (by rw [HY.out]; exact hlt) (by rw [← HX.out, ← HV.out]; exact HE.out)⟩
        case measure => simp [intOf]; omega
      · have hq : (x != y) = true := by simpa using he
        have HE := Lib.hid he
        clear he
        go_wp2
        go_quiet (fail)
        go_wp2
        go_returns
        exact ⟨ret_bool (by symm; apply decide_eq_false; intro h; apply HE.out; rw [HX.out, HV.out, h]), HB.out.trans (below_draws _ _ _)⟩
    · have hk : k = z := by omega
      subst hk
      go_wp2
      go_returns
      exact ⟨ret_bool (by symm; apply decide_eq_true; have h := HT.out; rwa [List.take_of_length_le (by rw [HZ.out]; omega), List.take_of_length_le (by rw [HY.out]; omega)] at h), HB.out⟩
end Go.Proofs.Ytnphnhafifaaoaa.mem
/- A memory's copy. -/
namespace Go.Proofs.Ytnphnhafifaaoaa.mem
open Go.RowKit
attribute [local go_sem] eq_lay eq_act

section
variable {w : World} {X Y : Nat} {t n k : Int} {zs : List Int} {l : Last}
theorem MemAt.rowAt (h : MemAt w X Y t n zs k l) : RowAt w Y zs := ⟨h.body⟩
theorem MemAt.cells {w' : World} (h : MemAt w X Y t n zs k l) (hb : Below w.heap.size w w') : ∃ c, Row9 w' X Y t n zs.length c k l := (h.below hb).row

/-- The layout's cells, behind a call. -/
theorem MemAt.lay {w' : World} (h : MemAt w X Y t n zs k l) (hb : Below w.heap.size w w') : w'.cell? ⟨X, 0, none⟩ = some (.int .i64 t) ∧ w'.cell? ⟨X, 1, none⟩ = some (.int .i64 n) := by
  obtain ⟨c, hr⟩ := (h.below hb).row
  exact ⟨hr.c0, hr.c1⟩
def Copied (w : World) (t n : Int) (zs : List Int) (e : Ending) (w' : World) : Prop := ∃ X Y, e = .returned (.pointer (some ⟨X, 0, .none⟩)) ∧ MadeAt w t n zs X Y w'

theorem made_copy {w1 : World} {Y' c z : Nat} (hc : ClonedAt w.drew zs Y' w1) (hz : zs.length = z) : MadeAt w t n zs w1.heap.size Y' (w1.alloc (.cells (headCells t n Y' z c 0 Last.no) 68)) := by
  have hlt := hc.row.lt
  have hs := hc.below.size
  have hy := hc.y
  simp at hs hy
  subst hz
  refine ⟨⟨⟨c, new_block _ _ _ rfl⟩, (hc.row.below ((Below.refl _ _).alloc (Nat.le_refl _) _)).body, by omega⟩, ?_, hs, hy⟩
  exact (((Below.refl _ _).drew).trans hc.below).alloc hs _

set_option maxHeartbeats 1000000 in
theorem copy_nil (w : World) :
    Calls Try.prog 11 #[.pointer none] w fun e w' => e = .returned (.pointer none) ∧ w = w' := by
  go_enter Try.func11, Try.ntmps11
  go_wp2
  go_returns
  exact ⟨rfl, rfl⟩
set_option maxHeartbeats 2000000 in
theorem copy_any (hm : MemAt w X Y t n zs k l) (z : Nat) (hz : zs.length = z) (z0 : 0 < z) (z1 : z ≤ 1000) :
    Calls Try.prog 11 #[.pointer (some ⟨X, 0, none⟩)] w (Copied w t n zs) := by
  obtain ⟨c, hr⟩ := hm.row
  rw [hz] at hr
  obtain ⟨c0, c1, c2, _, _, _, _, _, _, fx, fy, hx, hy, ne, en⟩ := hr
  have HM := Lib.hid hm
  have HZ := Lib.hid hz
  clear hm hz
  go_enter Try.func11, Try.ntmps11
  go_wp2
  go_region_with (go_at_call 29; refine (clone_any _ Y z c zs HZ.out z0 z1 HM.out.drew.rowAt).mono ?_; rintro e w1 ⟨Y', c', rfl, hc⟩; have HC := Lib.hid hc; clear hc; obtain ⟨d0, d1⟩ := HM.out.drew.lay HC.out.below)
  all_goals
    go_wp2
    go_returns
    exact ⟨_, _, rfl, made_copy HC.out HZ.out⟩

end
end Go.Proofs.Ytnphnhafifaaoaa.mem
/- Whether two memories are the same. -/
namespace Go.Proofs.Ytnphnhafifaaoaa.mem
open Go.RowKit
attribute [local go_sem] eq_lay eq_act

section
variable {w : World} {X Y : Nat} {t n k : Int} {zs : List Int} {l : Last}
theorem same_nil (w : World) :
    Calls Try.prog 20 #[.pointer none, .pointer none] w fun e w' => e = .returned (.bool true) ∧ w = w' := by
  go_enter Try.func20, Try.ntmps20
  go_wp2
  go_returns
  exact ⟨rfl, rfl⟩
theorem same_nil_some (w : World) (X : Nat) :
    Calls Try.prog 20 #[.pointer none, .pointer (some ⟨X, 0, none⟩)] w fun e w' => e = .returned (.bool false) ∧ w = w' := by
  have q : ∀ (w : World), (binOp .eql 26 (.pointer none) (.pointer (some ⟨X, 0, none⟩))).run Try.prog w = .ok (.bool false) w := fun w => by kernel_rfl
  go_enter Try.func20, Try.ntmps20
  go_wp2
  go_returns
  exact ⟨rfl, rfl⟩

variable {X2 Y2 : Nat} {k2 : Int} {ys : List Int} {l2 : Last}
set_option maxHeartbeats 2000000 in
/-- Memories of one layout are the same just if all words are. -/
theorem same_words (hm : MemAt w X Y t n zs k l) (hx : MemAt w X2 Y2 t n ys k2 l2) (z : Nat) (hz : zs.length = z) (hy : ys.length = z) (z1 : z ≤ 1000) :
    Calls Try.prog 20 #[.pointer (some ⟨X, 0, none⟩), .pointer (some ⟨X2, 0, none⟩)] w fun e w' => e = .returned (.bool (decide (zs = ys))) ∧ Below w.heap.size w w' := by
  obtain ⟨c, hr⟩ := hm.row
  rw [hz] at hr
  obtain ⟨c0, c1, c2, _, _, _, _, _, _, fx, fy, hx1, hy1, ne, en⟩ := hr
  obtain ⟨d, hs⟩ := hx.row
  rw [hy] at hs
  obtain ⟨d0, d1, d2, _, _, _, _, _, _, gx, gy, hx2, hy2, ne2, en2⟩ := hs
  have HM := Lib.hid hm
  have HX := Lib.hid hx
  have HZ := Lib.hid hz
  have HY := Lib.hid hy
  clear hm hx hz hy
  go_enter Try.func20, Try.ntmps20
  go_wp2
  refine quiet.region (C := fun wx => Below w.heap.size w wx) ((Below.refl _ _).drew) (by kernel_rfl) (by kernel_rfl) ?_
  repeat (first
    | go_big_quiet_skip
    | (go_big_quiet_want; go_big_quiet_op; go_big_quiet_on)
    | (refine BigFrame.wpQuiet_want (by rfl) (fun K hK => ?_)
       apply Exists.intro
       refine ⟨fun wx hwx => ?_, hK _ ?_⟩
       · have e0 := (hwx.cell (p := ⟨X, 0, none⟩) hx1).trans c0
         have e1 := (hwx.cell (p := ⟨X, 1, none⟩) hx1).trans c1
         have e2 := (hwx.cell (p := ⟨X, 2, none⟩) hx1).trans c2
         have f0 := (hwx.cell (p := ⟨X2, 0, none⟩) hx2).trans d0
         have f1 := (hwx.cell (p := ⟨X2, 1, none⟩) hx2).trans d1
         have f2 := (hwx.cell (p := ⟨X2, 2, none⟩) hx2).trans d2
         have HW := Lib.hid hwx
         clear hwx
         go_simp
         first | exact ⟨rfl, HW.out⟩ | exact ⟨HW.out, rfl⟩ | exact HW.out | rfl | exact quiet.call (equal_any _ Y Y2 z c d zs ys HZ.out HY.out z1 (HM.out.below HW.out).rowAt (HX.out.below HW.out).rowAt) (fun _ hb => past HW.out hb)
       clear hK K
       simp only [Act.put, List.setIfInBounds_toArray, List.set_cons_zero, List.set_cons_succ]))
  refine wpQuiet_nil ?_
  intro w6 hq6
  have H6 := Lib.hid hq6
  clear hq6
  go_wp2
  go_returns
  exact ⟨rfl, H6.out⟩
end

set_option maxHeartbeats 2000000 in
/-- Of unlike layouts they aren't. -/
theorem same_other {w : World} {X Y X2 Y2 : Nat} {k k2 : Int} {zs ys : List Int} {l l2 : Last} (hm : MemAt w X Y 2 20 zs k l) (hx : MemAt w X2 Y2 2 21 ys k2 l2) :
    Calls Try.prog 20 #[.pointer (some ⟨X, 0, none⟩), .pointer (some ⟨X2, 0, none⟩)] w fun e w' => e = .returned (.bool false) ∧ Below w.heap.size w w' := by
  obtain ⟨c, hr⟩ := hm.row
  obtain ⟨c0, c1, c2, _, _, _, _, _, _, fx, fy, hx1, hy1, ne, en⟩ := hr
  obtain ⟨d, hs⟩ := hx.row
  obtain ⟨d0, d1, d2, _, _, _, _, _, _, gx, gy, hx2, hy2, ne2, en2⟩ := hs
  clear hm hx
  go_enter Try.func20, Try.ntmps20
  go_wp2
  refine quiet.region (C := fun wx => Below w.heap.size w wx) ((Below.refl _ _).drew) (by kernel_rfl) (by kernel_rfl) ?_
  repeat (first
    | go_big_quiet_skip
    | (go_big_quiet_want; go_big_quiet_op; go_big_quiet_on)
    | (refine BigFrame.wpQuiet_want (by rfl) (fun K hK => ?_)
       apply Exists.intro
       refine ⟨fun wx hwx => ?_, hK _ ?_⟩
       · have e0 := (hwx.cell (p := ⟨X, 0, none⟩) hx1).trans c0
         have e1 := (hwx.cell (p := ⟨X, 1, none⟩) hx1).trans c1
         have e2 := (hwx.cell (p := ⟨X, 2, none⟩) hx1).trans c2
         have f0 := (hwx.cell (p := ⟨X2, 0, none⟩) hx2).trans d0
         have f1 := (hwx.cell (p := ⟨X2, 1, none⟩) hx2).trans d1
         have f2 := (hwx.cell (p := ⟨X2, 2, none⟩) hx2).trans d2
         have HW := Lib.hid hwx
         clear hwx
         go_simp
         first | exact ⟨rfl, HW.out⟩ | exact ⟨HW.out, rfl⟩ | exact HW.out | rfl
       clear hK K
       simp only [Act.put, List.setIfInBounds_toArray, List.set_cons_zero, List.set_cons_succ]))
  refine wpQuiet_nil ?_
  intro w6 hq6
  have H6 := Lib.hid hq6
  clear hq6
  go_wp2
  go_returns
  exact ⟨rfl, H6.out⟩
end Go.Proofs.Ytnphnhafifaaoaa.mem
