/- slices.Clone and slices.Equal of words; a memory's copy; whether two memories are the same. -/
import Derived.Test.YtglkpajnhdamkaaMSit
import Derived.Deep.AppendSrc
import Derived.BigQuiet
import Derived.Deep.QuietTactic
namespace Go.Proofs.Ytglkpajnhdamkaa.mem
open Go.RowKit

/-- A row of words of the call's own. -/
structure RowAt (w : World) (Y : Nat) (zs : List Int) : Prop where
  body : ∃ ex, w.heap[Y]? = some (.cells (wordCells zs ++ ex) 30 (0, 0))
theorem RowAt.lt {w : World} {Y : Nat} {zs : List Int} (h : RowAt w Y zs) : Y < w.heap.size := by
  obtain ⟨c, h⟩ := h.body
  exact (Array.getElem?_eq_some_iff.1 h).1
theorem RowAt.below {w w' : World} {Y : Nat} {zs : List Int} (h : RowAt w Y zs) (hb : Below w.heap.size w w') : RowAt w' Y zs := ⟨by rw [hb.block Y h.lt]; exact h.body⟩
theorem RowAt.word {w : World} {Y : Nat} {zs : List Int} (h : RowAt w Y zs) {a : Nat} (ha : a < zs.length) : w.cell? ⟨Y, a, none⟩ = some (.int .u64 (zs.getD a 0)) := by
  obtain ⟨ex, hb⟩ := h.body
  rw [Joins.cell_of_block hb, Array.getElem?_append_left (by simpa [wordCells] using ha)]
  exact wordCells_get zs a ha

theorem RowAt.news {w : World} {Y : Nat} {zs : List Int} (h : RowAt w Y zs) : ∀ j v, (zs.map (Value.int .u64))[j]? = some v → w.cell? ((⟨Y, 0, none⟩ : Addr).add j) = some v := by
  intro j v hj
  rw [List.getElem?_map] at hj
  obtain ⟨x, hx, rfl⟩ := Option.map_eq_some_iff.1 hj
  obtain ⟨hlt, hxe⟩ := List.getElem?_eq_some_iff.1 hx
  rw [Addr.add_lit, Nat.zero_add, h.word hlt, List.getD_eq_getElem?_getD, hx]
  rfl
theorem words_one_cell (zs : List Int) : ∀ u ∈ zs.map (Value.int .u64), u.oneCell' = true := by
  intro v hv
  obtain ⟨x, _, rfl⟩ := List.mem_map.1 hv
  rfl
/-- What owns words is a row of them. -/
theorem row_of_owns {w : World} {base z : Nat} {v : Value} {zs : List Int} (hz : 0 < z) (h : w.ownsRow base 30 1 v z (zs.map (Value.int .u64))) :
    ∃ Y c, v = .slice (some ⟨Y, 0, none⟩) z c ∧ base ≤ Y ∧ RowAt w Y zs := by
  obtain ⟨hl, h | ⟨g, cap, cur, rfl, hb, hg, hn, hc, hs, ht⟩⟩ := h
  · omega
  · refine ⟨g, cap, rfl, hb, ⟨⟨(cur.toList.drop (z * 1)).toArray, ?_⟩⟩⟩
    rw [hg]
    congr 2
    unfold wordCells
    rw [← ht]
    apply Array.ext'
    simp

/-- A row was copied. -/
structure ClonedAt (w : World) (zs : List Int) (Y : Nat) (w' : World) : Prop where
  row : RowAt w' Y zs
  below : Below w.heap.size w w'
  y : w.heap.size ≤ Y
def Cloned (w : World) (zs : List Int) (z : Nat) (e : Ending) (w' : World) : Prop := ∃ Y c, e = .returned (.slice (some ⟨Y, 0, none⟩) z c) ∧ ClonedAt w zs Y w'

set_option maxHeartbeats 400000 in
theorem clone_any (w : World) (Y z c : Nat) (zs : List Int) (hz : zs.length = z) (z0 : 0 < z) (z1 : z ≤ 1000) (h : RowAt w Y zs) :
    Calls Try.prog 24 #[.slice (some ⟨Y, 0, none⟩) z c] w (Cloned w zs z) := by
  have qT : ∀ (w : World) (a : Option Addr) (n c n' c' : Nat), (binOp .eql 22 (.slice a n c) (.slice none n' c')).run Try.prog w = .ok (.bool a.isNone) w := fun w a n c n' c' => Lib.run_eql_slice_nil w _ _ a n c n' c' Try.underlying22
  have H := Lib.hid h
  clear h
  go_enter Try.func24, Try.ntmps24
  obtain ⟨i0, hi, hz0, hz1, hz2⟩ := info_parts Tryinfo_u64
  have hown : (w.alloc (.cells #[] 30)).ownsRow w.heap.size 30 1 (.slice (some ⟨w.heap.size, 0, none⟩) 0 0) 0 [] := World.ownsRow_made w #[] 0 (Nat.le_refl _) (by unfold maxLen; omega) rfl
  have hmz : 0 + z ≤ maxLen := by unfold maxLen; omega
  go_wp2_with (at_builtin; refine wpList_append_own _ rfl (.tmp 5) (.tmp 6) 22 rfl w.heap.size 30 i0 (.int .u64 0) 1 8 Try.underlying22 hi hz0 hz1 hz2 rfl (by decide) _ 0 [] rfl hown ⟨Y, 0, none⟩ z c (zs.map (Value.int .u64)) rfl (by rw [List.length_map, hz]; omega) (RowAt.news (H.out.below ((Below.refl _ _).alloc (Nat.le_refl _) _))) (words_one_cell zs) hmz (by omega) (by simp) ?_; intro v' w1 hown' hgrow _; simp only [Nat.zero_add, List.nil_append] at hown'; obtain ⟨Y', c', rfl, hY, hrow⟩ := row_of_owns z0 hown'; have HR := Lib.hid hrow; clear hrow hown'; have HB := Lib.hid (Below.grown (((Below.refl w.heap.size w).alloc (Nat.le_refl _) (.cells #[] 30))) hgrow (by simp) (by intro k hk; obtain rfl : w.heap.size = k := Option.some.inj hk; exact Nat.le_refl _)); clear hgrow)
  go_returns
  exact ⟨Y', c', rfl, HR.out, HB.out, hY⟩

theorem take_next {zs ys : List Int} {k : Nat} (h : zs.take k = ys.take k) (hz : k < zs.length) (hy : k < ys.length) (he : zs.getD k 0 = ys.getD k 0) : zs.take (k + 1) = ys.take (k + 1) := by
  rw [List.take_succ_eq_append_getElem hz, List.take_succ_eq_append_getElem hy, h]
  rw [List.getD_eq_getElem?_getD, List.getD_eq_getElem?_getD, List.getElem?_eq_getElem hz, List.getElem?_eq_getElem hy] at he
  simp only [Option.getD_some] at he
  rw [he]
theorem below_draws (B : Nat) (w : World) (n : Nat) : Below B w (w.drewN n) := ⟨rfl, rfl, rfl, Nat.le_refl _, fun _ _ => rfl⟩
set_option maxHeartbeats 1000000 in
theorem equal_any (w : World) (Y1 Y2 z c1 c2 : Nat) (zs ys : List Int) (hz : zs.length = z) (hy : ys.length = z) (z1 : z ≤ 1000) (h : RowAt w Y1 zs) (g : RowAt w Y2 ys) :
    Calls Try.prog 32 #[.slice (some ⟨Y1, 0, none⟩) z c1, .slice (some ⟨Y2, 0, none⟩) z c2] w fun e w' => e = .returned (.bool (decide (zs = ys))) ∧ Below w.heap.size w w' := by
  have H := Lib.hid h
  have G := Lib.hid g
  have HZ := Lib.hid hz
  have HY := Lib.hid hy
  clear h g hz hy
  go_enter Try.func32, Try.ntmps32
  go_wp2
  go_loopw [13] (fun i wr => ∃ k : Nat, k ≤ z ∧ i = .int .i64 k ∧ Below w.heap.size w wr ∧ zs.take k = ys.take k) (fun i _ => z - (intOf i).toNat)
  case atStart => exact ⟨0, Nat.zero_le _, rfl, Below.refl _ _, rfl⟩
  case round =>
    obtain ⟨k, hk, rfl, hb, ht⟩ := hrel
    have HB := Lib.hid hb
    have HT := Lib.hid ht
    clear hb ht
    by_cases hlt : k < z
    · obtain ⟨x, hx⟩ : ∃ x, x = zs.getD k 0 := ⟨_, rfl⟩
      obtain ⟨y, hy⟩ : ∃ y, y = ys.getD k 0 := ⟨_, rfl⟩
      have c1 := (H.out.below HB.out).word (a := k) (by rw [HZ.out]; exact hlt)
      have c2 := (G.out.below HB.out).word (a := k) (by rw [HY.out]; exact hlt)
      rw [← hx] at c1
      rw [← hy] at c2
      have HX := Lib.hid hx
      have HV := Lib.hid hy
      clear hx hy
      have i0 : (0 : Int) ≤ (k : Int) := by omega
      have i1 : (k : Int) < (z : Int) := by omega
      by_cases he : x = y
      · have hq : (x != y) = false := by simp [he]
        have HE := Lib.hid he
        clear he
        go_wp2
        go_quiet (fail)
        go_wp2
        go_roundw
        case rel => exact ⟨k + 1, by omega, by go_num, HB.out.trans (below_draws _ _ _), take_next HT.out (by rw [HZ.out]; exact hlt) (by rw [HY.out]; exact hlt) (by rw [← HX.out, ← HV.out]; exact HE.out)⟩
        case measure => simp [intOf]; omega
      · have hq : (x != y) = true := by simpa using he
        have HE := Lib.hid he
        clear he
        go_wp2
        go_quiet (fail)
        go_wp2
        go_returns
        exact ⟨ret_bool (by symm; apply decide_eq_false; intro h; apply HE.out; rw [HX.out, HV.out, h]), HB.out.trans (below_draws _ _ _)⟩
    · have hk : k = z := by omega
      subst hk
      go_wp2
      go_returns
      exact ⟨ret_bool (by symm; apply decide_eq_true; have h := HT.out; rwa [List.take_of_length_le (by rw [HZ.out]; omega), List.take_of_length_le (by rw [HY.out]; omega)] at h), HB.out⟩
end Go.Proofs.Ytglkpajnhdamkaa.mem
