/- How many items a meaning has; the item at a place; the place of a key. -/
import Derived.Test.YtehjlmolnmiopaaSpLib
import Derived.IntWalk
import Derived.Deep.QuietTactic
import Derived.BigQuiet
import Derived.LoopTactic
namespace Go.Proofs.Ytehjlmolnmiopaa.spec
open Go.RowKit task

theorem wrap_sum (a b : Nat) (h : a + b ≤ 1000) : IntKind.i64.wrap ((a : Int) + (b : Int)) = (a : Int) + (b : Int) := by rw [IntKind.wrap_i64]; omega

set_option maxHeartbeats 400000 in
theorem len_any (w : World) (X : Nat) (s : Int) (t : Parts) (h : Two w X s t) (hl : t.items.length ≤ 1000) :
    Calls Try.prog 14 #[.pointer (some ⟨X, 0, none⟩)] w fun e w' => e = .returned (.int .i64 (t.items.length : Nat)) ∧ ∃ n, w' = w.drewN n := by
  have c0 := h.c0
  have c1 := h.c1
  clear h
  obtain ⟨p, q, A, B, ca, cb, us, vs⟩ := t
  rw [Parts.items_len] at hl ⊢
  simp only at *
  have hs := wrap_sum us.length vs.length hl
  generalize us.length = a at *
  generalize vs.length = b at *
  go_enter Try.func14, Try.ntmps14
  go_wp2
  go_quiet (fail)
  go_wp2
  go_returns
  exact ⟨by simp, _, rfl⟩

set_option maxHeartbeats 1000000 in
theorem at_any (w : World) (X : Nat) (s : Int) (t : Parts) (h : Two w X s t) (hl : t.items.length ≤ 1000) (k : Nat) (z : Int) (hz : z = (k : Int)) (hk : k < t.items.length) :
    Calls Try.prog 35 #[.pointer (some ⟨X, 0, none⟩), .int .i64 z] w fun e w' => e = .returned (.int .i64 (t.items.getD k 0)) ∧ w = w' := by
  subst hz
  have c0 := h.c0
  have c1 := h.c1
  have ha := h.a
  have hb := h.b
  clear h
  obtain ⟨p, q, A, B, ca, cb, us, vs⟩ := t
  rw [Parts.items_len] at hl hk
  simp only at *
  by_cases hlt : k < us.length
  · have he : (⟨p, q, A, B, ca, cb, us, vs⟩ : Parts).items.getD k 0 = us.getD (us.length - 1 - k) 0 := by
      unfold Parts.items
      simp only [List.getD_eq_getElem?_getD]
      rw [List.getElem?_append_left (by simpa using hlt), List.getElem?_reverse hlt]
    rw [he]
    clear he
    obtain ⟨o, hA, hr⟩ := ha.row (by rintro rfl; simp at hlt)
    subst hA
    have hc := hr.cell (j := us.length - 1 - k) (by omega)
    clear hr ha hb
    generalize us.getD (us.length - 1 - k) 0 = x at *
    generalize us.length = a at *
    obtain ⟨m, rfl⟩ : ∃ m, a = k + 1 + m := ⟨a - (k + 1), by omega⟩
    have hm : k + 1 + m - 1 - k = m := by omega
    rw [hm] at hc
    clear hm
    have hi : ((k + 1 + m : Nat) : Int) - 1 - (k : Int) = (m : Int) := by omega
    have hlt2 : (k : Int) < ((k + 1 + m : Nat) : Int) := by omega
    have hm0 : (m : Int) < ((k + 1 + m : Nat) : Int) := by omega
    generalize ((k + 1 + m : Nat) : Int) = S at *
    go_enter Try.func35, Try.ntmps35
    go_wp2
    go_returns
    exact ⟨rfl, rfl⟩
  · have he : (⟨p, q, A, B, ca, cb, us, vs⟩ : Parts).items.getD k 0 = vs.getD (k - us.length) 0 := by
      unfold Parts.items
      simp only [List.getD_eq_getElem?_getD]
      rw [List.getElem?_append_right (by simp; omega), List.length_reverse]
    rw [he]
    clear he
    obtain ⟨o, hB, hr⟩ := hb.row (by rintro rfl; simp at hk; omega)
    subst hB
    have hc := hr.cell (j := k - us.length) (by omega)
    clear hr ha hb
    generalize vs.getD (k - us.length) 0 = x at *
    generalize us.length = a at *
    generalize vs.length = b at *
    obtain ⟨m, rfl⟩ : ∃ m, k = a + m := ⟨k - a, by omega⟩
    have hm : a + m - a = m := by omega
    rw [hm] at hc
    clear hm
    have hi : ((a + m : Nat) : Int) - (a : Int) = (m : Int) := by omega
    have hlt2 : ¬ ((a + m : Nat) : Int) < (a : Int) := by omega
    have hm0 : (m : Int) < (b : Int) := by omega
    generalize ((a + m : Nat) : Int) = S at *
    go_enter Try.func35, Try.ntmps35
    go_wp2
    go_returns
    exact ⟨rfl, rfl⟩

set_option maxHeartbeats 1000000 in
theorem first_none (w : World) (X : Nat) (s : Int) (t : Parts) (h : Two w X s t) (hl : t.items = []) :
    Calls Try.prog 19 #[.pointer (some ⟨X, 0, none⟩)] w fun e w' => e = .returned (.tuple #[.int .i64 0, .bool false]) ∧ ∃ n, w' = w.drewN n := by
  have H := Lib.hid h
  have HL := Lib.hid hl
  clear h hl
  go_enter Try.func19, Try.ntmps19
  go_wp2_with (go_at_call 14; refine (len_any _ X s t H.out (by rw [HL.out]; simp)).mono ?_; rw [HL.out]; rintro e w1 ⟨rfl, n, rfl⟩)
  go_returns
  exact ⟨rfl, n, rfl⟩
set_option maxHeartbeats 1000000 in
theorem first_some (w : World) (X : Nat) (s : Int) (t : Parts) (x : Int) (L : List Int) (h : Two w X s t) (hl : t.items = x :: L) (hn : t.items.length ≤ 1000) :
    Calls Try.prog 19 #[.pointer (some ⟨X, 0, none⟩)] w fun e w' => e = .returned (.tuple #[.int .i64 x, .bool true]) ∧ ∃ n, w' = w.drewN n := by
  have H := Lib.hid h
  have HL := Lib.hid hl
  have HN := Lib.hid hn
  have hp : ¬ ((t.items.length : Nat) : Int) = 0 := by rw [hl]; simp; omega
  have he : t.items.getD 0 0 = x := by rw [hl]; rfl
  have HE := Lib.hid he
  clear h hl hn he
  go_enter Try.func19, Try.ntmps19
  go_wp2_with (first
    | (go_at_call 14; refine (len_any _ X s t H.out HN.out).mono ?_; rintro e w1 ⟨rfl, n, rfl⟩)
    | (go_at_call 35; refine (at_any _ X s t (H.out.drewN n) HN.out 0 _ rfl (by rw [HL.out]; simp)).mono ?_; rw [HE.out]; rintro e w2 ⟨rfl, hw⟩; obtain rfl : w.drewN n = w2 := hw))
  go_returns
  exact ⟨rfl, n, rfl⟩

/-- What the search asks with: the key, and the meaning, each in a block. -/
structure Ask (w : World) (K P X : Nat) (y : Int) : Prop where
  key : w.cell? ⟨K, 0, none⟩ = some (.int .i64 y)
  ptr : w.cell? ⟨P, 0, none⟩ = some (.pointer (some ⟨X, 0, none⟩))
theorem Ask.drewN {w : World} {K P X : Nat} {y : Int} (h : Ask w K P X y) (n : Nat) : Ask (w.drewN n) K P X y := ⟨h.key, h.ptr⟩

set_option maxHeartbeats 1000000 in
theorem cmp_any (w : World) (K P X : Nat) (y s : Int) (t : Parts) (hq : Ask w K P X y) (h : Two w X s t) (hl : t.items.length ≤ 1000) (k : Nat) (z : Int) (hz : z = (k : Int)) (hk : k < t.items.length) :
    Calls Try.prog 41 #[.int .i64 z, .pointer (some ⟨K, 0, none⟩), .pointer (some ⟨P, 0, none⟩)] w fun e w' => e = .returned (.int .i64 (Lib.compareInt y (t.items.getD k 0))) ∧ ∃ n, w' = w.drewN n := by
  have H := Lib.hid h
  have HL := Lib.hid hl
  have HZ := Lib.hid hz
  have HK := Lib.hid hk
  have c0 := hq.key
  have c1 := hq.ptr
  clear h hl hq hz hk
  go_enter Try.func41, Try.ntmps41
  go_wp2
  go_quiet ((first
    | (go_at_call 35; refine Calls.quiet_of_same ((at_any _ X s t (H.out.drewN _) HL.out k _ HZ.out HK.out).mono fun e w' ⟨he, hw⟩ => ⟨he, hw.symm⟩))
    | (go_at_call 42; refine Calls.quiet_of_same (Any.cmp_Compare_int Try.laysCompare _ _ _))))
  go_wp2
  go_returns
  exact ⟨rfl, _, rfl⟩
end Go.Proofs.Ytehjlmolnmiopaa.spec
