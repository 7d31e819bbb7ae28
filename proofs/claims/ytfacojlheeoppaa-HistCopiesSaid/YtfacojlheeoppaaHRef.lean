/- The document's functions over events in a slice: who has one pending, what is wrong with an event; an event without what doesn't count. -/
import Derived.Test.YtfacojlheeoppaaHBase
namespace Go.Proofs.Ytfacojlheeoppaa.hist
open Go.RowKit

section
variable {w : World} {a : Option Addr}
/-- An event's cells, as a walk spells them. -/
theorem At.ev {L : List EvV} (h : At cells7 7 w a L) (i : Nat) (hi : i < L.length) : ∃ b, a = some b ∧ w.cell? (b.add (i * 7)) = some (.int .i64 L[i].T) ∧ w.cell? ⟨(b.add (i * 7)).block, (b.add (i * 7)).off + 1, none⟩ = some (.bool L[i].E)
    ∧ w.cell? ⟨(b.add (i * 7)).block, (b.add (i * 7)).off + 2, none⟩ = some (.int .i64 L[i].K) ∧ w.cell? ⟨(b.add (i * 7)).block, (b.add (i * 7)).off + 3, none⟩ = some (.int .i64 L[i].Y) ∧ w.cell? ⟨(b.add (i * 7)).block, (b.add (i * 7)).off + 4, none⟩ = some (.int .i64 L[i].C)
    ∧ w.cell? ⟨(b.add (i * 7)).block, (b.add (i * 7)).off + 5, none⟩ = some (.bool L[i].O) ∧ w.cell? ⟨(b.add (i * 7)).block, (b.add (i * 7)).off + 6, none⟩ = some (.int .i64 L[i].V) := by
  obtain ⟨b, hb, hc⟩ := h i hi
  exact ⟨b, hb, hc 0 _ rfl, hc 1 _ rfl, hc 2 _ rfl, hc 3 _ rfl, hc 4 _ rfl, hc 5 _ rfl, hc 6 _ rfl⟩
theorem At.cl {L : List ClV} (h : At cells8 8 w a L) (i : Nat) (hi : i < L.length) : ∃ b, a = some b ∧ w.cell? (b.add (i * 8)) = some (.int .i64 L[i].T) ∧ w.cell? ⟨(b.add (i * 8)).block, (b.add (i * 8)).off + 1, none⟩ = some (.int .i64 L[i].B)
    ∧ w.cell? ⟨(b.add (i * 8)).block, (b.add (i * 8)).off + 2, none⟩ = some (.int .i64 L[i].D) ∧ w.cell? ⟨(b.add (i * 8)).block, (b.add (i * 8)).off + 3, none⟩ = some (.int .i64 L[i].K) ∧ w.cell? ⟨(b.add (i * 8)).block, (b.add (i * 8)).off + 4, none⟩ = some (.int .i64 L[i].Y)
    ∧ w.cell? ⟨(b.add (i * 8)).block, (b.add (i * 8)).off + 5, none⟩ = some (.int .i64 L[i].C) ∧ w.cell? ⟨(b.add (i * 8)).block, (b.add (i * 8)).off + 6, none⟩ = some (.bool L[i].O) ∧ w.cell? ⟨(b.add (i * 8)).block, (b.add (i * 8)).off + 7, none⟩ = some (.int .i64 L[i].V) := by
  obtain ⟨b, hb, hc⟩ := h i hi
  exact ⟨b, hb, hc 0 _ rfl, hc 1 _ rfl, hc 2 _ rfl, hc 3 _ rfl, hc 4 _ rfl, hc 5 _ rfl, hc 6 _ rfl, hc 7 _ rfl⟩
theorem At.ca {L : List ClV} (h : At cells9 9 w a L) (i : Nat) (hi : i < L.length) : ∃ b, a = some b ∧ w.cell? (b.add (i * 9)) = some (.int .i64 L[i].B) ∧ w.cell? ⟨(b.add (i * 9)).block, (b.add (i * 9)).off + 1, none⟩ = some (.int .i64 L[i].D)
    ∧ w.cell? ⟨(b.add (i * 9)).block, (b.add (i * 9)).off + 2, none⟩ = some (.int .i64 (i : Int)) ∧ w.cell? ⟨(b.add (i * 9)).block, (b.add (i * 9)).off + 3, none⟩ = some (.int .i64 L[i].T) ∧ w.cell? ⟨(b.add (i * 9)).block, (b.add (i * 9)).off + 4, none⟩ = some (.int .i64 L[i].K)
    ∧ w.cell? ⟨(b.add (i * 9)).block, (b.add (i * 9)).off + 5, none⟩ = some (.int .i64 L[i].Y) ∧ w.cell? ⟨(b.add (i * 9)).block, (b.add (i * 9)).off + 6, none⟩ = some (.int .i64 L[i].C) ∧ w.cell? ⟨(b.add (i * 9)).block, (b.add (i * 9)).off + 7, none⟩ = some (.bool L[i].O) ∧ w.cell? ⟨(b.add (i * 9)).block, (b.add (i * 9)).off + 8, none⟩ = some (.int .i64 L[i].V) := by
  obtain ⟨b, hb, hc⟩ := h i hi
  exact ⟨b, hb, hc 0 _ rfl, hc 1 _ rfl, hc 2 _ rfl, hc 3 _ rfl, hc 4 _ rfl, hc 5 _ rfl, hc 6 _ rfl, hc 7 _ rfl, hc 8 _ rfl⟩
end

theorem pend_take {l : List EvV} {k : Nat} (hk : k < l.length) (t : Int) : pendE (l.take (k + 1)) t = if l[k].T = t then !l[k].E else pendE (l.take k) t := by
  rw [List.take_succ_eq_append_getElem hk, pend_snoc]

set_option maxHeartbeats 1000000 in
theorem pend_any (w : World) (a : Option Addr) (l : List EvV) (N cap : Nat) (hN : l.length = N) (hl : N ≤ 1000) (hx : At cells7 7 w a l) (t : Int) :
    Calls Try.prog 15 #[.slice a N cap, .int .i64 t] w fun e w' => e = .returned (.bool (pendE l t)) ∧ w = w' := by
  have HX := Lib.hid hx
  have HN := Lib.hid hN
  have hl0 : (N : Int) ≤ 1000 := by omega
  clear hx hN
  go_enter Try.func15, Try.ntmps15
  go_wp2
  go_loop [5] (fun i => ∃ k : Nat, k ≤ N ∧ i = .int .i64 ((k : Int) - 1) ∧ pendE l t = pendE (l.take k) t) (fun i => (intOf i + 1).toNat)
  case atStart => exact ⟨N, Nat.le_refl _, rfl, by rw [← HN.out, List.take_length]⟩
  case round =>
    obtain ⟨k, hk, rfl, hp⟩ := hrel
    have HP := Lib.hid hp
    clear hp
    by_cases h0 : 0 < k
    · obtain ⟨m, rfl⟩ : ∃ m, k = m + 1 := ⟨k - 1, by omega⟩
      have e : ((m + 1 : Nat) : Int) - 1 = (m : Int) := by omega
      rw [e]
      have hml : m < l.length := by rw [HN.out]; omega
      obtain ⟨b, rfl, c0, c1, -⟩ := HX.out.ev m hml
      have HS := Lib.hid (pend_take hml t)
      generalize l[m] = o at *
      obtain ⟨T, E, K, Y, C, O, V⟩ := o
      simp only at c0 c1
      have hm0 : (0 : Int) ≤ m := by omega
      have hm1 : (m : Int) < (N : Int) := by omega
      clear e hml
      by_cases ht : T = t
      · subst ht
        go_wp2
        go_returns
        exact ⟨by rw [HP.out, HS.out]; simp, rfl⟩
      · have hb : (T == t) = false := beq_eq_false_iff_ne.2 ht
        have HH : Hid (pendE l t = pendE (l.take m) t) := by show _ = _; rw [HP.out, HS.out]; simp [ht]
        clear ht
        go_wp2
        go_round
        case rel => exact ⟨m, by omega, by go_num, HH.out⟩
        case measure => simp [intOf]
    · obtain rfl : k = 0 := by omega
      go_wp2
      go_returns
      exact ⟨by rw [HP.out]; rfl, rfl⟩

/-- An event as an argument. -/
def evV (v : EvV) : Value := .agg #[.int .i64 v.T, .bool v.E, .int .i64 v.K, .int .i64 v.Y, .int .i64 v.C, .bool v.O, .int .i64 v.V]
set_option maxHeartbeats 1000000 in
theorem error_any (w : World) (a : Option Addr) (l : List EvV) (N cap : Nat) (hN : l.length = N) (hl : N ≤ 1000) (hx : At cells7 7 w a l) (v : EvV) :
    Calls Try.prog 12 #[.slice a N cap, evV v] w fun e w' => e = .returned (.int .i64 (errE l v)) ∧ Below w.heap.size w w' := by
  have HX := Lib.hid hx
  have HE : Hid (∀ E, E = v.E → errE l v = if v.T < 0 ∨ 7 < v.T then 2 else if (!E && pendE l v.T) = true then 1 else if (E && !pendE l v.T) = true then 5 else 0) := by
    intro E hE
    subst hE
    rfl
  clear hx
  generalize errE l v = x at *
  obtain ⟨T, E, K, Y, C, O, V⟩ := v
  unfold evV
  simp only at HE ⊢
  by_cases ht : T < 0 ∨ 7 < T
  · have hx := HE.out E rfl
    rw [if_pos ht] at hx
    subst hx
    clear HE
    by_cases h0 : T < 0
    · go_enter Try.func12, Try.ntmps12
      go_wp2
      go_returns
      exact ⟨rfl, by go_grown⟩
    · have h7 : (7 : Int) < T := by omega
      clear ht
      go_enter Try.func12, Try.ntmps12
      go_wp2
      go_returns
      exact ⟨rfl, by go_grown⟩
  · have hx := HE.out E rfl
    rw [if_neg ht] at hx
    have h0 : ¬ T < 0 := by omega
    have h7 : ¬ 7 < T := by omega
    have d0 : decide (T < 0) = false := decide_eq_false h0
    have d7 : decide (7 < T) = false := decide_eq_false h7
    clear HE ht
    cases hp : pendE l T <;> cases E <;> (rw [hp] at hx; simp at hx; subst hx; have HP := Lib.hid hp; clear hp; go_enter Try.func12, Try.ntmps12; go_wp2_with (go_at_call 15; go_loud (refine (pend_any _ a l N cap hN hl (HX.out.later ((Below.refl _ _).alloc (Nat.le_refl _) _)) T).mono ?_; rintro e w1 ⟨rfl, hw⟩; subst hw; rw [HP.out])); go_returns; exact ⟨rfl, by go_grown⟩)
theorem bare_any (w : World) (v : EvV) :
    Calls Try.prog 13 #[evV v] w fun e w' => e = .returned (evV (bareE v)) ∧ Below w.heap.size w w' := by
  obtain ⟨T, E, K, Y, C, O, V⟩ := v
  unfold evV
  cases E
  · go_enter Try.func13, Try.ntmps13
    go_wp2
    go_returns
    exact ⟨rfl, by go_grown⟩
  · go_enter Try.func13, Try.ntmps13
    go_wp2
    go_returns
    exact ⟨rfl, by go_grown⟩
end Go.Proofs.Ytfacojlheeoppaa.hist
