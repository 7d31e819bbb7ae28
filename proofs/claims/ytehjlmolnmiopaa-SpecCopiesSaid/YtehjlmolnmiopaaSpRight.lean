/- Those of some operations that are of a shape; a meaning behind them. -/
import Derived.Test.YtehjlmolnmiopaaSpAll
namespace Go.Proofs.Ytehjlmolnmiopaa.spec
open Go.RowKit task

def rights (s : Int) (os : List OpV) : List OpV := os.filter fun o => rightB s o.K o.Y
theorem rights_all (s : Int) (os : List OpV) : allRight s (rights s os) := fun o ho => by
  have := (List.mem_filter.1 ho).2
  simpa using this
theorem rights_len (s : Int) (os : List OpV) : (rights s os).length ≤ os.length := List.length_filter_le _ _
theorem rights_succ {s : Int} {os : List OpV} {k : Nat} (hk : k < os.length) : rights s (os.take (k + 1)) = rights s (os.take k) ++ if rightB s os[k].K os[k].Y = true then [os[k]] else [] := by
  unfold rights
  rw [List.take_succ_eq_append_getElem hk, List.filter_append]
  by_cases h : rightB s os[k].K os[k].Y = true <;> simp [h]
/-- Operations that are told. -/
def ToldOps (w : World) (os : List OpV) (e : Ending) (w' : World) : Prop := ∃ A c, e = .returned (.slice A os.length c) ∧ OpRow w' w.heap.size (.slice A os.length c) os ∧ os.length ≤ c ∧ Below w.heap.size w w'

set_option maxRecDepth 100000 in
set_option maxHeartbeats 4000000 in
theorem rights_any (w : World) (s : Int) (a : Option Addr) (os : List OpV) (N cap : Nat) (hN : os.length = N) (hl : N ≤ 60) (hx : OpsAt w a os) :
    Calls Try.prog 20 #[.int .i64 s, .slice a N cap] w (ToldOps w (rights s os)) := by
  have HX := Lib.hid hx
  have HN := Lib.hid hN
  clear hx hN
  go_enter Try.func20, Try.ntmps20
  go_wp2
  go_loopw [5, 10] (fun v i wr => ∃ k : Nat, k ≤ N ∧ i = .int .i64 k ∧ OpRow wr w.heap.size v (rights s (os.take k)) ∧ (rights s (os.take k)).length ≤ k ∧ Below w.heap.size w wr) (fun _ i _ => N - (intOf i).toNat)
  case atStart => exact ⟨0, Nat.zero_le _, rfl, OpRow.nil _ _, Nat.le_refl _, Below.refl _ _⟩
  case round =>
    obtain ⟨k, hk, rfl, hrow, hle, hb⟩ := hrel
    have HO := Lib.hid hrow
    have HB := Lib.hid hb
    clear hrow hb
    by_cases hlt : k < N
    · have hkl : k < os.length := by rw [HN.out]; exact hlt
      obtain ⟨b, rfl, c0, c1⟩ := HX.out.later HB.out k hkl
      have HS := Lib.hid (rights_succ (s := s) hkl)
      generalize os[k] = o at *
      obtain ⟨K, Y⟩ := o
      simp only at c0 c1
      cases hr : rightB s K Y
      · have HR := Lib.hid hr
        have HE : Hid (rights s (os.take (k + 1)) = rights s (os.take k)) := by show _ = _; rw [HS.out, if_neg (by rw [hr]; decide), List.append_nil]
        clear hr
        go_wp2_with (go_at_call 12; refine (may_any _ s K Y).mono ?_; rw [HR.out]; rintro e w2 ⟨rfl, hb2⟩; have HB2 := Lib.hid (past (HB.out.alloc HB.out.size _) hb2); have HO2 := Lib.hid (owns_below (owns_below HO.out ((Below.refl _ _).alloc (Nat.le_refl _) _)) hb2); clear hb2)
        go_roundw
        case rel => exact ⟨k + 1, by omega, by go_num, by rw [HE.out]; exact HO2.out, by rw [HE.out]; omega, HB2.out⟩
        case measure => simp [intOf]; omega
      · have HR := Lib.hid hr
        have HE : Hid (rights s (os.take (k + 1)) = rights s (os.take k) ++ [⟨K, Y⟩]) := by show _ = _; rw [HS.out, if_pos hr]
        clear hr
        obtain ⟨i0, hi, hz0, hz1, hz2⟩ := info_parts Tryinfo_op
        have hml : (rights s (os.take k)).length + 1 ≤ maxLen := by unfold maxLen; omega
        go_wp2_with (first
          | (go_at_call 12; refine (may_any _ s K Y).mono ?_; rw [HR.out]; rintro e w2 ⟨rfl, hb2⟩; have HB2 := Lib.hid (past (HB.out.alloc HB.out.size _) hb2); have HO2 := Lib.hid (owns_below (owns_below HO.out ((Below.refl _ _).alloc (Nat.le_refl _) _)) hb2); have d0 : w2.cell? ⟨wr.heap.size, 0, none⟩ = some (.int .i64 K) := (hb2.cell (p := ⟨wr.heap.size, 0, none⟩) (by simp)).trans (by go_simp); have d1 : w2.cell? ⟨wr.heap.size, 1, none⟩ = some (.int .i64 Y) := (hb2.cell (p := ⟨wr.heap.size, 1, none⟩) (by simp)).trans (by go_simp); have g2 := HB2.out.size; clear hb2)
          | (at_builtin; refine wpList_append_own _ rfl (.tmp 17) (.tmp 19) 22 rfl w.heap.size 35 i0 (.agg #[.int .i64 0, .int .i64 0]) 2 16 Try.underlying22 hi hz0 hz1 hz2 rfl (by decide) _ (rights s (os.take k)).length (opCells (rights s (os.take k))) rfl (owns_below HO2.out ((Below.refl _ _).alloc (Nat.le_refl _) (.cells #[.int .i64 K, .int .i64 Y] 35))) ⟨w2.heap.size, 0, none⟩ 1 1 [.int .i64 K, .int .i64 Y] rfl rfl (cell_new2 _ _ _ _ rfl) (one_op _ _) hml (by omega) (by simp; omega) ?_; intro v' w3 hown' hgrow _; have HO3 : Hid (OpRow w3 w.heap.size v' (rights s (os.take k) ++ [⟨K, Y⟩])) := Lib.hid (by unfold OpRow; rw [opCells_snoc, List.length_append]; exact hown'); have HB3 := Lib.hid (Below.grown (HB2.out.alloc g2 _) hgrow (by simp; omega) (fun j hj => (World.ownsRow.lt HO2.out j hj).1)); clear hown' hgrow))
        go_roundw
        case rel => exact ⟨k + 1, by omega, by go_num, by rw [HE.out]; exact HO3.out, by rw [HE.out]; simp; omega, HB3.out⟩
        case measure => simp [intOf]; omega
    · obtain rfl : k = N := by omega
      have e : os.take k = os := by rw [← HN.out, List.take_length]
      have hrow := HO.out
      rw [e] at hrow
      obtain ⟨A, c, hv, hc⟩ := hrow.form
      subst hv
      have HF := Lib.hid hrow
      clear hrow e HO hle
      go_wp2
      go_returns
      exact ⟨A, c, rfl, HF.out, hc, HB.out⟩
/-- A meaning behind the right ones of some operations. -/
theorem made_any (w : World) (s : Int) (A : Option Addr) (c lo : Nat) (w0 : World) (os : List OpV) (hs : 1 ≤ s ∧ s ≤ 4) (hl : os.length ≤ 60) (hb : Below w0.heap.size w0 w) (hx : OpRow w lo (.slice A (rights s os).length c) (rights s os)) :
    Calls Try.prog 18 #[.int .i64 s, .slice A (rights s os).length c] w fun e w' => ∃ X f v, e = .returned (.tuple #[v, .pointer (some ⟨X, 0, none⟩), .int .i64 0]) ∧ Run w0 w' X f s (stateL s (rights s os)) ∧ (stateL s (rights s os)).length ≤ 60 ∧ (∀ b, f b → w.heap.size ≤ b) ∧ Below w.heap.size w w' := by
  have hr := rights_len s os
  refine (play_told w s A (rights s os) _ c hs rfl (by omega) (OpRow.ops hx) (rights_all s os)).mono fun e w' ⟨X, f, g, c', he, _, hrun⟩ => ⟨X, f, _, he, ⟨hrun.mean, hrun.good, fun b hb' => Nat.le_trans hb.size (hrun.new b hb'), past hb hrun.below⟩, ?_, hrun.new, hrun.below⟩
  have := state_len s (rights s os)
  omega
end Go.Proofs.Ytehjlmolnmiopaa.spec
