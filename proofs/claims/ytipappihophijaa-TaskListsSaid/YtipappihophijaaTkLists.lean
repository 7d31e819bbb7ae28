/- The law TaskLists answers true at any shape and any operations. -/
import Derived.Test.YtipappihophijaaTkOfW
namespace Go.Proofs.Ytipappihophijaa.task
open Go.RowKit
attribute [local go_sem] eq_op

theorem row_cells {w : World} {base g c n : Nat} {s : Int} {os : List OpV} (h : w.ownsRow base 25 3 (.slice (some ⟨g, 0, none⟩) n c) n (cellsTo s os n)) (i : Nat) (hi : i < os.length) (hn : i < n) :
    w.cell? ⟨g, i * 3, none⟩ = some (.int .i64 s) ∧ w.cell? ⟨g, i * 3 + 1, none⟩ = some (.int .i64 os[i].K) ∧ w.cell? ⟨g, i * 3 + 2, none⟩ = some (.int .i64 os[i].Y) := by
  obtain ⟨h0, h1, h2⟩ := cellsTo_get s os n i hi hn
  have e0 := h.cells (g := g) rfl _ _ h0
  have e1 := h.cells (g := g) rfl _ _ h1
  have e2 := h.cells (g := g) rfl _ _ h2
  rw [Addr.add_lit, Nat.zero_add] at e0 e1 e2
  exact ⟨e0, e1, e2⟩

set_option maxRecDepth 100000 in
set_option maxHeartbeats 1000000 in
theorem lists_long (w : World) (s : Int) (a : Option Addr) (N cap : Nat) (hl : 60 < (N : Int)) :
    Calls Try.prog 4 #[.int .i64 s, .slice a N cap] w fun e w' => e = .returned (.bool true) ∧ Below w.heap.size w w' := by
  go_enter Try.func4, Try.ntmps4
  go_wp2_with (go_at_call 7; refine (awake_any _).mono ?_; rintro e w1 ⟨rfl, hb⟩; have HB := Lib.hid hb; clear hb)
  go_returns
  exact ⟨rfl, HB.out⟩

set_option maxRecDepth 100000 in
set_option maxHeartbeats 2000000 in
theorem lists_short (w : World) (s : Int) (a : Option Addr) (os : List OpV) (N cap : Nat) (hN : os.length = N) (hl : (N : Int) ≤ 60) (hx : OpsAt w a os) :
    Calls Try.prog 4 #[.int .i64 s, .slice a N cap] w fun e w' => e = .returned (.bool true) ∧ Below w.heap.size w w' := by
  have HX := Lib.hid hx
  have HN := Lib.hid hN
  clear hx hN
  go_enter Try.func4, Try.ntmps4
  go_wp2_with (go_at_call 7; refine (awake_any _).mono ?_; rintro e w1 ⟨rfl, hb⟩; have HB1 := Lib.hid hb; clear hb)
  go_loopw [5, 19] (fun v i wr => ∃ k : Nat, k ≤ N ∧ i = .int .i64 k ∧ v = .bool (rightTo s os k) ∧ Below w.heap.size w wr) (fun _ i _ => N - (intOf i).toNat)
  case atStart => exact ⟨0, Nat.zero_le _, rfl, rfl, HB1.out⟩
  case round =>
    clear HB1
    obtain ⟨k, hk, rfl, rfl, hb⟩ := hrel
    have HB := Lib.hid hb
    clear hb
    by_cases hlt : k < N
    · have hkl : k < os.length := by rw [HN.out]; exact hlt
      obtain ⟨b, rfl, c0, c1⟩ := HX.out.later HB.out k hkl
      have HS := Lib.hid (rightTo_succ s os k hkl)
      generalize os[k] = o at *
      obtain ⟨K, Y⟩ := o
      cases hr : rightTo s os k
      · have HR := Lib.hid hr
        clear hr
        go_wp2
        go_roundw
        case rel => exact ⟨k + 1, by omega, by go_num, by rw [HS.out, HR.out]; rfl, HB.out.alloc HB.out.size _⟩
        case measure => simp [intOf]; omega
      · have HR := Lib.hid hr
        clear hr
        go_wp2_with (go_at_call 9; refine (may_any _ s K Y).mono ?_; rintro e w2 ⟨rfl, hb2⟩; have HB2 := Lib.hid (past (HB.out.alloc HB.out.size _) hb2); clear hb2)
        all_goals
          go_roundw
          case rel => exact ⟨k + 1, by omega, by go_num, by rw [HS.out, HR.out]; rfl, HB2.out⟩
          case measure => simp [intOf]; omega
    · have hkN : k = N := by omega
      subst hkN
      cases hr : rightTo s os k
      · have HR := Lib.hid hr
        clear hr
        go_wp2_with (go_at_call 12; refine (of_any _ s a os k cap HN.out (by omega) (HX.out.later HB.out)).mono ?_; rintro e w3 ⟨hb3, ht⟩; rw [HN.out, HR.out, if_neg (by decide)] at ht; subst ht; have HB3 := Lib.hid (past HB.out hb3); clear hb3)
        go_returns
        exact ⟨rfl, HB3.out⟩
      · have HR := Lib.hid hr
        clear hr
        go_wp2_with (go_at_call 12; refine (of_any _ s a os k cap HN.out (by omega) (HX.out.later HB.out)).mono ?_; rintro e w3 ⟨hb3, ht⟩; rw [HN.out, HR.out, if_pos rfl] at ht; obtain ⟨g, c, rfl, ho⟩ := ht; have HO := Lib.hid ho; have HB3 := Lib.hid (past HB.out hb3); clear hb3 ho)
        go_loopw [56] (fun i wx => ∃ j : Nat, j ≤ k ∧ i = .int .i64 j ∧ Below w3.heap.size w3 wx) (fun i _ => k - (intOf i).toNat)
        case atStart => exact ⟨0, Nat.zero_le _, rfl, Below.refl _ _⟩
        case round =>
          obtain ⟨j, hj, rfl, hbx⟩ := hrel
          have HBX := Lib.hid hbx
          clear hbx
          by_cases hlt2 : j < k
          · have hjl : j < os.length := by rw [HN.out]; exact hlt2
            obtain ⟨b, rfl, c0, c1⟩ := HX.out.later (past HB3.out HBX.out) j hjl
            obtain ⟨d0, d1, d2⟩ := row_cells (owns_below HO.out HBX.out) j hjl hlt2
            generalize os[j] = o at *
            obtain ⟨K, Y⟩ := o
            have e0 := (((Below.refl _ wr).alloc (Nat.le_refl _) (.cells #[.int .i64 s, .int .i64 K, .int .i64 Y] 25)).cell (World.block_lt_of_cell? wr _ c0)).trans c0
            have e1 := (((Below.refl _ wr).alloc (Nat.le_refl _) (.cells #[.int .i64 s, .int .i64 K, .int .i64 Y] 25)).cell (World.block_lt_of_cell? wr _ c1)).trans c1
            go_wp2
            go_quiet (fail)
            go_wp2
            go_roundw
            case rel => exact ⟨j + 1, by omega, by go_num, below_drewN (HBX.out.alloc HBX.out.size _) _⟩
            case measure => simp [intOf]; omega
          · have hjk : j = k := by omega
            subst hjk
            go_wp2
            go_returns
            exact ⟨rfl, past HB3.out HBX.out⟩

theorem lists_any (w : World) (s : Int) (a : Option Addr) (os : List OpV) (N cap : Nat) (hN : os.length = N) (hx : OpsAt w a os) :
    Calls Try.prog 4 #[.int .i64 s, .slice a N cap] w fun e w' => e = .returned (.bool true) ∧ Below w.heap.size w w' := by
  by_cases hl : 60 < (N : Int)
  · exact lists_long w s a N cap hl
  · exact lists_short w s a os N cap hN (by omega) hx
end Go.Proofs.Ytipappihophijaa.task
