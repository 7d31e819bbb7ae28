/- The law MemRuns, walked. -/
import Derived.Test.YtfoiahnpnipjnaaMRuns
namespace Go.Proofs.Ytfoiahnpnipjnaa.mem
open Go.RowKit

set_option maxHeartbeats 1000000 in
theorem runs_long (w : World) (most : Int) (a : Option Addr) (N cap : Nat) (hl : 20 < (N : Int)) :
    Calls Try.prog 6 #[.slice a N cap, .int .i64 most] w fun e w' => e = .returned (.bool true) ∧ Below w.heap.size w w' := by
  go_enter Try.func6, Try.ntmps6
  go_wp2_with (go_at_call 9; refine (awake_any _).mono ?_; rintro e w1 ⟨rfl, hb⟩; have HB := Lib.hid hb; clear hb)
  go_returns
  exact ⟨rfl, HB.out⟩

/-- At the head of a round: k machines were made. -/
def BuiltAt (W wr : World) (X Y E k : Nat) (S : Int) (v : Value) : Prop := ∃ cs ns, Build W wr X Y E v cs ns ∧ cs.length = k ∧ S = ns.sum ∧ (cs = [] → v = .slice none 0 0)
theorem built_start {W w1 w2 : World} {X Y : Nat} (hW : Below W.heap.size W w1) (hm : MadeAt w1 1 1 (padTo 13 []) X Y w2) : BuiltAt W w2 X Y w2.heap.size 0 0 (.slice none 0 0) := by
  have hs := hW.size
  have hx := hm.x
  have hy := hm.y
  refine ⟨[], [], ⟨⟨_, _, hm.mem, by rw [padTo_length (by simp)], by decide⟩, World.ownsRow_nil _ _ _ _, by intro i hi; simp at hi, rfl, by intro i hi; simp at hi, by intro i j _ hj; simp at hj, by intro i hi; simp at hi, past hW hm.below, by omega, by omega, hm.mem.ltX, hm.mem.ltY, Nat.le_refl _⟩, rfl, rfl, fun _ => rfl⟩

theorem peek_that {w : World} {X Y : Nat} {t n k : Int} {zs : List Int} {l : Last} (hm : MemAt w X Y t n zs k l) (a z : Int) (h : wordAt zs a = z) :
    Calls Try.prog 19 #[.pointer (some ⟨X, 0, none⟩), .int .i64 a] w fun e w' => e = .returned (.int .u64 z) ∧ w = w' := by
  rw [← h]
  exact Peek_any hm a
theorem cell_new1 (w : World) (x : Value) (T : TypeId) {g : Nat} (hg : w.heap.size = g) : ∀ j u, [x][j]? = some u → (w.alloc (.cells #[x] T)).cell? ((⟨g, 0, none⟩ : Addr).add j) = some u := by
  intro j u hu
  have hj : j = 0 := by
    have := (List.getElem?_eq_some_iff.1 hu).1
    simpa using this
  subst hj
  have h := (new_block w #[x] T hg)
  rw [Addr.add_lit, Joins.cell_of_block h]
  simpa using hu
theorem one_cell (x : Value) (h : x.oneCell' = true) : ∀ u ∈ [x], u.oneCell' = true := by
  intro u hu
  obtain rfl := List.mem_singleton.1 hu
  exact h

set_option maxRecDepth 100000 in
set_option maxHeartbeats 4000000 in
theorem runs_short (w : World) (most : Int) (a : Option Addr) (xs : List Int) (N cap : Nat) (hN : xs.length = N) (hl : (N : Int) ≤ 20) (m0 : -9223372036854775808 ≤ most) (m1 : most ≤ 9223372036854775807) (hx : BytesAt w a xs) :
    Calls Try.prog 6 #[.slice a N cap, .int .i64 most] w fun e w' => e = .returned (.bool true) ∧ Below w.heap.size w w' := by
  have HX := Lib.hid hx
  have HN := Lib.hid hN
  clear hx hN
  go_enter Try.func6, Try.ntmps6
  go_wp2_with (first
    | (go_at_call 9; refine (awake_any _).mono ?_; rintro e w1 ⟨rfl, hb⟩; have HB := Lib.hid hb; clear hb)
    | (go_at_call 10; refine (new_ok _ 1 1 none [] 0 0 13 rfl (by omega) (by omega) (by omega) (by omega) (by omega) (by omega) (Words.none _)).mono ?_; rintro e w2 ⟨X, Y, rfl, hm⟩; have S0 := Lib.hid (built_start HB.out hm); clear hm HB))
  go_loopw [7, 8, 28] (fun v s i wr => ∃ (k : Nat) (S : Int), k ≤ N ∧ i = .int .i64 k ∧ s = .int .i64 S ∧ BuiltAt w wr X Y w2.heap.size k S v) (fun _ _ i _ => N - (intOf i).toNat)
  case atStart => exact ⟨0, 0, Nat.zero_le _, rfl, rfl, S0.out⟩
  case round =>
    clear S0
    obtain ⟨k, S, hk, rfl, rfl, cs, ns, hB, hcs, hS, hnil⟩ := hrel
    have B := Lib.hid hB
    have HC := Lib.hid hcs
    have HS := Lib.hid hS
    have HV := Lib.hid hnil
    have hsb := sum_bound ns hB.small ns.length (Nat.le_refl _)
    rw [List.take_length, ← hS, hB.len, hcs] at hsb
    clear hB hcs hS hnil
    by_cases hlt : k < N
    · obtain ⟨x0, x1, b, rfl, hc⟩ := (HX.out.later B.out.below) k (by rw [HN.out]; exact hlt)
      generalize xs.getD k 0 = x at *
      obtain ⟨i0, hi, hz0, hz1, hz2⟩ := info_parts Tryinfo_mach
      have hlen : cs.length ≤ 19 := by have := HC.out; omega
      have hew := B.out.ew
      have hml : cs.length + 1 ≤ maxLen := by unfold maxLen; omega
      have hown := (B.out.own.alloc (.cells (cnt (1 + x % 100)) 55)).alloc (.cells #[mach wr.heap.size] 70)
      go_wp2_with (at_builtin; go_loud (refine wpList_append_own _ rfl (.tmp 36) (.tmp 41) 52 rfl w2.heap.size 70 i0 .nilIface 1 16 Try.underlying52 hi hz0 hz1 hz2 rfl (by decide) _ cs.length (cs.map mach) rfl hown ⟨wr.heap.size + 1, 0, none⟩ 1 1 [mach wr.heap.size] rfl rfl (cell_new1 _ _ _ (by simp)) (one_cell _ rfl) hml (by omega) (by simp; omega) ?_; intro v' w3 hown' hgrow hiff; have HB3 := Lib.hid (B.out.next (by omega) (by omega) hown' hgrow); clear hown' hgrow hiff))
      go_roundw
      case rel => exact ⟨k + 1, S + (1 + x % 100), by omega, by go_num, rfl, _, _, HB3.out, by rw [List.length_append, HC.out]; rfl, by rw [List.sum_append, ← HS.out]; simp, fun h => absurd h (by simp)⟩
      case measure => simp [intOf]; omega
    · have hkN : N ≤ k := by omega
      clear hlt
      by_cases hc0 : cs = []
      · subst hc0
        have hv := HV.out rfl
        subst hv
        have hns : ns = [] := List.eq_nil_of_length_eq_zero (by have := B.out.len; simpa using this)
        subst hns
        obtain rfl : S = 0 := HS.out
        clear hsb
        go_wp2_with (first
          | (go_at_call 31; refine (run_none w.heap.size _ X Y most B.out.st).mono ?_; rintro e w4 ⟨rfl, hst, hbl⟩; obtain ⟨zs, l, hm, hz, hw⟩ := hst; have HM := Lib.hid hm; have HW := Lib.hid hw; have HB4 := Lib.hid (B.out.below.trans hbl); clear hm hw hz hbl)
          | (go_at_call 17; refine (actions_any HM.out).mono ?_; rintro e w5 ⟨rfl, rfl⟩)
          | (go_at_call 19; refine (peek_that HM.out 1 0 HW.out).mono ?_; rintro e w6 ⟨rfl, rfl⟩))
        all_goals
          go_returns
          exact ⟨rfl, HB4.out⟩
      · have hpos : 0 < cs.length := by
          rcases cs with _ | ⟨c, cs'⟩
          · exact absurd rfl hc0
          · simp
        have hle : cs.length ≤ 20 := by have := HC.out; omega
        rcases B.out.own.2 with ⟨_, h0⟩ | ⟨g, cap2, cur, rfl, hge, hgg, _, _, _, htk⟩
        · omega
        have hrow : Box wr g (machCells cs ++ (cur.toList.drop (cs.length * 1)).toArray) 70 := by
          unfold Box
          rw [hgg]
          congr 2
          unfold machCells
          rw [← htk]
          apply Array.ext'
          simp
        have HRA : Hid (RunAt w.heap.size wr wr X Y g (cur.toList.drop (cs.length * 1)).toArray cs ns 0 0) := ⟨B.out.st, hrow, fun i hi _ => B.out.boxes i hi, Below.refl _ _⟩
        have HU : Hid (Unlike w.heap.size X Y g cs) := by
          have hx0 := B.out.x0
          have hy0 := B.out.y0
          have hxe := B.out.xe
          have hye := B.out.ye
          exact ⟨hx0, hy0, by omega, by omega, fun i hi => by have := B.out.e i hi; omega, fun i hi => by have := B.out.e i hi; omega, fun i hi => by have := B.out.e i hi; omega, fun i hi => Ne.symm (row_apart hgg (B.out.boxes i hi)), fun i j hij hj => Nat.ne_of_lt (B.out.rise i j hij hj)⟩
        have s1 : 1 ≤ S := by
          have h1 := sum_all ns B.out.small 1 (by rw [B.out.len]; exact hpos)
          have h2 := sum_succ ns 0 (by rw [B.out.len]; exact hpos)
          have h3 := (B.out.small 0 (by rw [B.out.len]; exact hpos)).1
          simp only [List.take_zero, List.sum_nil, Nat.zero_add] at h2
          have h4 := HS.out
          omega
        obtain ⟨T, hT⟩ : ∃ T, T = min S (max most 0) := ⟨_, rfl⟩
        have t0 : 0 ≤ T := by omega
        have t1 : T ≤ 3000 := by omega
        have hSne : (S == 0) = false := by simp; omega
        clear hgg htk hrow hge hc0
        by_cases hb : S ≤ most
        · have hTS : T = S := by omega
          have HT : Hid (T = min ns.sum (max most 0)) := by rw [← HS.out]; exact hT
          have HO : Hid (true = decide (ns.sum ≤ most)) := by rw [← HS.out]; exact (decide_eq_true hb).symm
          subst hTS
          have hm2 : max most 0 = most := by omega
          clear hT
          go_wp2_with (first
            | (go_at_call 31; refine (run_some w.heap.size _ X Y g cs.length cap2 _ cs ns most T true rfl B.out.len hpos hle B.out.small m0 m1 HU.out B.out.below.size HRA.out HT.out HO.out).mono ?_; rintro e w4 ⟨rfl, hst, hbl⟩; obtain ⟨zs, l, hm, hz, hw⟩ := hst; have HM := Lib.hid hm; have HW := Lib.hid hw; have HB4 := Lib.hid (B.out.below.trans hbl); clear hm hw hz hbl)
            | (go_at_call 17; refine (actions_any HM.out).mono ?_; rintro e w5 ⟨rfl, rfl⟩)
            | (go_at_call 19; refine (peek_that HM.out 1 T HW.out).mono ?_; rintro e w6 ⟨rfl, rfl⟩))
          all_goals
            go_returns
            exact ⟨rfl, HB4.out⟩
        · have HO : Hid (false = decide (ns.sum ≤ most)) := by rw [← HS.out]; exact (decide_eq_false hb).symm
          by_cases hp : 0 ≤ most
          · have hTS : T = most := by omega
            have HT : Hid (most = min ns.sum (max most 0)) := by rw [← HS.out]; show most = _; omega
            subst hTS
            have hm2 : max T 0 = T := by omega
            have hdS : decide (S ≤ T) = false := by simp; omega
            clear hT
            go_wp2_with (first
              | (go_at_call 31; refine (run_some w.heap.size _ X Y g cs.length cap2 _ cs ns T T false rfl B.out.len hpos hle B.out.small m0 m1 HU.out B.out.below.size HRA.out HT.out HO.out).mono ?_; rintro e w4 ⟨rfl, hst, hbl⟩; obtain ⟨zs, l, hm, hz, hw⟩ := hst; have HM := Lib.hid hm; have HW := Lib.hid hw; have HB4 := Lib.hid (B.out.below.trans hbl); clear hm hw hz hbl)
              | (go_at_call 17; refine (actions_any HM.out).mono ?_; rintro e w5 ⟨rfl, rfl⟩)
              | (go_at_call 19; refine (peek_that HM.out 1 T HW.out).mono ?_; rintro e w6 ⟨rfl, rfl⟩))
            all_goals
              go_returns
              exact ⟨rfl, HB4.out⟩
          · have hTS : T = 0 := by omega
            have HT : Hid (0 = min ns.sum (max most 0)) := by rw [← HS.out]; show (0 : Int) = _; omega
            have hm2 : max most 0 = 0 := by omega
            have hdS : decide (S ≤ most) = false := by simp; omega
            clear hT hTS
            go_wp2_with (first
              | (go_at_call 31; refine (run_some w.heap.size _ X Y g cs.length cap2 _ cs ns most 0 false rfl B.out.len hpos hle B.out.small m0 m1 HU.out B.out.below.size HRA.out HT.out HO.out).mono ?_; rintro e w4 ⟨rfl, hst, hbl⟩; obtain ⟨zs, l, hm, hz, hw⟩ := hst; have HM := Lib.hid hm; have HW := Lib.hid hw; have HB4 := Lib.hid (B.out.below.trans hbl); clear hm hw hz hbl)
              | (go_at_call 17; refine (actions_any HM.out).mono ?_; rintro e w5 ⟨rfl, rfl⟩)
              | (go_at_call 19; refine (peek_that HM.out 1 0 HW.out).mono ?_; rintro e w6 ⟨rfl, rfl⟩))
            all_goals
              go_returns
              exact ⟨rfl, HB4.out⟩

theorem runs_any (w : World) (most : Int) (a : Option Addr) (xs : List Int) (N cap : Nat) (hN : xs.length = N) (m0 : -9223372036854775808 ≤ most) (m1 : most ≤ 9223372036854775807) (hx : BytesAt w a xs) :
    Calls Try.prog 6 #[.slice a N cap, .int .i64 most] w fun e w' => e = .returned (.bool true) ∧ Below w.heap.size w w' := by
  by_cases hl : (N : Int) ≤ 20
  · exact runs_short w most a xs N cap hN hl m0 m1 hx
  · exact runs_long w most a N cap (by omega)
end Go.Proofs.Ytfoiahnpnipjnaa.mem
