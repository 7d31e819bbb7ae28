/- Operations in a slice; the document's functions over them. -/
import Derived.Test.YtmpilokgbblonaaGreatKa14
import Derived.WalkSpells
import Derived.WalkLawsBesides
namespace Go.Proofs.YtmpilokgbblonaaGreat.spec
open Go.RowKit task

/-- Operations in a slice: one that came in, or one of the call's own. -/
def OpsAt (w : World) (a : Option Addr) (os : List OpV) : Prop := ∀ i (hi : i < os.length), ∃ b, a = some b ∧ w.cell? (b.add (i * 2)) = some (.int .i64 os[i].K) ∧ w.cell? ⟨(b.add (i * 2)).block, (b.add (i * 2)).off + 1, none⟩ = some (.int .i64 os[i].Y)
theorem add_block (b : Addr) (n : Nat) : (b.add n).block = b.block := by
  unfold Addr.add
  split <;> rfl
theorem OpsAt.moved {w w' : World} {a : Option Addr} {os : List OpV} (h : OpsAt w a os) (hb : ∀ b, a = some b → b.block < w.heap.size → w'.heap[b.block]? = w.heap[b.block]?) : OpsAt w' a os := by
  intro i hi
  obtain ⟨b, hb1, h0, h1⟩ := h i hi
  have hl := World.block_lt_of_cell? w _ h0
  rw [add_block] at hl
  have he := hb b hb1 hl
  exact ⟨b, hb1, (World.cell?_of_block (w := w) (by rw [add_block]; exact he)).trans h0, (World.cell?_of_block (w := w) (by show w'.heap[(b.add (i * 2)).block]? = w.heap[(b.add (i * 2)).block]?; rw [add_block]; exact he)).trans h1⟩
theorem OpsAt.below {w w' : World} {B : Nat} {a : Option Addr} {os : List OpV} (h : OpsAt w a os) (hb : Below B w w') (hB : w.heap.size ≤ B) : OpsAt w' a os := h.moved fun _ _ hl => hb.block _ (by omega)
theorem OpsAt.later {w w' : World} {a : Option Addr} {os : List OpV} (h : OpsAt w a os) (hb : Below w.heap.size w w') : OpsAt w' a os := h.below hb (Nat.le_refl _)
theorem OpsAt.take {w : World} {a : Option Addr} {os : List OpV} (h : OpsAt w a os) (n : Nat) : OpsAt w a (os.take n) := by
  intro i hi
  have h2 : i < os.length := by simp at hi; omega
  obtain ⟨b, e, h0, h1⟩ := h i h2
  refine ⟨b, e, ?_⟩
  rw [List.getElem_take]
  exact ⟨h0, h1⟩

set_option maxRecDepth 100000 in
set_option maxHeartbeats 1000000 in
theorem may_any (w : World) (s k y : Int) :
    Calls Tryz.prog 19 #[.int .i64 s, .agg #[.int .i64 k, .int .i64 y]] w fun e w' => e = .returned (.bool (rightB s k y)) ∧ Below w.heap.size w w' := by
  go_enter Tryz.func19, Tryz.ntmps19
  go_wp2
  all_goals
    go_returns
    refine ⟨?_, by go_grown⟩
    refine ret_bool ?_
    rw [right_iff]
    try simp only [decide_eq_true_eq, beq_iff_eq, beq_eq_false_iff_ne, ne_eq, Bool.false_eq_true, true_iff, false_iff] at *
    omega
theorem inB_take {l : List OpV} {i : Nat} (hi : i < l.length) (x : Int) : inB (l.take (i + 1)) x = inStep x (inB (l.take i) x) l[i] := by
  rw [List.take_succ_eq_append_getElem hi, inB_snoc]
theorem many_take {l : List OpV} {i : Nat} (hi : i < l.length) : many (l.take (i + 1)) = manyStep (many (l.take i)) l[i] := by
  rw [List.take_succ_eq_append_getElem hi, many_snoc]
theorem puts_take {l : List OpV} {i : Nat} (hi : i < l.length) : putsL (l.take (i + 1)) = putsL (l.take i) ++ if l[i].K = 4 then [l[i].Y] else [] := by
  rw [List.take_succ_eq_append_getElem hi, putsL_snoc]

set_option maxHeartbeats 1000000 in
theorem in_any (w : World) (x : Int) (a : Option Addr) (os : List OpV) (N cap : Nat) (hN : os.length = N) (hl : N ≤ 1000) (hx : OpsAt w a os) :
    Calls Tryz.prog 41 #[.slice a N cap, .int .i64 x] w fun e w' => e = .returned (.bool (inB os x)) ∧ w = w' := by
  have HX := Lib.hid hx
  have HN := Lib.hid hN
  clear hx hN
  go_enter Tryz.func41, Tryz.ntmps41
  go_wp2
  go_loop [5] (fun i => ∃ k : Nat, k ≤ N ∧ i = .int .i64 ((k : Int) - 1) ∧ inB os x = inB (os.take k) x) (fun i => (intOf i + 1).toNat)
  case atStart => exact ⟨N, Nat.le_refl _, rfl, by rw [← HN.out, List.take_length]⟩
  case round =>
    obtain ⟨k, hk, rfl, hin⟩ := hrel
    have HI := Lib.hid hin
    clear hin
    by_cases hlt : 0 < k
    · obtain ⟨j, rfl⟩ : ∃ j, k = j + 1 := ⟨k - 1, by omega⟩
      have hjl : j < os.length := by rw [HN.out]; omega
      obtain ⟨b, rfl, c0, c1⟩ := HX.out j hjl
      have HS := Lib.hid (inB_take hjl x)
      generalize os[j] = o at *
      obtain ⟨K, Y⟩ := o
      have hj1 : (((j + 1 : Nat) : Int) - 1) = (j : Int) := by omega
      rw [hj1]
      have hj2 : (j : Int) < (N : Int) := by omega
      clear hj1 hlt hjl
      simp only at c0 c1
      by_cases hy : Y = x
      · subst hy
        by_cases h1 : K = 1
        · subst h1
          go_wp2
          go_returns
          exact ⟨by rw [HI.out, HS.out]; simp [inStep], rfl⟩
        · have h1b : (K == 1) = false := beq_eq_false_iff_ne.2 h1
          by_cases h2 : K = 2
          · subst h2
            go_wp2
            go_returns
            exact ⟨by rw [HI.out, HS.out]; simp [inStep], rfl⟩
          · have h2b : (K == 2) = false := beq_eq_false_iff_ne.2 h2
            have HH : Hid (inB os Y = inB (os.take j) Y) := by show _ = _; rw [HI.out, HS.out]; simp [inStep, h1, h2]
            clear h1 h2
            go_wp2
            go_round
            case rel => exact ⟨j, by omega, rfl, HH.out⟩
            case measure => simp [intOf]
      · have hyb : (Y == x) = false := beq_eq_false_iff_ne.2 hy
        have HH : Hid (inB os x = inB (os.take j) x) := by show _ = _; rw [HI.out, HS.out]; simp [inStep, hy]
        clear hy
        go_wp2
        go_round
        case rel => exact ⟨j, by omega, rfl, HH.out⟩
        case measure => simp [intOf]
    · obtain rfl : k = 0 := by omega
      go_wp2
      go_returns
      exact ⟨by rw [HI.out]; rfl, rfl⟩
end Go.Proofs.YtmpilokgbblonaaGreat.spec
/- The document's lists: a queue's items, a stack's, a set's; two lists compared. -/
namespace Go.Proofs.YtmpilokgbblonaaGreat.spec
open Go.RowKit task

theorem one_cell (x : Value) (hx : x.oneCell' = true) : ∀ u ∈ [x], u.oneCell' = true := by
  intro u hu
  rw [List.mem_singleton.1 hu]
  exact hx
/-- A list that grows. -/
structure Lst (w wr : World) (v : Value) (L : List Int) : Prop where
  own : Own wr w.heap.size v L
  below : Below w.heap.size w wr
theorem Lst.more {w wr w1 : World} {v v' : Value} {x : Int} {L : List Int} {T : TypeId} (h : Lst w wr v L)
    (hown : w1.ownsRow w.heap.size 3 1 v' (L.length + 1) (L.map (Value.int .i64) ++ [.int .i64 x]))
    (hg : (wr.alloc (.cells #[.int .i64 x] T)).grownBy w1 v.ownBlock) : Lst w w1 v' (L ++ [x]) := by
  refine ⟨by unfold Own; rw [List.length_append, List.map_append]; exact hown, (h.below.alloc h.below.size _).grown hg (by have := h.below.size; simp; omega) fun k hk => (h.own.at hk).1⟩
/-- A list that is told. -/
def Told (w : World) (L : List Int) (e : Ending) (w' : World) : Prop := ∃ A c g, e = .returned (.slice A L.length c) ∧ Rw w' g A c L ∧ (A ≠ none → w.heap.size ≤ g) ∧ Below w.heap.size w w'
theorem Lst.told {w wr : World} {v : Value} {L : List Int} (h : Lst w wr v L) : Told w L (.returned v) wr := by
  obtain ⟨A, c, g, rfl, h1, h2⟩ := h.own.rw
  exact ⟨A, c, g, rfl, h1, h2, h.below⟩
theorem Row.drop {w : World} {g o c : Nat} {xs : List Int} (h : Row w g o c xs) (n : Nat) (hn : n ≤ xs.length) : Row w g (o + n) (c - n) (xs.drop n) := by
  have hl := h.len
  have hb := h.big
  obtain ⟨cur, h1, h2, h3⟩ := h.blk
  refine ⟨by simp; omega, by omega, cur, h1, by omega, fun j hj => ?_⟩
  simp at hj
  have := h3 (n + j) (by omega)
  rw [show o + n + j = o + (n + j) by omega, this]
  simp [List.getD_eq_getElem?_getD]

set_option maxHeartbeats 1000000 in
theorem many_any (w : World) (a : Option Addr) (os : List OpV) (N cap : Nat) (hN : os.length = N) (hl : N ≤ 1000) (hx : OpsAt w a os) :
    Calls Tryz.prog 64 #[.slice a N cap] w fun e w' => e = .returned (.int .i64 (many os : Nat)) ∧ w = w' := by
  have HX := Lib.hid hx
  have HN := Lib.hid hN
  clear hx hN
  go_enter Tryz.func64, Tryz.ntmps64
  go_wp2
  go_loop [3, 4] (fun m i => ∃ k n : Nat, k ≤ N ∧ n ≤ k ∧ i = .int .i64 k ∧ m = .int .i64 n ∧ many (os.take k) = n) (fun _ i => N - (intOf i).toNat)
  case atStart => exact ⟨0, 0, Nat.zero_le _, Nat.le_refl _, rfl, rfl, rfl⟩
  case round =>
    obtain ⟨k, n, hk, hnk, rfl, rfl, hn⟩ := hrel
    have HM := Lib.hid hn
    clear hn
    by_cases hlt : k < N
    · have hjl : k < os.length := by rw [HN.out]; omega
      obtain ⟨b, rfl, c0, c1⟩ := HX.out k hjl
      have HS := Lib.hid (many_take hjl)
      generalize os[k] = o at *
      obtain ⟨K, Y⟩ := o
      simp only at c0 c1
      clear hjl c1
      by_cases h4 : K = 4
      · subst h4
        go_wp2
        go_round
        case rel => exact ⟨k + 1, n + 1, by omega, by omega, by go_num, by go_num, by rw [HS.out, HM.out]; rfl⟩
        case measure => simp [intOf]; omega
      · have h4b : (K == 4) = false := beq_eq_false_iff_ne.2 h4
        have HH : Hid (many (os.take (k + 1)) = n - 1) := by show _ = _; rw [HS.out, HM.out]; simp [manyStep, h4]
        clear h4
        by_cases hn0 : 0 < n
        · have hm : (n : Int) - 1 = ((n - 1 : Nat) : Int) := by omega
          go_wp2
          go_round
          case rel => exact ⟨k + 1, n - 1, by omega, by omega, by go_num, by rw [← hm], HH.out⟩
          case measure => simp [intOf]; omega
        · obtain rfl : n = 0 := by omega
          go_wp2
          go_round
          case rel => exact ⟨k + 1, 0, by omega, by omega, by go_num, rfl, HH.out⟩
          case measure => simp [intOf]; omega
    · obtain rfl : k = N := by omega
      have HE : Hid (many os = n) := by show _ = _; rw [← HM.out, ← HN.out, List.take_length]
      go_wp2
      go_returns
      exact ⟨by rw [HE.out] <;> rfl, rfl⟩

set_option maxHeartbeats 1000000 in
theorem ints_any (w : World) (g1 c1 g2 c2 : Nat) (A1 A2 : Option Addr) (xs ys : List Int) (h1 : Rw w g1 A1 c1 xs) (h2 : Rw w g2 A2 c2 ys) (hx : xs.length ≤ 100000) (hy : ys.length ≤ 100000) :
    Calls Tryz.prog 13 #[.slice A1 xs.length c1, .slice A2 ys.length c2] w fun e w' => e = .returned (.bool (decide (xs = ys))) ∧ ∃ n, w' = w.drewN n := by
  by_cases hl : xs.length = ys.length
  · have H1 := Lib.hid h1
    have H2 := Lib.hid h2
    have HY := Lib.hid hl
    clear h1 h2
    generalize hN : xs.length = N at *
    have HN := Lib.hid hN
    have hq : ys.length = N := hl.symm
    rw [hq]
    clear hN hq hl
    go_enter Tryz.func13, Tryz.ntmps13
    go_wp2
    go_loopw [5] (fun i wr => ∃ k n : Nat, k ≤ N ∧ i = .int .i64 k ∧ wr = w.drewN n ∧ ∀ j, j < k → xs.getD j 0 = ys.getD j 0) (fun i _ => N - (intOf i).toNat)
    case atStart => exact ⟨0, 0, Nat.zero_le _, rfl, rfl, fun j hj => absurd hj (by omega)⟩
    case round =>
      obtain ⟨k, n, hk, rfl, rfl, hs⟩ := hrel
      have HS := Lib.hid hs
      clear hs
      by_cases hlt : k < N
      · obtain ⟨o1, hA1, r1⟩ := H1.out.row (by rintro rfl; have := HN.out; simp at this; omega)
        obtain ⟨o2, hA2, r2⟩ := H2.out.row (by rintro rfl; have := HY.out; simp at this; omega)
        subst hA1
        subst hA2
        have d1 := r1.cell (j := k) (by rw [HN.out]; exact hlt)
        have d2 := r2.cell (j := k) (by rw [← HY.out]; exact hlt)
        clear r1 r2
        by_cases he : xs.getD k 0 = ys.getD k 0
        · have HE := Lib.hid he
          rw [he] at d1
          clear he
          go_wp2
          go_quiet (fail)
          go_wp2
          go_roundw
          case rel => exact ⟨k + 1, _, by omega, by go_num, rfl, fun j hj => by
            by_cases hjk : j = k
            · subst hjk; exact HE.out
            · exact HS.out j (by omega)⟩
          case measure => simp [intOf]; omega
        · have HE : Hid (decide (xs = ys) = false) := decide_eq_false (fun h => he (by rw [h]))
          generalize xs.getD k 0 = x at *
          generalize ys.getD k 0 = y at *
          have hb : (x == y) = false := beq_eq_false_iff_ne.2 he
          clear he
          go_wp2
          go_quiet (fail)
          go_wp2
          go_returns
          exact ⟨by rw [HE.out] <;> rfl, _, World.drewN_drewN ..⟩
      · obtain rfl : k = N := by omega
        have HE : Hid (decide (xs = ys) = true) := by
          refine decide_eq_true (List.ext_getElem ?_ fun j hj hj2 => ?_)
          · rw [HN.out]; exact HY.out
          · have := HS.out j (by rw [HN.out] at hj; exact hj)
            simpa [List.getD_eq_getElem?_getD, List.getElem?_eq_getElem hj, List.getElem?_eq_getElem hj2] using this
        go_wp2
        go_returns
        exact ⟨by rw [HE.out] <;> rfl, n, rfl⟩
  · have hd : decide (xs = ys) = false := decide_eq_false fun e => hl (by rw [e])
    rw [hd]
    clear h1 h2 hd
    have hq : ((xs.length : Int) == (ys.length : Int)) = false := beq_eq_false_iff_ne.2 (by omega)
    clear hl
    go_enter Tryz.func13, Tryz.ntmps13
    go_wp2
    go_returns
    exact ⟨rfl, 0, rfl⟩

set_option maxRecDepth 100000 in
set_option maxHeartbeats 2000000 in
theorem line_any (w : World) (a : Option Addr) (os : List OpV) (N cap : Nat) (hN : os.length = N) (hl : N ≤ 1000) (hx : OpsAt w a os) :
    Calls Tryz.prog 39 #[.slice a N cap] w (Told w (lineL os)) := by
  have HX := Lib.hid hx
  have HN := Lib.hid hN
  clear hx hN
  go_enter Tryz.func39, Tryz.ntmps39
  go_wp2
  go_loopw [3, 4] (fun v i wr => ∃ k : Nat, k ≤ N ∧ i = .int .i64 k ∧ Lst w wr v (putsL (os.take k)) ∧ (putsL (os.take k)).length ≤ k) (fun _ i _ => N - (intOf i).toNat)
  case atStart => exact ⟨0, Nat.zero_le _, rfl, ⟨Own.nil _ _, Below.refl _ _⟩, by simp [putsL]⟩
  case round =>
    obtain ⟨k, hk, rfl, hst, hle⟩ := hrel
    have HL := Lib.hid hst
    have HB := Lib.hid hst.below.size
    clear hst
    by_cases hlt : k < N
    · have hjl : k < os.length := by rw [HN.out]; omega
      obtain ⟨b, rfl, c0, c1⟩ := (HX.out.later HL.out.below) k hjl
      have HS := Lib.hid (puts_take hjl)
      generalize os[k] = o at *
      obtain ⟨K, Y⟩ := o
      simp only at c0 c1
      clear hjl
      by_cases h4 : K = 4
      · subst h4
        obtain ⟨i0, hi, hz0, hz1, hz2⟩ := info_parts Tryzinfo_int
        have hml : (putsL (os.take k)).length + 1 ≤ maxLen := by unfold maxLen; omega
        go_wp2_with (at_builtin; refine wpList_append_own _ rfl (.tmp 17) (.tmp 23) 29 rfl w.heap.size 3 i0 (.int .i64 0) 1 8 Tryz.underlying29 hi hz0 hz1 hz2 rfl (by decide) _ (putsL (os.take k)).length ((putsL (os.take k)).map (Value.int .i64)) rfl (HL.out.own.below ((Below.refl _ _).alloc (Nat.le_refl _) (.cells #[.int .i64 Y] 3))) ⟨wr.heap.size, 0, none⟩ 1 1 [.int .i64 Y] rfl rfl (cell_one_new _ _ _) (one_cell _ rfl) hml (by omega) (by have := HB.out; simp; omega) ?_; intro v' w3 hown' hgrow hiff; have L3 := Lib.hid (HL.out.more hown' hgrow); clear hown' hgrow hiff)
        go_roundw
        case rel => exact ⟨k + 1, by omega, by go_num, by rw [HS.out]; exact L3.out, by rw [HS.out]; simp; omega⟩
        case measure => simp [intOf]; omega
      · have h4b : (K == 4) = false := beq_eq_false_iff_ne.2 h4
        have HH : Hid (putsL (os.take (k + 1)) = putsL (os.take k)) := by show _ = _; rw [HS.out]; simp [h4]
        clear h4
        go_wp2
        go_roundw
        case rel => exact ⟨k + 1, by omega, by go_num, by rw [HH.out]; exact HL.out, by rw [HH.out]; omega⟩
        case measure => simp [intOf]; omega
    · obtain rfl : k = N := by omega
      have e : os.take k = os := by rw [← HN.out, List.take_length]
      have hl2 := HL.out
      rw [e] at hl2
      have HL2 := Lib.hid hl2
      obtain ⟨A, c, g, hv, hr, hg⟩ := hl2.own.rw
      subst hv
      have hle2 : (putsL os).length ≤ 1000 := by rw [e] at hle; omega
      have hcap := rw_cap hr
      have HM := Lib.hid (many_puts os)
      have HLL := Lib.hid (lineL_len os)
      have hm0 : (many os : Int) ≤ ((putsL os).length : Int) := by have := HM.out; omega
      have HR := Lib.hid hr
      have HG := Lib.hid hg
      clear hle HL HB hr hg e hl2
      rcases HR.out with ⟨hA, hc0, hp0⟩ | ⟨o, hA, hrow⟩
      · subst hA
        subst hc0
        rw [hp0] at hm0 hcap ⊢
        go_wp2_with (go_at_call 64; refine (many_any _ a os k cap HN.out (by omega) (HX.out.later HL2.out.below)).mono ?_; rintro e w2 ⟨rfl, hw⟩; obtain rfl := hw)
        go_returns
        have h0 : lineL os = [] := List.eq_nil_of_length_eq_zero (by have := HLL.out; simp at hm0; omega)
        rw [h0]
        exact ⟨none, 0, 0, rfl, Or.inl ⟨rfl, rfl, rfl⟩, fun h => absurd rfl h, HL2.out.below⟩
      · subst hA
        obtain ⟨lo, hlo⟩ : ∃ lo : Nat, lo = (putsL os).length - many os := ⟨_, rfl⟩
        have hsub : ((putsL os).length : Int) - (many os : Int) = (lo : Int) := by omega
        have hdrop : lineL os = (putsL os).drop lo := by rw [hlo]; rfl
        have HD := Lib.hid hdrop
        have hll : (putsL os).length - lo = (lineL os).length := by rw [hdrop, List.length_drop]
        have HE := Lib.hid hll
        have HW := Lib.hid hrow
        have hln : lo ≤ (putsL os).length := by omega
        have hlc : lo ≤ c := by omega
        clear hlo hdrop hll hrow
        by_cases hce : c = lo
        · subst hce
          go_wp2_with (go_at_call 64; refine (many_any _ a os k cap HN.out (by omega) (HX.out.later HL2.out.below)).mono ?_; rintro e w2 ⟨rfl, hw⟩; obtain rfl := hw)
          go_returns
          have h0 : lineL os = [] := List.eq_nil_of_length_eq_zero (by have := HE.out; omega)
          rw [h0]
          refine ⟨some ⟨g, o, none⟩, 0, g, ?_, Or.inr ⟨o, rfl, HW.out.empty⟩, fun _ => HG.out (by simp), HL2.out.below⟩
          simp
        · go_wp2_with (go_at_call 64; refine (many_any _ a os k cap HN.out (by omega) (HX.out.later HL2.out.below)).mono ?_; rintro e w2 ⟨rfl, hw⟩; obtain rfl := hw)
          go_returns
          refine ⟨some ⟨g, o + lo, none⟩, c - lo, g, ?_, Or.inr ⟨o + lo, rfl, ?_⟩, fun _ => HG.out (by simp), HL2.out.below⟩
          · rw [← HE.out] <;> rfl
          · rw [HD.out]
            exact HW.out.drop lo hln
end Go.Proofs.YtmpilokgbblonaaGreat.spec
/- A stack's items, a set's; the document's items and results. -/
namespace Go.Proofs.YtmpilokgbblonaaGreat.spec
open Go.RowKit task

theorem pileGo_succ {l : List OpV} {i : Nat} (hi : i < l.length) (n : Nat) : pileGo l (i + 1) (n + 1) = if l[i].K = 4 ∧ many (l.take i) = n then l[i].Y :: pileGo l i n else pileGo l i (n + 1) := by
  rw [pileGo, if_neg (by omega), List.getElem?_eq_getElem hi]
  rfl
set_option maxRecDepth 100000 in
set_option maxHeartbeats 2000000 in
theorem pile_any (w : World) (a : Option Addr) (os : List OpV) (N cap : Nat) (hN : os.length = N) (hl : N ≤ 1000) (hc : N ≤ cap) (hx : OpsAt w a os) :
    Calls Tryz.prog 40 #[.slice a N cap] w (Told w (pileL os)) := by
  have HX := Lib.hid hx
  have HN := Lib.hid hN
  have HM := Lib.hid (many_le os)
  clear hx hN
  go_enter Tryz.func40, Tryz.ntmps40
  go_wp2_with (go_at_call 64; refine (many_any _ a os N cap HN.out hl HX.out).mono ?_; rintro e w2 ⟨rfl, hw⟩; obtain rfl := hw)
  go_loopw [3, 4, 5] (fun v d i wr => ∃ (k n : Nat) (out : List Int), k ≤ N ∧ out.length + k ≤ N ∧ n ≤ N ∧ i = .int .i64 ((k : Int) - 1) ∧ d = .int .i64 n ∧ Lst w wr v out ∧ pileL os = out ++ pileGo os k n) (fun _ _ i _ => (intOf i + 1).toNat)
  case atStart => exact ⟨N, many os, [], Nat.le_refl _, by simp, by have := HM.out; have := HN.out; omega, rfl, rfl, ⟨Own.nil _ _, Below.refl _ _⟩, by rw [← HN.out]; rfl⟩
  case round =>
    obtain ⟨k, n, out, hk, hle, hnN, rfl, rfl, hst, hp⟩ := hrel
    have HL := Lib.hid hst
    have HB := Lib.hid hst.below.size
    have HP := Lib.hid hp
    clear hst hp
    have fin : (k = 0 ∨ n = 0) → Hid (pileL os = out) := by
      rintro (rfl | rfl)
      · show pileL os = out; rw [HP.out, pileGo, List.append_nil]
      · show pileL os = out; rw [HP.out, pileGo_zero, List.append_nil]
    by_cases hlt : 0 < k
    · obtain ⟨j, rfl⟩ : ∃ j, k = j + 1 := ⟨k - 1, by omega⟩
      have hj1 : (((j + 1 : Nat) : Int) - 1) = (j : Int) := by omega
      rw [hj1]
      clear hj1
      by_cases hn : 0 < n
      · obtain ⟨m, rfl⟩ : ∃ m, n = m + 1 := ⟨n - 1, by omega⟩
        clear fin
        have hjl : j < os.length := by rw [HN.out]; omega
        have hjN : j < N := by omega
        have hjc : j ≤ cap := by omega
        obtain ⟨b, rfl, c0, c1⟩ := (HX.out.later HL.out.below) j hjl
        have HS := Lib.hid (pileGo_succ hjl m)
        have HT : Hid ((os.take j).length = j) := by show _ = _; simp; omega
        have hm1 : (((m + 1 : Nat) : Int) - 1) = (m : Int) := by omega
        generalize os[j] = o at *
        obtain ⟨K, Y⟩ := o
        simp only at c0 c1
        have hjz : (0 : Int) ≤ (j : Int) := by omega
        have hmz : (0 : Int) < ((m + 1 : Nat) : Int) := by omega
        clear hjl hlt hn
        have HM1 := Lib.hid hm1
        clear hm1
        generalize hz : ((m + 1 : Nat) : Int) = z at *
        have HZ := Lib.hid hz
        clear hz
        have hz1 : z ≤ 1001 := by have := HZ.out; omega
        by_cases h4 : K = 4
        · subst h4
          by_cases hq : many (os.take j) = m
          · have HH : Hid (pileGo os (j + 1) (m + 1) = Y :: pileGo os j m) := by show _ = _; rw [HS.out, if_pos ⟨rfl, hq⟩]
            have hqb : (((many (os.take j) : Nat) : Int) == z - 1) = true := beq_iff_eq.2 (by rw [HM1.out, hq])
            clear hq
            obtain ⟨i0, hi, hz0, hz1, hz2⟩ := info_parts Tryzinfo_int
            have hml : out.length + 1 ≤ maxLen := by unfold maxLen; omega
            go_wp2_with (first
              | (go_at_call 64; refine (many_any _ (some b) (os.take j) j cap HT.out (by omega) ((HX.out.later HL.out.below).take j)).mono ?_; rintro e w2 ⟨rfl, hw⟩; obtain rfl := hw)
              | (at_builtin; refine wpList_append_own _ rfl (.tmp 34) (.tmp 40) 29 rfl w.heap.size 3 i0 (.int .i64 0) 1 8 Tryz.underlying29 hi hz0 hz1 hz2 rfl (by decide) _ out.length (out.map (Value.int .i64)) rfl (HL.out.own.below ((Below.refl _ _).alloc (Nat.le_refl _) (.cells #[.int .i64 Y] 3))) ⟨wr.heap.size, 0, none⟩ 1 1 [.int .i64 Y] rfl rfl (cell_one_new _ _ _) (one_cell _ rfl) hml (by omega) (by have := HB.out; simp; omega) ?_; intro v' w3 hown' hgrow hiff; have L3 := Lib.hid (HL.out.more hown' hgrow); clear hown' hgrow hiff))
            go_roundw
            case rel => exact ⟨j, m, out ++ [Y], by omega, by simp; omega, by omega, rfl, by rw [HM1.out], L3.out, by rw [HP.out, HH.out]; simp⟩
            case measure => simp [intOf]
          · have HH : Hid (pileGo os (j + 1) (m + 1) = pileGo os j (m + 1)) := by show _ = _; rw [HS.out, if_neg (fun h => hq h.2)]
            have hqb : (((many (os.take j) : Nat) : Int) == z - 1) = false := beq_eq_false_iff_ne.2 (by rw [HM1.out]; omega)
            clear hq
            go_wp2_with (go_at_call 64; refine (many_any _ (some b) (os.take j) j cap HT.out (by omega) ((HX.out.later HL.out.below).take j)).mono ?_; rintro e w2 ⟨rfl, hw⟩; obtain rfl := hw)
            go_roundw
            case rel => exact ⟨j, m + 1, out, by omega, by omega, by omega, rfl, by rw [HZ.out], HL.out, by rw [HP.out, HH.out]⟩
            case measure => simp [intOf]
        · have h4b : (K == 4) = false := beq_eq_false_iff_ne.2 h4
          have HH : Hid (pileGo os (j + 1) (m + 1) = pileGo os j (m + 1)) := by show _ = _; rw [HS.out, if_neg (fun h => h4 h.1)]
          clear h4
          go_wp2
          go_roundw
          case rel => exact ⟨j, m + 1, out, by omega, by omega, by omega, rfl, by rw [HZ.out], HL.out, by rw [HP.out, HH.out]⟩
          case measure => simp [intOf]
      · obtain rfl : n = 0 := by omega
        have F := fin (Or.inr rfl)
        clear fin
        go_wp2
        go_returns
        rw [F.out]
        exact HL.out.told
    · obtain rfl : k = 0 := by omega
      have F := fin (Or.inl rfl)
      clear fin
      go_wp2
      go_returns
      rw [F.out]
      exact HL.out.told

set_option maxRecDepth 100000 in
set_option maxHeartbeats 2000000 in
theorem keys_any (w : World) (s : Int) (a : Option Addr) (os : List OpV) (N cap : Nat) (hN : os.length = N) (hl : N ≤ 1000) (hx : OpsAt w a os) (h3 : ¬ s = 3) (h4 : ¬ s = 4) :
    Calls Tryz.prog 17 #[.int .i64 s, .slice a N cap] w (Told w (keysL os)) := by
  have HX := Lib.hid hx
  have HN := Lib.hid hN
  have h3b : (s == 3) = false := beq_eq_false_iff_ne.2 h3
  have h4b : (s == 4) = false := beq_eq_false_iff_ne.2 h4
  clear hx hN h3 h4
  go_enter Tryz.func17, Tryz.ntmps17
  go_wp2
  go_loopw [5, 6] (fun v i wr => ∃ k : Nat, k ≤ 1000 ∧ i = .int .i64 k ∧ Lst w wr v (keysTo os k)) (fun _ i _ => 1000 - (intOf i).toNat)
  case atStart => exact ⟨0, Nat.zero_le _, rfl, ⟨Own.nil _ _, Below.refl _ _⟩⟩
  case round =>
    obtain ⟨k, hk, rfl, hst⟩ := hrel
    have HL := Lib.hid hst
    have HB := Lib.hid hst.below.size
    have HS := Lib.hid (keysTo_succ os k)
    have hkl := keysTo_len os k
    clear hst
    by_cases hlt : k < 1000
    · have hle : (k : Int) ≤ 999 := by omega
      cases hin : inB os (k : Int)
      · have HI := Lib.hid hin
        clear hin
        go_wp2_with (go_at_call 41; refine (in_any _ _ a os N cap HN.out hl (HX.out.later HL.out.below)).mono ?_; rw [HI.out]; rintro e w2 ⟨rfl, hw⟩; obtain rfl := hw)
        go_roundw
        case rel => exact ⟨k + 1, by omega, by go_num, by rw [HS.out, HI.out]; simpa using HL.out⟩
        case measure => simp [intOf]; omega
      · have HI := Lib.hid hin
        clear hin
        obtain ⟨i0, hi, hz0, hz1, hz2⟩ := info_parts Tryzinfo_int
        have hml : (keysTo os k).length + 1 ≤ maxLen := by unfold maxLen; omega
        go_wp2_with (first
          | (go_at_call 41; refine (in_any _ _ a os N cap HN.out hl (HX.out.later HL.out.below)).mono ?_; rw [HI.out]; rintro e w2 ⟨rfl, hw⟩; obtain rfl := hw)
          | (at_builtin; refine wpList_append_own _ rfl (.tmp 22) (.tmp 24) 29 rfl w.heap.size 3 i0 (.int .i64 0) 1 8 Tryz.underlying29 hi hz0 hz1 hz2 rfl (by decide) _ (keysTo os k).length ((keysTo os k).map (Value.int .i64)) rfl (HL.out.own.below ((Below.refl _ _).alloc (Nat.le_refl _) (.cells #[.int .i64 (k : Int)] 3))) ⟨wr.heap.size, 0, none⟩ 1 1 [.int .i64 (k : Int)] rfl rfl (cell_one_new _ _ _) (one_cell _ rfl) hml (by omega) (by have := HB.out; simp; omega) ?_; intro v' w3 hown' hgrow hiff; have L3 := Lib.hid (HL.out.more hown' hgrow); clear hown' hgrow hiff))
        go_roundw
        case rel => exact ⟨k + 1, by omega, by go_num, by rw [HS.out, if_pos HI.out]; exact L3.out⟩
        case measure => simp [intOf]; omega
    · obtain rfl : k = 1000 := by omega
      go_wp2
      go_returns
      exact HL.out.told

set_option maxHeartbeats 1000000 in
theorem itemsR_any (w : World) (s : Int) (a : Option Addr) (os : List OpV) (N cap : Nat) (hN : os.length = N) (hl : N ≤ 1000) (hc : N ≤ cap) (hx : OpsAt w a os) :
    Calls Tryz.prog 17 #[.int .i64 s, .slice a N cap] w (Told w (itemsR s os)) := by
  unfold itemsR
  by_cases h3 : s = 3
  · subst h3
    rw [if_pos rfl]
    have HX := Lib.hid hx
    have HN := Lib.hid hN
    clear hx hN
    go_enter Tryz.func17, Tryz.ntmps17
    go_wp2_with (go_at_call 39; refine (line_any _ a os N cap HN.out hl HX.out).mono ?_; rintro e w2 ⟨A, c, g, rfl, h⟩; have H := Lib.hid h; clear h)
    go_returns
    exact ⟨A, c, g, rfl, H.out⟩
  · rw [if_neg h3]
    by_cases h4 : s = 4
    · subst h4
      rw [if_pos rfl]
      have HX := Lib.hid hx
      have HN := Lib.hid hN
      clear hx hN
      go_enter Tryz.func17, Tryz.ntmps17
      go_wp2_with (go_at_call 40; refine (pile_any _ a os N cap HN.out hl hc HX.out).mono ?_; rintro e w2 ⟨A, c, g, rfl, h⟩; have H := Lib.hid h; clear h)
      go_returns
      exact ⟨A, c, g, rfl, H.out⟩
    · rw [if_neg h4]
      exact keys_any w s a os N cap hN hl hx h3 h4
end Go.Proofs.YtmpilokgbblonaaGreat.spec
