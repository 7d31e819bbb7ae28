/- What a search asks of one call: must it stand, may it, was it told what the meaning tells, is it a Put, a Take. -/
import Derived.Test.YtmpilokgbblonaaGreatKa04
import Derived.Test.YtmpilokgbblonaaGreatKa07
import Derived.Test.YtmpilokgbblonaaGreatKa09
import Derived.Laws.Cover4
import Derived.Maps.OwnSet
import Derived.DeepKeys4
namespace Go.Proofs.YtmpilokgbblonaaGreat.lin
open Go.RowKit
open hist (ClV befB Blk9 spanPend_any past new_block eq_op eq_res eq_span)
open task (ret_bool rightB)

/-- A call as an argument. -/
def clA (i : Nat) (c : ClV) : Value := .agg #[.int .i64 c.B, .int .i64 c.D, .int .i64 (i : Int), .int .i64 c.T, .int .i64 c.K, .int .i64 c.Y, .int .i64 c.C, .bool c.O, .int .i64 c.V]
/-- Was it told this? (Of a pending one: whatever.) -/
def suitsB (c : ClV) (C : Int) (O : Bool) (V : Int) : Bool := decide (c.D < 0) || (c.C == C && (c.O == O && c.V == V))
def takesB (c : ClV) (x : Int) : Bool := decide (c.K = 5) && suitsB c 0 true x
def missB (c : ClV) : Bool := decide (c.K = 5) && mustC c && suitsB c 0 false 0
attribute [local go_sem] eq_op eq_res eq_span

theorem must_any (w : World) (i : Nat) (c : ClV) :
    Calls Tryz.prog 37 #[clA i c] w fun e w' => e = .returned (.bool (mustC c)) ∧ Below w.heap.size w w' := by
  unfold clA
  have NB := Lib.hid (new_block w #[.int .i64 c.B, .int .i64 c.D, .int .i64 (i : Int), .int .i64 c.T, .int .i64 c.K, .int .i64 c.Y, .int .i64 c.C, .bool c.O, .int .i64 c.V] 85)
  by_cases hd : c.D < 0
  · have hm : mustC c = false := by unfold mustC; rw [decide_eq_false (by omega)]; rfl
    rw [hm]
    have dd : decide (c.D < 0) = true := decide_eq_true hd
    clear hm
    go_enter Tryz.func37, Tryz.ntmps37
    go_wp2_with (go_at_call 59; refine (spanPend_any _ c.B c.D).mono ?_; rintro e w1 ⟨rfl, hb⟩; have B1 := Lib.hid hb; have K1 := Lib.hid ((⟨NB.out⟩ : Blk9 _ _ i c).below hb); clear hb; rw [dd])
    go_returns
    exact ⟨rfl, past (by go_grown) B1.out⟩
  · have hm : mustC c = decide (c.C = 0) := by unfold mustC; rw [decide_eq_true (by omega)]; rfl
    rw [hm]
    have dd : decide (c.D < 0) = false := decide_eq_false hd
    clear hm
    go_enter Tryz.func37, Tryz.ntmps37
    go_wp2_with (go_at_call 59; refine (spanPend_any _ c.B c.D).mono ?_; rintro e w1 ⟨rfl, hb⟩; have B1 := Lib.hid hb; have K1 := Lib.hid ((⟨NB.out⟩ : Blk9 _ _ i c).below hb); obtain ⟨q0, q1, q2, q3, q4, q5, q6, q7, q8⟩ := K1.out.cells; clear hb; rw [dd])
    go_returns
    refine ⟨?_, past (by go_grown) B1.out⟩
    refine ret_bool ?_
    simp
theorem may_any (w : World) (s : Int) (i : Nat) (c : ClV) :
    Calls Tryz.prog 34 #[.int .i64 s, clA i c] w fun e w' => e = .returned (.bool (mayC s c)) ∧ Below w.heap.size w w' := by
  have HM0 := must_any
  unfold clA at HM0 ⊢
  have HMU := Lib.hid HM0
  clear HM0
  have NB := Lib.hid (new_block w #[.int .i64 c.B, .int .i64 c.D, .int .i64 (i : Int), .int .i64 c.T, .int .i64 c.K, .int .i64 c.Y, .int .i64 c.C, .bool c.O, .int .i64 c.V] 85)
  generalize hr : rightB s c.K c.Y = r at *
  have HR := Lib.hid hr
  by_cases hd : c.D < 0
  · have dd : decide (c.D < 0) = true := decide_eq_true hd
    have hm : mayC s c = r := by unfold mayC; rw [hr, dd, Bool.true_or, Bool.and_true]
    rw [hm]
    clear hm hr hd
    go_enter Tryz.func34, Tryz.ntmps34
    go_wp2_with (first
      | (go_at_call 60; have _t := K1.out; go_loud (refine (task.right_any _ s c.K c.Y).mono ?_; rintro e w2 ⟨rfl, hb⟩; rw [HR.out]; have B2 := Lib.hid hb; clear hb))
      | (go_at_call 59; refine (spanPend_any _ c.B c.D).mono ?_; rintro e w1 ⟨rfl, hb⟩; have B1 := Lib.hid hb; have K1 := Lib.hid ((⟨NB.out⟩ : Blk9 _ _ i c).below hb); obtain ⟨q0, q1, q2, q3, q4, q5, q6, q7, q8⟩ := K1.out.cells; clear hb; rw [dd]))
    go_returns
    exact ⟨rfl, past (past (by go_grown) B1.out) B2.out⟩
  · have dd : decide (c.D < 0) = false := decide_eq_false hd
    have hm : mayC s c = (r && mustC c) := by
      unfold mayC mustC
      rw [hr, dd, Bool.false_or, decide_eq_true (show 0 ≤ c.D by omega), Bool.true_and]
    rw [hm]
    clear hm hr hd
    cases hmu : mustC c
    · have H6 := Lib.hid hmu
      rw [Bool.and_false]
      clear hmu
      go_enter Tryz.func34, Tryz.ntmps34
      go_wp2_with (first
        | (go_at_call 37; have _t := K1.out; go_loud (refine (HMU.out _ i c).mono ?_; rintro e w2 ⟨rfl, hb⟩; rw [H6.out]; have B2 := Lib.hid hb; clear hb))
        | (go_at_call 59; refine (spanPend_any _ c.B c.D).mono ?_; rintro e w1 ⟨rfl, hb⟩; have B1 := Lib.hid hb; have K1 := Lib.hid ((⟨NB.out⟩ : Blk9 _ _ i c).below hb); obtain ⟨q0, q1, q2, q3, q4, q5, q6, q7, q8⟩ := K1.out.cells; clear hb; rw [dd]))
      go_returns
      exact ⟨rfl, past (past (by go_grown) B1.out) B2.out⟩
    · have H6 := Lib.hid hmu
      rw [Bool.and_true]
      clear hmu
      go_enter Tryz.func34, Tryz.ntmps34
      go_wp2_with (first
        | (go_at_call 60; have _t := K2.out; go_loud (refine (task.right_any _ s c.K c.Y).mono ?_; rintro e w3 ⟨rfl, hb⟩; rw [HR.out]; have B3 := Lib.hid hb; clear hb))
        | (go_at_call 37; have _t := K1.out; go_loud (refine (HMU.out _ i c).mono ?_; rintro e w2 ⟨rfl, hb⟩; rw [H6.out]; have B2 := Lib.hid hb; have K2 := Lib.hid (K1.out.below hb); obtain ⟨e0, e1, e2, e3, e4, e5, e6, e7, e8⟩ := K2.out.cells; clear hb))
        | (go_at_call 59; refine (spanPend_any _ c.B c.D).mono ?_; rintro e w1 ⟨rfl, hb⟩; have B1 := Lib.hid hb; have K1 := Lib.hid ((⟨NB.out⟩ : Blk9 _ _ i c).below hb); obtain ⟨q0, q1, q2, q3, q4, q5, q6, q7, q8⟩ := K1.out.cells; clear hb; rw [dd]))
      go_returns
      exact ⟨rfl, past (past (past (by go_grown) B1.out) B2.out) B3.out⟩
theorem suits_any (w : World) (i : Nat) (c : ClV) (C V : Int) (O : Bool) :
    Calls Tryz.prog 49 #[clA i c, .agg #[.int .i64 C, .bool O, .int .i64 V]] w fun e w' => e = .returned (.bool (suitsB c C O V)) ∧ Below w.heap.size w w' := by
  unfold clA
  have NB0 := Lib.hid (new_block w #[.int .i64 c.B, .int .i64 c.D, .int .i64 (i : Int), .int .i64 c.T, .int .i64 c.K, .int .i64 c.Y, .int .i64 c.C, .bool c.O, .int .i64 c.V] 85)
  generalize hwa : w.alloc (.cells #[.int .i64 c.B, .int .i64 c.D, .int .i64 (i : Int), .int .i64 c.T, .int .i64 c.K, .int .i64 c.Y, .int .i64 c.C, .bool c.O, .int .i64 c.V] 85) = wa at NB0
  have NB1 := Lib.hid (new_block wa #[.int .i64 C, .bool O, .int .i64 V] 55)
  have NB : Hid (Blk9 (wa.alloc (.cells #[.int .i64 C, .bool O, .int .i64 V] 55)) w.heap.size i c) := Lib.hid ((⟨NB0.out⟩ : Blk9 _ _ i c).below ((Below.refl _ _).alloc (Nat.le_refl _) _))
  have hsz : wa.heap.size = w.heap.size + 1 := by rw [← hwa]; simp
  rw [hsz] at NB1
  subst hwa
  clear NB0 hsz
  by_cases hd : c.D < 0
  · have dd : decide (c.D < 0) = true := decide_eq_true hd
    unfold suitsB
    rw [dd, Bool.true_or]
    go_enter Tryz.func49, Tryz.ntmps49
    go_wp2_with (go_at_call 59; refine (spanPend_any _ c.B c.D).mono ?_; rintro e w1 ⟨rfl, hb⟩; have B1 := Lib.hid hb; clear hb; rw [dd])
    go_returns
    exact ⟨rfl, past (by go_grown) B1.out⟩
  · have dd : decide (c.D < 0) = false := decide_eq_false hd
    unfold suitsB
    rw [dd, Bool.false_or]
    go_enter Tryz.func49, Tryz.ntmps49
    go_wp2_with (go_at_call 59; go_loud (refine (spanPend_any _ c.B c.D).mono ?_; rintro e w1 ⟨rfl, hb⟩; have B1 := Lib.hid hb; have K1 := Lib.hid (NB.out.below hb); obtain ⟨q0, q1, q2, q3, q4, q5, q6, q7, q8⟩ := K1.out.cells; have R1 := (hb.block _ (Array.getElem?_eq_some_iff.1 NB1.out).1).trans NB1.out; have r0 := Joins.cell_of_block R1 (i := 0); have r1 := Joins.cell_of_block R1 (i := 1); have r2 := Joins.cell_of_block R1 (i := 2); simp at r0 r1 r2; clear hb R1; rw [dd]))
    all_goals
      go_returns
      refine ⟨?_, past (by go_grown) B1.out⟩
      refine ret_bool ?_
      simp_all
theorem puts_any (w : World) (i : Nat) (c : ClV) :
    Calls Tryz.prog 48 #[clA i c] w fun e w' => e = .returned (.bool (decide (c.K = 4))) ∧ Below w.heap.size w w' := by
  unfold clA
  go_enter Tryz.func48, Tryz.ntmps48
  go_wp2
  go_returns
  refine ⟨?_, by go_grown⟩
  refine ret_bool ?_
  simp
theorem takes_any (w : World) (i : Nat) (c : ClV) (x : Int) :
    Calls Tryz.prog 88 #[clA i c, .int .i64 x] w fun e w' => e = .returned (.bool (takesB c x)) ∧ Below w.heap.size w w' := by
  have HS := suits_any
  unfold clA at HS ⊢
  by_cases hk : c.K = 5
  · have d5 : (c.K == 5) = true := beq_iff_eq.2 hk
    unfold takesB
    rw [decide_eq_true hk, Bool.true_and]
    generalize hs : suitsB c 0 true x = s at *
    have H5 := Lib.hid hs
    have HSS := Lib.hid HS
    clear hs hk HS
    go_enter Tryz.func88, Tryz.ntmps88
    go_wp2_with (go_at_call 49; go_loud (refine (HSS.out _ i c 0 x true).mono ?_; rintro e w2 ⟨rfl, hb⟩; have B2 := Lib.hid hb; clear hb; rw [H5.out]))
    go_returns
    exact ⟨rfl, past (by go_grown) B2.out⟩
  · have d5 : (c.K == 5) = false := by rw [Bool.eq_false_iff]; exact fun h => hk (beq_iff_eq.1 h)
    unfold takesB
    rw [decide_eq_false hk, Bool.false_and]
    clear hk HS
    go_enter Tryz.func88, Tryz.ntmps88
    go_wp2
    go_returns
    exact ⟨rfl, by go_grown⟩
theorem misses_any (w : World) (i : Nat) (c : ClV) :
    Calls Tryz.prog 89 #[clA i c] w fun e w' => e = .returned (.bool (missB c)) ∧ Below w.heap.size w w' := by
  have HS := suits_any
  have HM := must_any
  unfold clA at HS HM ⊢
  have NB := Lib.hid (new_block w #[.int .i64 c.B, .int .i64 c.D, .int .i64 (i : Int), .int .i64 c.T, .int .i64 c.K, .int .i64 c.Y, .int .i64 c.C, .bool c.O, .int .i64 c.V] 85)
  by_cases hk : c.K = 5
  · have d5 : (c.K == 5) = true := beq_iff_eq.2 hk
    unfold missB
    rw [decide_eq_true hk, Bool.true_and]
    generalize hs : suitsB c 0 false 0 = s at *
    have H5 := Lib.hid hs
    have HSS := Lib.hid HS
    have HMM := Lib.hid HM
    cases hm : mustC c
    · have H6 := Lib.hid hm
      rw [Bool.false_and]
      clear hs hk HS HM hm
      go_enter Tryz.func89, Tryz.ntmps89
      go_wp2_with (go_at_call 37; go_loud (refine (HMM.out _ i c).mono ?_; rintro e w2 ⟨rfl, hb⟩; have B2 := Lib.hid hb; clear hb; rw [H6.out]))
      go_returns
      exact ⟨rfl, past (by go_grown) B2.out⟩
    · have H6 := Lib.hid hm
      rw [Bool.true_and]
      clear hs hk HS HM hm
      go_enter Tryz.func89, Tryz.ntmps89
      go_wp2_with (first
        | (go_at_call 49; have _t := K1.out; go_loud (refine (HSS.out _ i c 0 0 false).mono ?_; rintro e w3 ⟨rfl, hb⟩; have B3 := Lib.hid hb; clear hb; rw [H5.out]))
        | (go_at_call 37; go_loud (refine (HMM.out _ i c).mono ?_; rintro e w2 ⟨rfl, hb⟩; have B2 := Lib.hid hb; have K1 := Lib.hid ((⟨NB.out⟩ : Blk9 _ _ i c).below hb); obtain ⟨q0, q1, q2, q3, q4, q5, q6, q7, q8⟩ := K1.out.cells; clear hb; rw [H6.out])))
      go_returns
      exact ⟨rfl, past (past (by go_grown) B2.out) B3.out⟩
  · have d5 : (c.K == 5) = false := by rw [Bool.eq_false_iff]; exact fun h => hk (beq_iff_eq.1 h)
    unfold missB
    rw [decide_eq_false hk, Bool.false_and, Bool.false_and]
    clear hk HS HM
    go_enter Tryz.func89, Tryz.ntmps89
    go_wp2
    go_returns
    exact ⟨rfl, by go_grown⟩
end Go.Proofs.YtmpilokgbblonaaGreat.lin
/- What a search keeps of what led nowhere: a map whose keys are the calls that stand, and the items as a text; two texts of unlike items are unlike. -/
namespace Go.Proofs.YtmpilokgbblonaaGreat.lin
open Go.RowKit Go.Maps
open hist (past new_block Went)

/-- A key, or the mark that lies under what is never taken. -/
def keyR (x : Int) : Prop := -1 ≤ x ∧ x ≤ 999
/-- A number's bytes, as numbers. -/
def cd (n : Int) : List Nat := if n < 0 then [239, 191, 189] else if n < 128 then [n.toNat] else [192 + n.toNat / 64, 128 + n.toNat % 64]
theorem cd_inj {a b : Int} (ha : keyR a) (hb : keyR b) {s t : List Nat} (h : cd a ++ s = cd b ++ t) : a = b ∧ s = t := by
  obtain ⟨a0, a1⟩ := ha
  obtain ⟨b0, b1⟩ := hb
  unfold cd at h
  by_cases p1 : a < 0 <;> by_cases p2 : a < 128 <;> by_cases q1 : b < 0 <;> by_cases q2 : b < 128
  all_goals (first | omega | skip)
  all_goals simp only [p1, p2, q1, q2, if_true, if_false, List.cons_append, List.nil_append, List.cons.injEq] at h
  all_goals first
    | (exfalso; omega)
    | (refine ⟨by omega, ?_⟩; first | exact h.2 | exact h.2.2 | exact h.2.2.2)
theorem ofNat_nat (a : Nat) (h : a < 256) : (UInt8.ofNat a).toNat = a := by
  rw [UInt8.toNat_ofNat']
  exact Nat.mod_eq_of_lt h
theorem cd_bytes {n : Int} (h : keyR n) : (Utf8.encode n).data.toList.map UInt8.toNat = cd n := by
  obtain ⟨h0, h1⟩ := h
  by_cases p1 : n < 0
  · obtain rfl : n = -1 := by omega
    decide
  · have hv : Utf8.valid n = true := by
      unfold Utf8.valid
      rw [decide_eq_true (show 0 ≤ n by omega), decide_eq_true (show n < 0xD800 by omega)]
      rfl
    unfold Utf8.encode cd
    rw [if_pos hv, if_neg p1]
    by_cases p2 : n < 128
    · rw [if_pos p2, if_pos (show n.toNat < 0x80 by omega)]
      simp only [List.map_cons, List.map_nil]
      rw [ofNat_nat _ (by omega)]
    · rw [if_neg p2, if_neg (show ¬ n.toNat < 0x80 by omega), if_pos (show n.toNat < 0x800 by omega)]
      simp only [List.map_cons, List.map_nil]
      rw [ofNat_nat _ (by omega), ofNat_nat _ (by omega)]
theorem runes_fold (ns : List Int) : ∀ s : ByteArray, (ns.foldl (fun r n => r ++ Utf8.encode n) s).data.toList = s.data.toList ++ ns.flatMap fun n => (Utf8.encode n).data.toList := by
  induction ns with
  | nil => intro s; simp
  | cons n ns ih =>
    intro s
    rw [List.foldl_cons, ih, ByteArray.data_append, Array.toList_append, List.flatMap_cons, List.append_assoc]
theorem runes_inj : ∀ {a b : List Int}, (∀ x ∈ a, keyR x) → (∀ x ∈ b, keyR x) → runesBytes a = runesBytes b → a = b := by
  intro a b ha hb h
  have e : ∀ ns : List Int, (runesBytes ns).data.toList = ns.flatMap fun n => (Utf8.encode n).data.toList := fun ns => by
    unfold runesBytes
    rw [runes_fold]
    rfl
  have h2 := congrArg (fun x : ByteArray => x.data.toList.map UInt8.toNat) h
  simp only [e] at h2
  clear h e
  induction a generalizing b with
  | nil =>
    cases b with
    | nil => rfl
    | cons y b =>
      exfalso
      rw [List.flatMap_cons, List.map_append, cd_bytes (hb y (List.mem_cons_self ..))] at h2
      unfold cd at h2
      split at h2
      · simp at h2
      · split at h2 <;> simp at h2
  | cons x a ih =>
    cases b with
    | nil =>
      exfalso
      rw [List.flatMap_cons, List.map_append, cd_bytes (ha x (List.mem_cons_self ..))] at h2
      unfold cd at h2
      split at h2
      · simp at h2
      · split at h2 <;> simp at h2
    | cons y b =>
      rw [List.flatMap_cons, List.flatMap_cons, List.map_append, List.map_append, cd_bytes (ha x (List.mem_cons_self ..)), cd_bytes (hb y (List.mem_cons_self ..))] at h2
      obtain ⟨rfl, h3⟩ := cd_inj (ha x (List.mem_cons_self ..)) (hb y (List.mem_cons_self ..)) h2
      rw [ih (fun z hz => ha z (List.mem_cons_of_mem _ hz)) (fun z hz => hb z (List.mem_cons_of_mem _ hz)) h3]

/-! The map's keys. -/
theorem Tryzlin_laidOut : laidOutB Tryz.prog = true := by kernel_rfl
theorem Tryzlin_row : (116 : TypeId) < Tryz.prog.types.size := of_decide_eq_true (by kernel_rfl)
theorem Tryzlin_deep3 : Tryz.prog.keyTypeAt 3 116 = true := by kernel_rfl
theorem Tryzlin_law : Keyed Tryz.prog 116 := Keyed.of_law (deep_law_laid Tryzlin_laidOut (m := 3) (by omega) Tryzlin_row Tryzlin_deep3 (by rw [Tryz.underlying116]))
/-- The state's value. -/
def stA (g : Nat) (M : List Int) : Value := .agg #[.int .u32 (g : Int), .string (runesBytes M)]
theorem Tryzlin_cells : Tryz.prog.cellsOf 116 = 2 := by kernel_rfl
theorem Tryzlin_cellsG : Tryz.prog.cellsOf 79 = 1 := by kernel_rfl
theorem Tryzlin_cellsS : Tryz.prog.cellsOf 9 = 1 := by kernel_rfl
theorem Tryzlin_deep : Tryz.prog.keyType 116 = true := by kernel_rfl
theorem state_lits (d g : Nat) (s : ByteArray) (hs : s.size ≤ maxLen) (hw : (Lit.int .u32 (g : Int)).wf = true) : Tryz.prog.keyLits (d + 1 + 1) 116 [.int .u32 (g : Int), .string s] = some [.int .u32 (g : Int), .string s.data.toList] := by
  simp [Program.keyLits, Tryz.underlying116, Tryz.underlying79, Tryz.underlying9, Tryzlin_cells, Tryzlin_cellsG, Tryzlin_cellsS, hs, hw]
theorem state_key (g : Nat) (M : List Int) (hg : g < 4294967296) (hM : M.length ≤ 1000) : ∃ kl, keyOf Tryz.prog 116 (stA g M) = some kl := by
  have hs : (runesBytes M).size ≤ maxLen := by
    have := runesBytes_size_le M
    unfold maxLen
    omega
  have hw : (Lit.int .u32 (g : Int)).wf = true := WalkArith.wf_u32 (by omega)
  have hf : (stA g M).formed Tryz.prog 116 = true := by simp [stA, Value.formed, Tryz.underlying116, Tryzlin_cells]
  have h0 : 0 < Tryz.prog.types.size := Nat.lt_of_le_of_lt (Nat.zero_le _) Tryzlin_row
  have hd : Tryz.prog.types.size + 1 = (Tryz.prog.types.size - 1) + 1 + 1 := by rw [Nat.sub_add_cancel h0]
  refine ⟨.string (keyBytes [.int .u32 (g : Int), .string (runesBytes M).data.toList]), ?_⟩
  unfold keyOf
  rw [Tryz.underlying116]
  simp only [Tryzlin_deep, hf, Bool.and_self, if_true]
  rw [hd]
  have := state_lits (Tryz.prog.types.size - 1) g (runesBytes M) hs hw
  rw [show (stA g M).cells.toList = [.int .u32 (g : Int), .string (runesBytes M)] from rfl, this]
  rfl
theorem state_same {g g' : Nat} {M M' : List Int} (h : ∀ x ∈ M, keyR x) (h' : ∀ x ∈ M', keyR x) {kl : Lit} (e : keyOf Tryz.prog 116 (stA g M) = some kl) (e' : keyOf Tryz.prog 116 (stA g' M') = some kl) : g = g' ∧ M = M' := by
  have hv := Tryzlin_law.inj e e'
  unfold stA at hv
  have h2 := congrArg Array.toList (Value.agg.inj hv)
  simp only [List.cons.injEq, Value.int.injEq, Value.string.injEq] at h2
  obtain ⟨⟨_, hg⟩, hs, _⟩ := h2
  exact ⟨by omega, runes_inj h h' hs⟩
/-- What led nowhere: of these the map has just such as are no good. -/
structure DeadM (Good : Nat → List Int → Prop) (w : World) (D n : Nat) (T : DataW Unit) : Prop where
  own : w.ownsMap Tryz.prog 116 (unitElem (H := Unit)) D n T
  isMap : IsMap T
  dead : ∀ g M kl, (∀ x ∈ M, keyR x) → keyOf Tryz.prog 116 (stA g M) = some kl → Maps.has T kl = true → ¬ Good g M
theorem DeadM.put {Good : Nat → List Int → Prop} {w w' : World} {D n : Nat} {T : DataW Unit} (h : DeadM Good w D n T) {g : Nat} {M : List Int} (hM : ∀ x ∈ M, keyR x) {kl : Lit} (hk : keyOf Tryz.prog 116 (stA g M) = some kl) (hb : ¬ Good g M) {d : DataW Unit}
    (ho : w'.ownsMap Tryz.prog 116 (unitElem (H := Unit)) D (n + 1) (T.put kl d)) : DeadM Good w' D (n + 1) (T.put kl d) := by
  refine ⟨ho, h.isMap.put _ _, fun g' M' kl' hM' hk' hh => ?_⟩
  by_cases e : kl' = kl
  · subst e
    obtain ⟨rfl, rfl⟩ := state_same hM' hM hk' hk
    exact hb
  · rw [has_put_other e] at hh
    exact h.dead g' M' kl' hM' hk' hh
theorem DeadM.kept {Good : Nat → List Int → Prop} {w w' : World} {D n : Nat} {T : DataW Unit} (h : DeadM Good w D n T) {row : Option Nat} (hg : w.grownBy w' row) (hne : some D ≠ row) : DeadM Good w' D n T := ⟨h.own.kept hg hne, h.isMap, h.dead⟩
theorem DeadM.moved {Good : Nat → List Int → Prop} {w w' : World} {D n : Nat} {T : DataW Unit} (h : DeadM Good w D n T) (hb : w'.heap[D]? = w.heap[D]?) : DeadM Good w' D n T := by
  obtain ⟨es, clock, h1, h2⟩ := h.own
  exact ⟨⟨es, clock, by rw [hb]; exact h1, h2⟩, h.isMap, h.dead⟩
theorem DeadM.lt {Good : Nat → List Int → Prop} {w : World} {D n : Nat} {T : DataW Unit} (h : DeadM Good w D n T) : D < w.heap.size := h.own.lt
theorem dead_made (Good : Nat → List Int → Prop) (w : World) : DeadM Good (w.alloc (.map #[] 0)) w.heap.size 0 (.map []) := ⟨World.ownsMap_made _ _ _ _, isMap_empty, fun g M kl _ _ h => by simp [Maps.has] at h⟩
end Go.Proofs.YtmpilokgbblonaaGreat.lin
