/- Rows of the call's own that grow; the document's calls of events. -/
import Derived.Test.YtmpilokgbblonaaGreatKa07
import Derived.BigRegion
import Derived.Test.YtmpilokgbblonaaGreatKa05
import Derived.BigQuiet
import Derived.Deep.RegionHeld3
import Derived.Lib.SliceRun
namespace Go.Proofs.YtmpilokgbblonaaGreat.hist
open Go.RowKit

theorem wpList_known {P : Program} {w : World} {ops : Array Oper} {rest : List Oper} {o : Oper} {a : Act} {Q : Exit → Act → World → Prop} (hgd : o.guard = none) (s x : Operand) (t : TypeId)
    (ho : o.op = .call { callee := .builtin .append, args := #[s, x], argTypes := #[t, t] }) (v u v' : Value) (w' : World) (hs : a.eval s = v) (hx : a.eval x = u)
    (hrun : (Builtin.append_ #[t, t] o.type #[v, u]).run P w = .ok v' w') (h : wpList P ops Q rest (a.put o.dst v') w') : wpList P ops Q (o :: rest) a w := by
  refine wpList_plain hgd fun K hK => ?_
  unfold Oper.wp
  simp [execOp, ho, resolve, invoke, builtin, hs, hx, hrun, Result.andThen]
  exact hK _ _ h

/-- A row of the call's own, made behind world W. -/
structure Grow {α : Type} (f : Nat → α → List Value) (k : Nat) (T : TypeId) (W w : World) (v : Value) (L : List α) : Prop where
  own : Own f k T w v L
  new : ∀ g, v.ownBlock = some g → W.heap.size ≤ g
  below : Below W.heap.size W w
section
variable {α : Type} {f : Nat → α → List Value} {k : Nat} {T : TypeId} {W w w' : World} {v v' : Value} {L : List α}
theorem Grow.nil (f : Nat → α → List Value) (k : Nat) (T : TypeId) (h : Below W.heap.size W w) : Grow f k T W w (.slice none 0 0) [] := ⟨Own.nil _ _, fun g hg => by simp [Value.ownBlock] at hg, h⟩
theorem Grow.next (h : Grow f k T W w v L) (hb : Below w.heap.size w w') : Grow f k T W w' v L := ⟨h.own.below hb, h.new, past h.below hb⟩
theorem Grow.more (h : Grow f k T W w v L) {a : α} (ho : Own f k T w' v' (L ++ [a])) (hg : w.grownBy w' v.ownBlock) (hat : v'.ownBlock = v.ownBlock ∨ v'.ownBlock = some w.heap.size) : Grow f k T W w' v' (L ++ [a]) := by
  refine ⟨ho, fun g hg' => ?_, h.below.grown hg h.below.size h.new⟩
  rcases hat with e | e
  · exact h.new g (e ▸ hg')
  · rw [hg'] at e
    have := Option.some.inj e
    have := h.below.size
    omega
/-- Another one's blocks have changed. -/
theorem Grow.went (h : Grow f k T W w v L) {p p' : Nat → Prop} (hw : Went p p' w w') (hp : ∀ b, p b → W.heap.size ≤ b) (hv : ∀ g, v.ownBlock = some g → ¬ p g) : Grow f k T W w' v L :=
  ⟨h.own.moved fun g hg => hw.block g (h.own.lt hg) (hv g hg), h.new, hw.below h.below h.below.size hp⟩
theorem Grow.told (h : Grow f k T W w v L) (hf : ∀ i a, (f i a).length = k) : ∃ A c, v = .slice A L.length c ∧ L.length ≤ c ∧ c ≤ maxLen ∧ At f k w A L := by
  obtain ⟨A, c, rfl, h1, h2, _⟩ := h.own.slice
  exact ⟨A, c, rfl, h1, h2, h.own.at hf⟩
end

/-- The calls of the first events, each looked up in all. -/
def preC (l : List EvV) : Nat → List ClV
  | 0 => []
  | k + 1 => preC l k ++ match l[k]? with | some v => (if v.E = true then [] else [callOf v k (findE v.T (l.drop (k + 1)) (k + 1))]) | none => []
theorem pre_at {l : List EvV} {k : Nat} (hk : k < l.length) : preC l (k + 1) = preC l k ++ if l[k].E = true then [] else [callOf l[k] k (findE l[k].T (l.drop (k + 1)) (k + 1))] := by
  rw [preC, List.getElem?_eq_getElem hk]
theorem pre_go (l : List EvV) : ∀ k, k ≤ l.length → preC l k ++ callsGo (l.drop k) k = callsE l
  | 0, _ => rfl
  | k + 1, h => by
    have hk : k < l.length := by omega
    rw [← pre_go l k (by omega), pre_at hk, List.append_assoc, List.drop_eq_getElem_cons hk, callsGo]
theorem pre_all (l : List EvV) : preC l l.length = callsE l := by
  have h := pre_go l l.length (Nat.le_refl _)
  rw [List.drop_length] at h
  rw [← h, callsGo, List.append_nil]
theorem pre_len (l : List EvV) : ∀ k, (preC l k).length ≤ k
  | 0 => Nat.le_refl _
  | k + 1 => by
    have := pre_len l k
    rw [preC, List.length_append]
    cases l[k]? with
    | none => simp; omega
    | some v => simp only; split <;> simp <;> omega
theorem find_at {l : List EvV} {j : Nat} (hj : j < l.length) (t : Int) : findE t (l.drop j) j = if l[j].T = t then some (j, l[j]) else findE t (l.drop (j + 1)) (j + 1) := by
  rw [List.drop_eq_getElem_cons hj, findE]
theorem find_end {l : List EvV} {j : Nat} (hj : l.length ≤ j) (t : Int) : findE t (l.drop j) j = none := by
  rw [List.drop_eq_nil_of_le hj, findE]
theorem put_end {w : World} {B : Nat} {T : TypeId} {a0 a1 a2 a3 a4 a5 a6 a7 : Value} (h : w.heap[B]? = some (.cells #[a0, a1, a2, a3, a4, a5, a6, a7] T (0, 0))) (x y z u : Value) :
    ((((w.setCell ⟨B, 2, none⟩ x).setCell ⟨B, 5, none⟩ y).setCell ⟨B, 5 + 1, none⟩ z).setCell ⟨B, 5 + 2, none⟩ u).heap[B]? = some (.cells #[a0, a1, x, a3, a4, y, z, u] T (0, 0)) := by
  have h1 : (w.setCell ⟨B, 2, none⟩ x).heap[B]? = some (.cells #[a0, a1, x, a3, a4, a5, a6, a7] T (0, 0)) := Joins.block_setCell (i := 2) h x
  have h2 : ((w.setCell ⟨B, 2, none⟩ x).setCell ⟨B, 5, none⟩ y).heap[B]? = some (.cells #[a0, a1, x, a3, a4, y, a6, a7] T (0, 0)) := Joins.block_setCell (i := 5) h1 y
  have h3 : (((w.setCell ⟨B, 2, none⟩ x).setCell ⟨B, 5, none⟩ y).setCell ⟨B, 5 + 1, none⟩ z).heap[B]? = some (.cells #[a0, a1, x, a3, a4, y, z, a7] T (0, 0)) := Joins.block_setCell (i := 6) h2 z
  exact Joins.block_setCell (i := 7) h3 u
/-- The document's call being made, in a block behind world W. -/
structure One8 (W w : World) (B : Nat) (c : ClV) : Prop where
  box : w.heap[B]? = some (.cells #[.int .i64 c.T, .int .i64 c.B, .int .i64 c.D, .int .i64 c.K, .int .i64 c.Y, .int .i64 c.C, .bool c.O, .int .i64 c.V] 67 (0, 0))
  at_ : B = W.heap.size
  below : Below W.heap.size W w
theorem One8.cells {W w : World} {B : Nat} {c : ClV} (h : One8 W w B c) : w.cell? ⟨B, 0, none⟩ = some (.int .i64 c.T) ∧ w.cell? ⟨B, 1, none⟩ = some (.int .i64 c.B) ∧ w.cell? ⟨B, 2, none⟩ = some (.int .i64 c.D) ∧ w.cell? ⟨B, 3, none⟩ = some (.int .i64 c.K) ∧ w.cell? ⟨B, 4, none⟩ = some (.int .i64 c.Y)
    ∧ w.cell? ⟨B, 5, none⟩ = some (.int .i64 c.C) ∧ w.cell? ⟨B, 6, none⟩ = some (.bool c.O) ∧ w.cell? ⟨B, 7, none⟩ = some (.int .i64 c.V) ∧ ∀ i, w.frozen? ⟨B, i, none⟩ = false := by
  have hb := h.box
  refine ⟨?_, ?_, ?_, ?_, ?_, ?_, ?_, ?_, fun i => Joins.unfrozen_of_block hb i⟩ <;> (rw [Joins.cell_of_block hb]; rfl)
theorem One8.drewN {W w : World} {B : Nat} {c : ClV} (h : One8 W w B c) (n : Nat) : One8 W (w.drewN n) B c := ⟨h.box, h.at_, below_drewN h.below n⟩
theorem One8.put {W w : World} {B : Nat} {c : ClV} (h : One8 W w B c) (x y u : Int) (z : Bool) : One8 W ((((w.setCell ⟨B, 2, none⟩ (.int .i64 x)).setCell ⟨B, 5, none⟩ (.int .i64 y)).setCell ⟨B, 5 + 1, none⟩ (.bool z)).setCell ⟨B, 5 + 2, none⟩ (.int .i64 u)) B ⟨c.T, c.B, x, c.K, c.Y, y, z, u⟩ := by
  have hB : W.heap.size ≤ B := by rw [h.at_]; exact Nat.le_refl _
  exact ⟨put_end h.box _ _ _ _, h.at_, (((h.below.setCell (p := ⟨B, 2, none⟩) hB _).setCell (p := ⟨B, 5, none⟩) hB _).setCell (p := ⟨B, 5 + 1, none⟩) hB _).setCell (p := ⟨B, 5 + 2, none⟩) hB _⟩
theorem Tryzinfo_ref : (Tryz.prog.info? 67).map (fun i => (i.zero, i.size, i.bytes)) = some (some (.agg #[.int .i64 0, .int .i64 0, .int .i64 0, .int .i64 0, .int .i64 0, .int .i64 0, .bool false, .int .i64 0]), 8, 64) := by kernel_rfl

set_option maxRecDepth 100000 in
set_option maxHeartbeats 4000000 in
theorem refCalls_any (w : World) (a : Option Addr) (l : List EvV) (N cap : Nat) (hN : l.length = N) (hl : N ≤ 1000) (hx : At cells7 7 w a l) :
    Calls Tryz.prog 9 #[.slice a N cap] w fun e w' => ∃ v, e = .returned v ∧ Grow cells8 8 67 w w' v (callsE l) := by
  have HX := Lib.hid hx
  have HN := Lib.hid hN
  have hl0 : (N : Int) ≤ 1000 := by omega
  clear hx hN
  go_enter Tryz.func9, Tryz.ntmps9
  go_wp2
  go_loopw [3, 4] (fun v i wr => ∃ k : Nat, k ≤ N ∧ i = .int .i64 (k : Int) ∧ Grow cells8 8 67 w wr v (preC l k)) (fun _ i _ => N - (intOf i).toNat)
  case atStart => exact ⟨0, Nat.zero_le _, rfl, Grow.nil _ _ _ (by go_grown)⟩
  case round =>
    obtain ⟨k, hk, rfl, hg⟩ := hrel
    have HG := Lib.hid hg
    clear hg
    by_cases hlt : k < N
    · have hkl : k < l.length := by rw [HN.out]; exact hlt
      obtain ⟨b, rfl, c0, c1, c2, c3, -⟩ := (HX.out.later HG.out.below).ev k hkl
      have HP := Lib.hid (pre_at hkl)
      have hlti : (k : Int) < (N : Int) := by omega
      generalize hlk : l[k] = o at *
      obtain ⟨T, E, K, Y, C, O, V⟩ := o
      simp only at c0 c1 c2 c3
      have hbl := World.block_lt_of_cell? wr _ c0
      have hbn : (b.add (k * 7)).block ≠ wr.heap.size := by omega
      cases E
      · clear hlk
        generalize wr = wo at *
        have O0 : Hid (One8 wo (wo.alloc (.cells #[.int .i64 T, .int .i64 (k : Int), .int .i64 (-1), .int .i64 K, .int .i64 Y, .int .i64 0, .bool false, .int .i64 0] 67)).drew wo.heap.size ⟨T, k, -1, K, Y, 0, false, 0⟩) := Lib.hid ⟨new_block_drew _ _ _, rfl, ((Below.refl _ _).alloc (Nat.le_refl _) _).drew⟩
        go_wp2
        go_region
        go_wp2
        clear c0 c1 c2 c3 hbl hbn
        go_loopw [6] (fun j wi => ∃ (m : Nat) (c : ClV), k + 1 ≤ m ∧ m ≤ N ∧ j = .int .i64 (m : Int) ∧ One8 wo wi wo.heap.size c ∧ ((c = ⟨T, k, -1, K, Y, 0, false, 0⟩ ∧ findE T (l.drop (k + 1)) (k + 1) = findE T (l.drop m) m) ∨ (0 ≤ c.D ∧ callOf ⟨T, false, K, Y, C, O, V⟩ k (findE T (l.drop (k + 1)) (k + 1)) = c))) (fun j _ => N - (intOf j).toNat)
        case atStart => exact ⟨k + 1, _, Nat.le_refl _, by omega, by go_num, O0.out, Or.inl ⟨rfl, rfl⟩⟩
        case round =>
          clear O0
          obtain ⟨m, c, hkm, hmN, rfl, ho, hor⟩ := hrel
          have HO := Lib.hid ho
          obtain ⟨p0, p1, p2, p3, p4, p5, p6, p7, pf⟩ := ho.cells
          clear ho
          obtain ⟨i0, hi, hz0, hz1, hz2⟩ := info_parts Tryzinfo_ref
          have HL : Hid ((preC l k).length ≤ k) := Lib.hid (pre_len l k)
          have done : ∀ w2 v2, callOf ⟨T, false, K, Y, C, O, V⟩ k (findE T (l.drop (k + 1)) (k + 1)) = c → Grow cells8 8 67 w w2 v2 (preC l k ++ [c]) → Grow cells8 8 67 w w2 v2 (preC l (k + 1)) := fun w2 v2 he hg => by
            rw [HP.out, if_neg (by decide), he]
            exact hg
          have DN := Lib.hid done
          clear done
          by_cases hstep : m < N ∧ c.D < 0
          · obtain ⟨hm, hd⟩ := hstep
            have hor2 : c = ⟨T, k, -1, K, Y, 0, false, 0⟩ ∧ findE T (l.drop (k + 1)) (k + 1) = findE T (l.drop m) m := by
              rcases hor with h | h
              · exact h
              · omega
            have HC := Lib.hid hor2
            clear hor hor2
            have hmi : (m : Int) < (N : Int) := by omega
            have hml : m < l.length := by rw [HN.out]; exact hm
            obtain ⟨b', hb', d0, -, -, -, d4, d5, d6⟩ := (HX.out.later (past HG.out.below HO.out.below)).ev m hml
            obtain rfl := Option.some.inj hb'
            have HF := Lib.hid (find_at hml c.T)
            have hcD : decide (c.D < 0) = true := decide_eq_true hd
            generalize l[m] = o at *
            obtain ⟨T', E', K', Y', C', O', V'⟩ := o
            simp only at d0 d4 d5 d6
            clear hml hb'
            by_cases ht : T' = c.T
            · have hb1 : (T' == c.T) = true := beq_iff_eq.2 ht
              have HT := Lib.hid ht
              clear ht
              go_wp2
              go_region
              go_wp2
              go_roundw
              case rel => exact ⟨m + 1, _, by omega, by omega, by go_num, (HO.out.put m C' V' O').drewN 1, Or.inr ⟨by show (0 : Int) ≤ (m : Int); omega, by
                have h1 := HC.out.1
                have h2 := HC.out.2
                have h3 := HF.out
                subst h1
                rw [if_pos HT.out] at h3
                rw [h2, h3]
                rfl⟩⟩
              case measure => simp [intOf]; omega
            · have hb1 : (T' == c.T) = false := beq_eq_false_iff_ne.2 ht
              have HT := Lib.hid ht
              clear ht
              go_wp2
              go_region
              go_wp2
              go_roundw
              case rel => exact ⟨m + 1, c, by omega, by omega, by go_num, HO.out.drewN 1, Or.inl ⟨HC.out.1, by
                have h1 := HC.out.1
                have h2 := HC.out.2
                have h3 := HF.out
                subst h1
                rw [if_neg HT.out] at h3
                rw [h2, h3]⟩⟩
              case measure => simp [intOf]; omega
          · have HC : Hid (callOf ⟨T, false, K, Y, C, O, V⟩ k (findE T (l.drop (k + 1)) (k + 1)) = c) := by
              rcases hor with ⟨h1, h2⟩ | h
              · have hmN2 : N ≤ m := by
                  rcases Nat.lt_or_ge m N with h3 | h3
                  · exact absurd ⟨h3, by rw [h1]; show (-1 : Int) < 0; omega⟩ hstep
                  · exact h3
                show _ = _
                rw [h2, find_end (by rw [HN.out]; exact hmN2), h1]
                rfl
              · exact h.2
            clear hor
            by_cases hm : m < N
            · have hmi : (m : Int) < (N : Int) := by omega
              have hd : ¬ c.D < 0 := fun h => hstep ⟨hm, h⟩
              have hcD : decide (c.D < 0) = false := decide_eq_false hd
              clear hstep
              go_wp2_with (at_builtin; go_loud (obtain ⟨v2, w2, hrun, hown, hgr, hat, -⟩ := append_row len8 (wr.alloc (.cells #[.int .i64 c.T, .int .i64 c.B, .int .i64 c.D, .int .i64 c.K, .int .i64 c.Y, .int .i64 c.C, .bool c.O, .int .i64 c.V] 67)) 27 27 67 i0 _ 64 Tryz.underlying27 hi hz0 hz1 hz2 rfl (by decide) _ (preC l k) c (((HG.out.next HO.out.below).next ((Below.refl _ _).alloc (Nat.le_refl _) _)).own) wr.heap.size (new_cells wr (cells8 (preC l k).length c) _) (one8 _ _) (by have := HL.out; unfold maxLen; omega) (by have := HL.out; omega); refine wpList_known rfl (.tmp 59) (.tmp 61) 27 rfl _ _ v2 w2 rfl rfl hrun ?_; have G2 := Lib.hid (DN.out w2 v2 HC.out (((HG.out.next HO.out.below).next ((Below.refl _ _).alloc (Nat.le_refl _) _)).more hown hgr hat)); clear hrun hown hgr hat))
              go_roundw
              case rel => exact ⟨k + 1, by omega, by go_num, G2.out⟩
              case measure => simp [intOf]; omega
            · obtain rfl : m = N := by omega
              clear hstep
              go_wp2_with (at_builtin; go_loud (obtain ⟨v2, w2, hrun, hown, hgr, hat, -⟩ := append_row len8 (wr.alloc (.cells #[.int .i64 c.T, .int .i64 c.B, .int .i64 c.D, .int .i64 c.K, .int .i64 c.Y, .int .i64 c.C, .bool c.O, .int .i64 c.V] 67)) 27 27 67 i0 _ 64 Tryz.underlying27 hi hz0 hz1 hz2 rfl (by decide) _ (preC l k) c (((HG.out.next HO.out.below).next ((Below.refl _ _).alloc (Nat.le_refl _) _)).own) wr.heap.size (new_cells wr (cells8 (preC l k).length c) _) (one8 _ _) (by have := HL.out; unfold maxLen; omega) (by have := HL.out; omega); refine wpList_known rfl (.tmp 59) (.tmp 61) 27 rfl _ _ v2 w2 rfl rfl hrun ?_; have G2 := Lib.hid (DN.out w2 v2 HC.out (((HG.out.next HO.out.below).next ((Below.refl _ _).alloc (Nat.le_refl _) _)).more hown hgr hat)); clear hrun hown hgr hat))
              go_roundw
              case rel => exact ⟨k + 1, by omega, by go_num, G2.out⟩
              case measure => simp [intOf]; omega
      · go_wp2
        go_roundw
        case rel => exact ⟨k + 1, by omega, by go_num, by rw [HP.out]; simpa using HG.out⟩
        case measure => simp [intOf]; omega
    · obtain rfl : k = N := by omega
      go_wp2
      go_returns
      have hg := HG.out
      rw [← HN.out, pre_all] at hg
      exact ⟨_, rfl, hg⟩
end Go.Proofs.YtmpilokgbblonaaGreat.hist
/- A history's other methods: what is told of it, copies; one call before another one. -/
namespace Go.Proofs.YtmpilokgbblonaaGreat.hist
open Go.RowKit

theorem spanPend_any (w : World) (B D : Int) :
    Calls Tryz.prog 59 #[.agg #[.int .i64 B, .int .i64 D]] w fun e w' => e = .returned (.bool (decide (D < 0))) ∧ Below w.heap.size w w' := by
  go_enter Tryz.func59, Tryz.ntmps59
  go_wp2
  go_returns
  exact ⟨rfl, by go_grown⟩
theorem before_any (w : World) (B D B' D' : Int) :
    Calls Tryz.prog 35 #[.agg #[.int .i64 B, .int .i64 D], .agg #[.int .i64 B', .int .i64 D']] w fun e w' => e = .returned (.bool (befB D B')) ∧ Below w.heap.size w w' := by
  by_cases hd : D < 0
  · have e : befB D B' = false := decide_eq_false (by omega)
    rw [e]
    have hdd : decide (D < 0) = true := decide_eq_true hd
    clear e
    go_enter Tryz.func35, Tryz.ntmps35
    go_wp2_with (go_at_call 59; refine (spanPend_any _ B D).mono ?_; rintro e w1 ⟨rfl, hb⟩; have B1 := Lib.hid hb; clear hb; rw [hdd])
    go_returns
    exact ⟨rfl, past (by go_grown) B1.out⟩
  · have e : befB D B' = decide (D < B') := by unfold befB; rw [Bool.eq_iff_iff, decide_eq_true_eq, decide_eq_true_eq]; omega
    rw [e]
    have hdd : decide (D < 0) = false := decide_eq_false hd
    clear e
    go_enter Tryz.func35, Tryz.ntmps35
    go_wp2_with (go_at_call 59; refine (spanPend_any _ B D).mono ?_; rintro e w1 ⟨rfl, hb⟩; have B1 := Lib.hid hb; have q0 := hb.cell (p := ⟨w.heap.size, 1, none⟩) (by simp; omega); have q1 := hb.cell (p := ⟨w.heap.size + 1, 0, none⟩) (by simp); simp at q0 q1; clear hb; rw [hdd])
    go_returns
    exact ⟨rfl, past (by go_grown) B1.out⟩
/-- A call of the document's as an argument. -/
def clV (c : ClV) : Value := .agg #[.int .i64 c.T, .int .i64 c.B, .int .i64 c.D, .int .i64 c.K, .int .i64 c.Y, .int .i64 c.C, .bool c.O, .int .i64 c.V]
theorem refBefore_any (w : World) (c d : ClV) :
    Calls Tryz.prog 58 #[clV c, clV d] w fun e w' => e = .returned (.bool (befB c.D d.B)) ∧ Below w.heap.size w w' := by
  unfold clV
  by_cases hd : c.D < 0
  · have e : befB c.D d.B = false := decide_eq_false (by omega)
    rw [e]
    have hdd : decide (0 ≤ c.D) = false := decide_eq_false (by omega)
    clear e
    go_enter Tryz.func58, Tryz.ntmps58
    go_wp2
    go_returns
    exact ⟨rfl, by go_grown⟩
  · have e : befB c.D d.B = decide (c.D < d.B) := by unfold befB; rw [Bool.eq_iff_iff, decide_eq_true_eq, decide_eq_true_eq]; omega
    rw [e]
    have hdd : decide (0 ≤ c.D) = true := decide_eq_true (by omega)
    clear e
    go_enter Tryz.func58, Tryz.ntmps58
    go_wp2
    go_returns
    exact ⟨rfl, by go_grown⟩

/-- A history without events. -/
theorem hst_new {w : World} {X : Nat} (h : w.heap[X]? = some (.cells #[.slice none 0 0, .int .i64 0, .int .i64 0, .int .i64 0, .int .i64 0, .int .i64 0, .int .i64 0, .int .i64 0, .int .i64 0, .int .i64 0] 99 (0, 0))) : Hst w X (fun b => b = X) [] := by
  refine ⟨.slice none 0 0, fun _ => 0, ⟨valid_nil, opens_nil, ⟨_, h, rfl, rfl, rfl, fun t ht => ?_⟩, Own.nil _ _⟩, rfl, fun g hg => by simp [Value.ownBlock] at hg, fun b hb => by rw [hb]; exact (Array.getElem?_eq_some_iff.1 h).1⟩
  match t, ht with
  | 0, _ => rfl
  | 1, _ => rfl
  | 2, _ => rfl
  | 3, _ => rfl
  | 4, _ => rfl
  | 5, _ => rfl
  | 6, _ => rfl
  | 7, _ => rfl
theorem new_any (w : World) :
    Calls Tryz.prog 20 #[] w fun e w' => ∃ X f, e = .returned (.pointer (some ⟨X, 0, none⟩)) ∧ Hst w' X f [] ∧ (∀ b, f b → w.heap.size ≤ b) ∧ Below w.heap.size w w' := by
  go_enter Tryz.func20, Tryz.ntmps20
  go_wp2
  go_returns
  exact ⟨w.heap.size, _, rfl, hst_new (new_block _ _ _), fun b hb => Nat.le_of_eq hb.symm, by go_grown⟩
theorem hst_pending (w : World) (X : Nat) (f : Nat → Prop) (l : List EvV) (h : Hst w X f l) (t : Int) :
    Calls Tryz.prog 43 #[.pointer (some ⟨X, 0, none⟩), .int .i64 t] w fun e w' => e = .returned (.bool (pendE l t)) ∧ w = w' := by
  obtain ⟨v, o, h, _⟩ := h
  refine (pending_any w X v o l h t).mono fun e w' ⟨he, hw⟩ => ⟨?_, hw⟩
  rw [he]
  by_cases ht : 0 ≤ t ∧ t ≤ 7
  · rw [decide_eq_true ht, Bool.true_and]
  · rw [decide_eq_false ht, Bool.false_and, pend_out h.valid ht]

set_option maxHeartbeats 1000000 in
theorem clone_any (w : World) (v : Value) (L : List ClV) (h : Own cells9 9 85 w v L) (hL : L.length ≤ 1000) :
    Calls Tryz.prog 47 #[v] w fun e w' => ∃ v', e = .returned v' ∧ Grow cells9 9 85 w w' v' L := by
  have H := Lib.hid h
  obtain ⟨hl, ⟨rfl, h0⟩ | ⟨g, cap, cur, rfl, _, hb, h1, h2, h3, h4⟩⟩ := h
  · clear hl
    have qT : ∀ (w : World) (a : Option Addr) (n c n' c' : Nat), (binOp .eql 71 (.slice a n c) (.slice none n' c')).run Tryz.prog w = .ok (.bool a.isNone) w := fun w a n c n' c' => Lib.run_eql_slice_nil w _ _ a n c n' c' Tryz.underlying71
    go_enter Tryz.func47, Tryz.ntmps47
    go_wp2
    go_returns
    obtain rfl := List.eq_nil_of_length_eq_zero h0
    exact ⟨_, rfl, Grow.nil _ _ _ (Below.refl _ _)⟩
  · obtain ⟨i0, hi, hz0, hz1, hz2⟩ := info_parts Tryzinfo_call
    have hrow : ((w.alloc (.cells #[] 85))).ownsRow w.heap.size 85 9 (.slice (some ⟨w.heap.size, 0, none⟩) 0 0) 0 [] := World.ownsRow_made w #[] 0 (Nat.le_refl _) (by unfold maxLen; omega) rfl
    obtain ⟨v', w', hrun, hown, hgr, _, hat⟩ := run_append_own_at (P := Tryz.prog) (w.alloc (.cells #[] 85)) w.heap.size 71 71 85 i0 _ 9 72 Tryz.underlying71 hi hz0 hz1 hz2 rfl (by decide) _ 0 [] hrow ⟨g, 0, none⟩ L.length cap (rowCells cells9 L 0) (row_len len9 L 0) (fun j u hj => (((Below.refl w.heap.size w).alloc (Nat.le_refl _) _).cell (by rw [Addr.add_lit]; exact (Array.getElem?_eq_some_iff.1 hb).1)).trans (H.out.cells (g := g) rfl j u hj)) (fun u hu => by
      obtain ⟨m, hm⟩ := List.getElem?_of_mem hu
      have hml := (List.getElem?_eq_some_iff.1 hm).1
      rw [row_len len9] at hml
      have e : m = m / 9 * 9 + m % 9 := by omega
      rw [e, row_get len9 L 0 _ _ (by omega)] at hm
      cases hc : L[m / 9]? with
      | none => rw [hc] at hm; simp at hm
      | some c =>
        rw [hc] at hm
        exact one9 _ _ u (List.mem_of_getElem? hm)) (by unfold maxLen; omega) (by omega) (by simp)
    have G : Hid (Grow cells9 9 85 w w' v' L) := by
      have hb0 : Below w.heap.size w (w.alloc (.cells #[] 85)) := (Below.refl _ _).alloc (Nat.le_refl _) _
      refine Lib.hid ⟨?_, fun g' hg' => ?_, hb0.grown hgr hb0.size (fun b hb => by simp [Value.ownBlock] at hb; omega)⟩
      · obtain ⟨k1, k2⟩ := hown
        refine ⟨by simpa using k1, ?_⟩
        rcases k2 with ⟨k2, k3⟩ | ⟨g2, c2, r2, e1, e2, e3, e4, e5, e6, e7⟩
        · exact Or.inl ⟨k2, by omega⟩
        · exact Or.inr ⟨g2, c2, r2, by rw [e1, Nat.zero_add], Nat.zero_le _, e3, by omega, e5, e6, by simpa using e7⟩
      · rcases hat with e | e
        · rw [hg'] at e
          simp [Value.ownBlock] at e
          omega
        · rw [hg'] at e
          have := Option.some.inj e
          simp at this
          omega
    have HR := Lib.hid hrun
    clear hrow hrun hown hgr hat hl h1 h2 h3 h4 hb
    have qT : ∀ (w : World) (a : Option Addr) (n c n' c' : Nat), (binOp .eql 71 (.slice a n c) (.slice none n' c')).run Tryz.prog w = .ok (.bool a.isNone) w := fun w a n c n' c' => Lib.run_eql_slice_nil w _ _ a n c n' c' Tryz.underlying71
    go_enter Tryz.func47, Tryz.ntmps47
    go_wp2_with (at_builtin; go_loud (refine wpList_known rfl (.tmp 5) (.tmp 6) 71 rfl _ _ v' w' rfl rfl HR.out ?_))
    go_returns
    exact ⟨v', rfl, G.out⟩

theorem calls_any (w : World) (X : Nat) (f : Nat → Prop) (l : List EvV) (h : Hst w X f l) (hl : l.length ≤ 1000) :
    Calls Tryz.prog 27 #[.pointer (some ⟨X, 0, none⟩)] w fun e w' => ∃ v', e = .returned v' ∧ Grow cells9 9 85 w w' v' (callsE l) := by
  obtain ⟨v, o, h, _⟩ := h
  have c0 := h.c0
  have HO := Lib.hid h.row
  have HL := Lib.hid (Nat.le_trans (calls_le h.valid) hl)
  clear h
  go_enter Tryz.func27, Tryz.ntmps27
  go_wp2_with (go_at_call 47; refine (clone_any _ v _ HO.out HL.out).mono ?_; rintro e w1 ⟨v1, rfl, hg⟩; have G1 := Lib.hid hg; clear hg)
  go_returns
  exact ⟨v1, rfl, G1.out⟩

/-- A copy's block and row. -/
theorem hst_copied {w w1 : World} {o : Nat → Nat} {l : List EvV} {v : Value} (hV : ValidE l) (ho : Opens l o) (hg : Grow cells9 9 85 w w1 v (callsE l)) :
    ∃ f', Hst (w1.alloc (.cells #[v, .int .i64 (l.length : Nat), .int .i64 (o 0 : Nat), .int .i64 (o 1 : Nat), .int .i64 (o 2 : Nat), .int .i64 (o 3 : Nat), .int .i64 (o 4 : Nat), .int .i64 (o 5 : Nat), .int .i64 (o 6 : Nat), .int .i64 (o 7 : Nat)] 99)) w1.heap.size f' l ∧ ∀ b, f' b → w.heap.size ≤ b := by
  have hs := hg.below.size
  refine ⟨fun b => w.heap.size ≤ b ∧ b < w1.heap.size + 1, ⟨v, o, ⟨hV, ho, ⟨_, new_block _ _ _, rfl, rfl, rfl, fun t ht => ?_⟩, hg.own.below ((Below.refl _ _).alloc (Nat.le_refl _) _)⟩, ⟨hs, by omega⟩, fun g h => ⟨hg.new g h, by have := hg.own.lt h; omega⟩, fun b hb => by simp; omega⟩, fun b hb => hb.1⟩
  match t, ht with
  | 0, _ => rfl
  | 1, _ => rfl
  | 2, _ => rfl
  | 3, _ => rfl
  | 4, _ => rfl
  | 5, _ => rfl
  | 6, _ => rfl
  | 7, _ => rfl
end Go.Proofs.YtmpilokgbblonaaGreat.hist
