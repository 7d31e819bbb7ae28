/- The law SpecPlays answers true at any shape and any operations. -/
import Derived.Test.YtehjlmolnmiopaaSpCounts
namespace Go.Proofs.Ytehjlmolnmiopaa.spec
open Go.RowKit task

/-- Operations' cells. -/
def opCells (os : List OpV) : List Value := os.flatMap fun o => [.int .i64 o.K, .int .i64 o.Y]
theorem opCells_snoc (os : List OpV) (o : OpV) : opCells (os ++ [o]) = opCells os ++ [.int .i64 o.K, .int .i64 o.Y] := by
  unfold opCells
  rw [List.flatMap_append, List.flatMap_cons, List.flatMap_nil, List.append_nil]
theorem opCells_get : ∀ (os : List OpV) (i : Nat) (hi : i < os.length), (opCells os)[i * 2]? = some (.int .i64 os[i].K) ∧ (opCells os)[i * 2 + 1]? = some (.int .i64 os[i].Y)
  | [], i, hi => absurd hi (by simp)
  | o :: os, 0, _ => ⟨rfl, rfl⟩
  | o :: os, i + 1, hi => by
    obtain ⟨h0, h1⟩ := opCells_get os i (by simpa using hi)
    have e : opCells (o :: os) = .int .i64 o.K :: .int .i64 o.Y :: opCells os := rfl
    rw [e, show (i + 1) * 2 = i * 2 + 1 + 1 by omega]
    exact ⟨h0, h1⟩
/-- Operations in a row of the call's own. -/
def OpRow (w : World) (lo : Nat) (R : Value) (os : List OpV) : Prop := w.ownsRow lo 35 2 R os.length (opCells os)
theorem OpRow.nil (w : World) (lo : Nat) : OpRow w lo (.slice none 0 0) [] := World.ownsRow_nil _ _ _ _
theorem OpRow.form {w : World} {lo : Nat} {R : Value} {os : List OpV} (h : OpRow w lo R os) : ∃ A c, R = .slice A os.length c ∧ os.length ≤ c := by
  rcases h.2 with ⟨rfl, h0⟩ | ⟨g, cap, cur, rfl, _, _, hn, _⟩
  · exact ⟨none, 0, by rw [h0], by omega⟩
  · exact ⟨_, cap, rfl, hn⟩
theorem OpRow.ops {w : World} {lo c : Nat} {A : Option Addr} {os : List OpV} (h : OpRow w lo (.slice A os.length c) os) : OpsAt w A os := by
  intro i hi
  rcases h.2 with ⟨hv, h0⟩ | ⟨g, cap, cur, hv, _⟩
  · omega
  · cases hv
    obtain ⟨h0, h1⟩ := opCells_get os i hi
    have e0 := World.ownsRow.cells h (g := g) rfl _ _ h0
    have e1 := World.ownsRow.cells h (g := g) rfl _ _ h1
    rw [Addr.add_lit, Nat.zero_add] at e0 e1
    refine ⟨_, rfl, ?_⟩
    rw [Addr.add_lit, Nat.zero_add]
    exact ⟨e0, e1⟩
theorem Tryinfo_op : (Try.prog.info? 35).map (fun i => (i.zero, i.size, i.bytes)) = some (some (.agg #[.int .i64 0, .int .i64 0]), 2, 16) := by kernel_rfl
theorem cell_new2 (w : World) (x y : Value) (T : TypeId) {g : Nat} (hg : w.heap.size = g) : ∀ j u, [x, y][j]? = some u → (w.alloc (.cells #[x, y] T)).cell? ((⟨g, 0, none⟩ : Addr).add j) = some u := by
  subst hg
  intro j u hu
  have h := new_block w #[x, y] T
  rw [Addr.add_lit, Joins.cell_of_block h]
  have hj : j < 2 := by
    have := (List.getElem?_eq_some_iff.1 hu).1
    simpa using this
  match j, hj, hu with
  | 0, _, hu => exact hu
  | 1, _, hu => exact hu
theorem one_op (x z : Int) : ∀ u ∈ [Value.int .i64 z, .int .i64 x], u.oneCell' = true := by
  intro u hu
  simp at hu
  rcases hu with rfl | rfl <;> rfl

theorem Mean.cell2 {w : World} {X : Nat} {f : Nat → Prop} {s : Int} {L : List Int} (h : Mean w X f s L) : w.cell? ⟨X, 2, none⟩ = some (.int .i64 s) := by
  obtain ⟨t, h1, _⟩ := h
  exact h1.c2
/-- A meaning, and the operations that were done. -/
structure Plays (W w : World) (X : Nat) (f : Nat → Prop) (s : Int) (did : List OpV) (R : Value) : Prop where
  run : Run W w X f s (stateL s did)
  row : OpRow w W.heap.size R did
  off : ∀ b, R.ownBlock = some b → ¬ f b
  right : allRight s did
theorem Plays.next {W w w' : World} {X : Nat} {f : Nat → Prop} {s : Int} {did : List OpV} {R : Value} (h : Plays W w X f s did R) (hb : Below w.heap.size w w') : Plays W w' X f s did R :=
  ⟨h.run.next hb, owns_below h.row hb, h.off, h.right⟩
/-- Behind an operation: the operation's block, the result's. -/
structure Stp (W w : World) (X : Nat) (f : Nat → Prop) (s : Int) (M : List Int) (b1 b2 : Nat) (K Y : Int) (ok : Bool) (v : Int) (R : Value) (did : List OpV) : Prop where
  run : Run W w X f s M
  row : OpRow w W.heap.size R did
  off : ∀ b, R.ownBlock = some b → ¬ f b
  op : w.heap[b1]? = some (.cells #[.int .i64 K, .int .i64 Y] 35 (0, 0))
  res : w.heap[b2]? = some (.cells #[.int .i64 0, .bool ok, .int .i64 v] 37 (0, 0))
section
variable {W w w' w2 : World} {X : Nat} {f f' : Nat → Prop} {s : Int} {M : List Int} {b1 b2 : Nat} {K Y : Int} {ok : Bool} {v : Int} {R : Value} {did : List OpV}
theorem Stp.next (h : Stp W w X f s M b1 b2 K Y ok v R did) (hb : Below w.heap.size w w') : Stp W w' X f s M b1 b2 K Y ok v R did :=
  ⟨h.run.next hb, owns_below h.row hb, h.off, (hb.block _ (Array.getElem?_eq_some_iff.1 h.op).1).trans h.op, (hb.block _ (Array.getElem?_eq_some_iff.1 h.res).1).trans h.res⟩
structure SCells (w : World) (b1 b2 : Nat) (K Y : Int) (ok : Bool) (v : Int) : Prop where
  k0 : w.cell? ⟨b1, 0, none⟩ = some (.int .i64 K)
  k1 : w.cell? ⟨b1, 1, none⟩ = some (.int .i64 Y)
  r0 : w.cell? ⟨b2, 0, none⟩ = some (.int .i64 0)
  r1 : w.cell? ⟨b2, 1, none⟩ = some (.bool ok)
  r2 : w.cell? ⟨b2, 2, none⟩ = some (.int .i64 v)
theorem Stp.cells (h : Stp W w X f s M b1 b2 K Y ok v R did) : SCells w b1 b2 K Y ok v :=
  ⟨by rw [Joins.cell_of_block h.op]; rfl, by rw [Joins.cell_of_block h.op]; rfl, by rw [Joins.cell_of_block h.res]; rfl, by rw [Joins.cell_of_block h.res]; rfl, by rw [Joins.cell_of_block h.res]; rfl⟩
theorem Stp.of (h : Plays W w X f s did R) (hm : Mean w2 X f' s M) (hw : Went f f' (w.alloc (.cells #[.int .i64 K, .int .i64 Y] 35)) w2) (hg : Good s M) (ok : Bool) (v : Int) :
    Stp W (w2.alloc (.cells #[.int .i64 0, .bool ok, .int .i64 v] 37)) X f' s M w.heap.size w2.heap.size K Y ok v R did := by
  have hb := (Below.refl w2.heap.size w2).alloc (Nat.le_refl _) (.cells #[.int .i64 0, .bool ok, .int .i64 v] 37)
  have hr := (h.run.alloc (.cells #[.int .i64 K, .int .i64 Y] 35)).step hm hw hg
  have hrow : OpRow w2 W.heap.size R did := owns_went (owns_below h.row ((Below.refl _ _).alloc (Nat.le_refl _) _)) hw h.off
  have hop : w2.heap[w.heap.size]? = some (.cells #[.int .i64 K, .int .i64 Y] 35 (0, 0)) := (hw.block _ (by simp) (fun hf => by have := h.run.mean.lt _ hf; omega)).trans (new_block w _ _)
  refine ⟨hr.next hb, owns_below hrow hb, fun b hR => hw.apart ?_ (h.off b hR), ?_, new_block w2 _ _⟩
  · have := (World.ownsRow.lt h.row b hR).2
    simp
    omega
  · rw [Below.heap_alloc _ _ _ (Array.getElem?_eq_some_iff.1 hop).1]
    exact hop
/-- It wasn't one of the shape: all is as it was. -/
theorem Stp.not (h : Stp W w X f s (stateL s did) b1 b2 K Y ok v R did) (hr : allRight s did) : Plays W w X f s did R := ⟨h.run, h.row, h.off, hr⟩
/-- It was one: it is noted. -/
theorem Stp.noted {w4 : World} {R' : Value} (h : Stp W w X f s (nextL s (stateL s did) K Y) b1 b2 K Y ok v R did) (har : allRight s did) (hr : rightB s K Y = true)
    (hown : w4.ownsRow W.heap.size 35 2 R' (did.length + 1) (opCells did ++ [.int .i64 K, .int .i64 Y])) (hg : w.grownBy w4 R.ownBlock) (hat : R'.ownBlock = R.ownBlock ∨ R'.ownBlock = some w.heap.size) : Plays W w4 X f s (did ++ [⟨K, Y⟩]) R' := by
  refine ⟨⟨?_, ?_, h.run.new, h.run.below.grown hg h.run.below.size (fun b hb => (World.ownsRow.lt h.row b hb).1)⟩, ?_, fun b hb hf => ?_, fun o ho => ?_⟩
  · rw [stateL_snoc]
    exact h.run.mean.grown hg h.off
  · rw [stateL_snoc]
    exact h.run.good
  · unfold OpRow
    rw [opCells_snoc, List.length_append]
    exact hown
  · rcases hat with hat | hat
    · exact h.off b (hat.symm.trans hb) hf
    · have := h.run.mean.lt b hf
      have e : w.heap.size = b := Option.some.inj (hat.symm.trans hb)
      omega
  · rcases List.mem_append.1 ho with ho | ho
    · exact har o ho
    · rw [List.mem_singleton.1 ho]; exact hr
end

attribute [local go_sem] eq_res
set_option maxRecDepth 100000 in
set_option maxHeartbeats 1000000 in
theorem plays_long (w : World) (s : Int) (a : Option Addr) (N cap : Nat) (hl : 60 < (N : Int)) :
    Calls Try.prog 3 #[.int .i64 s, .slice a N cap] w fun e w' => e = .returned (.bool true) ∧ Below w.heap.size w w' := by
  go_enter Try.func3, Try.ntmps3
  go_wp2_with (go_at_call 8; refine (awake_any _).mono ?_; rintro e w1 ⟨rfl, hb⟩; have HB := Lib.hid hb; clear hb)
  go_returns
  exact ⟨rfl, HB.out⟩
set_option maxRecDepth 100000 in
set_option maxHeartbeats 1000000 in
theorem plays_none (w : World) (s : Int) (a : Option Addr) (N cap : Nat) (hl : (N : Int) ≤ 60) (hs : ¬ (1 ≤ s ∧ s ≤ 4)) :
    Calls Try.prog 3 #[.int .i64 s, .slice a N cap] w fun e w' => e = .returned (.bool true) ∧ Below w.heap.size w w' := by
  have HS := Lib.hid hs
  have HD : Hid (decide (1 ≤ s ∧ s ≤ 4) = false) := decide_eq_false hs
  clear hs
  go_enter Try.func3, Try.ntmps3
  go_wp2_with (first
    | (go_at_call 8; refine (awake_any _).mono ?_; rintro e w1 ⟨rfl, hb⟩; have HB := Lib.hid hb; clear hb)
    | (go_at_call 9; refine (new_wrong _ s HS.out).mono ?_; rintro e w2 ⟨rfl, hw⟩; obtain rfl := hw)
    | (go_at_call 10; refine (none_any _ s).mono ?_; rw [HD.out]; rintro e w3 ⟨rfl, hw⟩; obtain rfl := hw))
  go_returns
  exact ⟨rfl, HB.out⟩
set_option maxRecDepth 100000 in
set_option maxHeartbeats 8000000 in
theorem plays_short (w : World) (s : Int) (a : Option Addr) (os : List OpV) (N cap : Nat) (hN : os.length = N) (hl : (N : Int) ≤ 60) (hx : OpsAt w a os) (hs : 1 ≤ s ∧ s ≤ 4) :
    Calls Try.prog 3 #[.int .i64 s, .slice a N cap] w fun e w' => e = .returned (.bool true) ∧ Below w.heap.size w w' := by
  have HX := Lib.hid hx
  have HN := Lib.hid hN
  have HS := Lib.hid hs
  have HD : Hid (decide (1 ≤ s ∧ s ≤ 4) = true) := decide_eq_true hs
  clear hx hN hs
  go_enter Try.func3, Try.ntmps3
  go_wp2_with (first
    | (go_at_call 8; refine (awake_any _).mono ?_; rintro e w1 ⟨rfl, hb⟩; have HB := Lib.hid hb; clear hb)
    | (go_at_call 9; refine (new_right _ s HS.out).mono ?_; rintro e w2 ⟨X, f, rfl, hm, hf, hb⟩; have hc2 : w2.cell? ⟨X, 2, none⟩ = some (.int .i64 s) := (by obtain ⟨t, h1, _⟩ := hm; exact h1.c2); have P0 : Hid (Plays w w2 X f s [] (.slice none 0 0)) := Lib.hid ⟨⟨hm, Good.nil _, fun b hb => Nat.le_trans HB.out.size (hf b hb), past HB.out hb⟩, OpRow.nil _ _, fun b hb => (by cases hb), fun o ho => (by simp at ho)⟩; clear hm hf hb)
    | (go_at_call 10; refine (none_any _ s).mono ?_; rw [HD.out]; rintro e w3 ⟨rfl, hw⟩; obtain rfl := hw))
  go_loopw [7, 46] (fun v i wr => ∃ (k : Nat) (f' : Nat → Prop) (did : List OpV), k ≤ N ∧ did.length ≤ k ∧ i = .int .i64 k ∧ Plays w wr X f' s did v) (fun _ i _ => N - (intOf i).toNat)
  case atStart => exact ⟨0, f, [], Nat.zero_le _, Nat.le_refl _, rfl, P0.out⟩
  case round =>
    clear P0 hc2
    obtain ⟨k, f', did, hk, hdk, rfl, hp⟩ := hrel
    have HP := Lib.hid hp
    obtain ⟨A, c, hR, hdc⟩ := hp.row.form
    subst hR
    have HDC := Lib.hid hdc
    have hd60 : did.length ≤ 60 := by omega
    have HD60 := Lib.hid hd60
    have hsl := state_len s did
    have HL9 : Hid ((stateL s did).length ≤ 999) := by show _ ≤ _; omega
    clear hp hdc hsl
    by_cases hlt : k < N
    · have hkl : k < os.length := by rw [HN.out]; exact hlt
      obtain ⟨b, rfl, c0, c1⟩ := (HX.out.later HP.out.run.below) k hkl
      generalize os[k] = o at *
      obtain ⟨K, Y⟩ := o
      simp only at c0 c1
      clear hkl
      cases hrt : rightB s K Y
      · have HRT := Lib.hid hrt
        clear hrt
        go_wp2_with (first
          | (go_at_call 11; refine (do_not _ X f' s K Y (stateL s did) (HP.out.run.alloc _).mean HL9.out HP.out.run.good HRT.out).mono ?_; rintro e w2 ⟨g', rfl, hm, hw⟩; have S2 := Lib.hid (Stp.of HP.out hm hw HP.out.run.good false 0); clear hm hw; obtain ⟨d0, d1, d2, d3, d4⟩ := S2.out.cells)
          | (go_at_call 12; refine (may_any _ s K Y).mono ?_; rw [HRT.out]; rintro e w3 ⟨rfl, hb⟩; have S3 := Lib.hid (S2.out.next hb); clear hb; obtain ⟨e0, e1, e2, e3, e4⟩ := S3.out.cells))
        have P3 := Lib.hid (S3.out.not HP.out.right)
        have hc3 := P3.out.run.mean.cell2
        have HLM : Hid ((stateL s did).length ≤ 999) := HL9
        go_region_held3 (fun wx => wx.cell? ⟨X, 2, none⟩ = some (.int .i64 s)) (go_keep) (first
          | (go_at_call 15; refine (items_mean _ X g' s (stateL s did) (P3.out.next (Below.refl _ _).drew |>.next D5.out).run.mean (by have := HLM.out; omega)).mono ?_; rintro e w6 ⟨A6, c6, g6, rfl, hr6, hg6, hb6⟩; have P6 := Lib.hid ((P3.out.next (Below.refl _ _).drew |>.next D5.out).next hb6); have hc6 := P6.out.run.mean.cell2; clear hr6 hg6 hb6)
          | (go_at_call 14; refine (len_mean _ X g' s (stateL s did) (P3.out.next (Below.refl _ _).drew).run.mean (by have := HLM.out; omega)).mono ?_; rintro e w5 ⟨rfl, hw⟩; have D5 := Lib.hid (drewN_below hw); have hc5 := (P3.out.next (Below.refl _ _).drew |>.next D5.out).run.mean.cell2; clear hw))
        go_wp2
        go_roundw
        case rel => exact ⟨k + 1, g', did, by omega, by omega, by go_num, P6.out⟩
        case measure => simp [intOf]; omega
      · have HRT := Lib.hid hrt
        have HTA := Lib.hid (told_agree HP.out.right hrt)
        have HG := Lib.hid (HP.out.run.good.next hrt)
        clear hrt
        go_wp2_with (first
          | (go_at_call 11; refine (do_right _ X f' s K Y (stateL s did) (HP.out.run.alloc _).mean HL9.out HP.out.run.good HRT.out).mono ?_; rw [HTA.out.1, HTA.out.2]; rintro e w2 ⟨g', rfl, hm, hw⟩; have S2 := Lib.hid (Stp.of HP.out hm hw HG.out (okR s did K Y) (valR s did K)); clear hm hw; obtain ⟨d0, d1, d2, d3, d4⟩ := S2.out.cells)
          | (go_at_call 12; refine (may_any _ s K Y).mono ?_; rw [HRT.out]; rintro e w3 ⟨rfl, hb⟩; have S3 := Lib.hid (S2.out.next hb); clear hb; obtain ⟨e0, e1, e2, e3, e4⟩ := S3.out.cells))
        go_region_held3 (fun wx => wx.cell? ⟨wr.heap.size, 0, none⟩ = some (.int .i64 K) ∧ wx.cell? ⟨wr.heap.size, 1, none⟩ = some (.int .i64 Y) ∧ wx.cell? ⟨w2.heap.size, 0, none⟩ = some (.int .i64 0) ∧ wx.cell? ⟨w2.heap.size, 1, none⟩ = some (.bool (okR s did K Y)) ∧ wx.cell? ⟨w2.heap.size, 2, none⟩ = some (.int .i64 (valR s did K))) (go_keep)
          ((go_at_call 13; go_loud (refine (res_any _ s K Y A did did.length c rfl (by have := HD60.out; omega) HDC.out (OpRow.ops (S3.out.next (Below.refl _ _).drew).row) HRT.out).mono ?_; rintro e w4 ⟨rfl, hb⟩; have S4 := Lib.hid ((S3.out.next (Below.refl _ _).drew).next hb); clear hb; obtain ⟨f0, f1, f2, f3, f4⟩ := S4.out.cells)))
        have HLM : Hid ((stateL s (did ++ [⟨K, Y⟩])).length ≤ 999) := by
          show _ ≤ _
          have := state_len s (did ++ [⟨K, Y⟩])
          have := HD60.out
          simp at *
          omega
        obtain ⟨i0, hi, hz0, hz1, hz2⟩ := info_parts Tryinfo_op
        have hml : did.length + 1 ≤ maxLen := by unfold maxLen; omega
        have HB4 := Lib.hid S4.out.run.below.size
        go_wp2_with (at_builtin; refine wpList_append_own_at _ rfl (.tmp 77) (.tmp 79) 22 rfl w.heap.size 35 i0 (.agg #[.int .i64 0, .int .i64 0]) 2 16 Try.underlying22 hi hz0 hz1 hz2 rfl (by decide) _ did.length (opCells did) rfl (S4.out.next ((Below.refl _ _).alloc (Nat.le_refl _) _)).row ⟨w4.heap.size, 0, none⟩ 1 1 [.int .i64 K, .int .i64 Y] rfl rfl (cell_new2 _ _ _ _ rfl) (one_op _ _) hml (by omega) (by have := HB4.out; simp; omega) ?_; intro R' w5 hown' hgrow _ hat; have P5 := Lib.hid (Stp.noted (S4.out.next ((Below.refl _ _).alloc (Nat.le_refl _) _)) HP.out.right HRT.out hown' hgrow hat); have hc5 := P5.out.run.mean.cell2; clear hown' hgrow hat)
        go_region_held3 (fun wx => wx.cell? ⟨X, 2, none⟩ = some (.int .i64 s)) (go_keep) (first
          | (go_at_call 15; refine (items_mean _ X g' s (stateL s (did ++ [⟨K, Y⟩])) (P5.out.next (Below.refl _ _).drew |>.next D5.out).run.mean (by have := HLM.out; omega)).mono ?_; rintro e w6 ⟨A6, c6, g6, rfl, hr6, hg6, hb6⟩; have P6 := Lib.hid ((P5.out.next (Below.refl _ _).drew |>.next D5.out).next hb6); have hc6 := P6.out.run.mean.cell2; clear hr6 hg6 hb6)
          | (go_at_call 14; refine (len_mean _ X g' s (stateL s (did ++ [⟨K, Y⟩])) (P5.out.next (Below.refl _ _).drew).run.mean (by have := HLM.out; omega)).mono ?_; rintro e w5 ⟨rfl, hw⟩; have D5 := Lib.hid (drewN_below hw); have hc5 := (P5.out.next (Below.refl _ _).drew |>.next D5.out).run.mean.cell2; clear hw))
        go_wp2
        go_roundw
        case rel => exact ⟨k + 1, g', did ++ [⟨K, Y⟩], by omega, by simp; omega, by go_num, P6.out⟩
        case measure => simp [intOf]; omega
    · obtain rfl : k = N := by omega
      have HA := Lib.hid (items_agree HS.out HP.out.right)
      have HI : Hid ((itemsR s did).length ≤ 999) := by show _ ≤ _; rw [← HA.out]; exact HL9.out
      go_wp2_with (first
        | (go_at_call 16; go_loud (refine (ints_any _ g6 c6 g7 c7 A6 A7 (itemsR s did) (itemsR s did) R6.out R7.out (by have := HI.out; omega) (by have := HI.out; omega)).mono ?_; rw [decide_eq_true rfl]; rintro e w8 ⟨rfl, hw⟩; have P8 := Lib.hid (P7.out.next (drewN_below hw)); clear hw))
        | (go_at_call 17; go_loud (refine (itemsR_any _ s A did did.length c rfl (by have := HD60.out; omega) HDC.out (OpRow.ops P6.out.row)).mono ?_; rintro e w7 ⟨A7, c7, g7, rfl, hr7, hg7, hb7⟩; have P7 := Lib.hid (P6.out.next hb7); have R6 := Lib.hid (hr6.below hb7); have R7 := Lib.hid hr7; clear hr7 hg7 hb7 hr6))
        | (go_at_call 15; go_loud (refine (items_mean _ X f' s (stateL s did) HP.out.run.mean (by have := HL9.out; omega)).mono ?_; rw [HA.out]; rintro e w6 ⟨A6, c6, g6, rfl, hr6, hg6, hb6⟩; have P6 := Lib.hid (HP.out.next hb6); clear hg6 hb6)))
      go_returns
      exact ⟨rfl, P8.out.run.below⟩

theorem plays_any (w : World) (s : Int) (a : Option Addr) (os : List OpV) (N cap : Nat) (hN : os.length = N) (_hc : N ≤ cap) (hx : OpsAt w a os) :
    Calls Try.prog 3 #[.int .i64 s, .slice a N cap] w fun e w' => e = .returned (.bool true) ∧ Below w.heap.size w w' := by
  by_cases hl : 60 < (N : Int)
  · exact plays_long w s a N cap hl
  · by_cases hs : 1 ≤ s ∧ s ≤ 4
    · exact plays_short w s a os N cap hN (by omega) hx hs
    · exact plays_none w s a N cap (by omega) hs
end Go.Proofs.Ytehjlmolnmiopaa.spec
