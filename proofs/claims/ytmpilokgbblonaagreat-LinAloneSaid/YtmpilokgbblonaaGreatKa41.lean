/- A stack's search: can a call be the next one, with what comes behind it? -/
import Derived.Test.YtmpilokgbblonaaGreatKa40
namespace Go.Proofs.YtmpilokgbblonaaGreat.lin
open Go.RowKit Go.Maps
open hist (ClV befB past new_block Went At cells9 len9 Blk9)
open spec (Rw Row)

/-- Pairs are known, in rows that don't lie where it is remembered what led nowhere. -/
def PrS (t : SP) (L : List ClV) (w : World) : Prop := ∃ T Ks, PairM (fun b => b = t.D) (RowOK L) w t.R T Ks
section
variable {t : SP} {L : List ClV} {m c0 : Nat}
theorem prS_lt {w : World} (h : PrS t L w) : t.R < w.heap.size := by
  obtain ⟨T, Ks, h⟩ := h
  exact h.lt
theorem prS_ok (ha : Apart t) : PrOK (PrS t L) t := ⟨fun w w' h hs hb => by
  obtain ⟨T, Ks, h⟩ := h
  exact ⟨T, Ks, h.moved (hb _ h.lt (Ne.symm ha.dr)) fun b hl hn _ => hb b hl hn⟩⟩
/-- What a stack's search tells, and leaves. -/
def PopQ (t : SP) (L : List ClV) (w : World) (N : Nat) (P : Prop) (e : Ending) (w' : World) : Prop :=
  ∃ b : Bool, e = .returned (.bool b) ∧ (b = false → ¬ P) ∧ SS (GS L) (PrS t L) t L w' N ∧ Went (fS t) (fS t) w w'
def PoppedOK (t : SP) (L : List ClV) (m c0 r : Nat) : Prop :=
  ∀ (w : World) (N g G c : Nat) (A : Option Addr) (M : List Int) (n : Nat), SS (GS L) (PrS t L) t L w N → remG L.length g = r → N + pbF m c0 r ≤ 1000000000000 → g < 4294967296 → Rw w G A c M → (A ≠ none → ¬ fS t G) → M.length = n → n ≤ 1000 → (∀ x ∈ M, keyR x) →
    Calls Tryz.prog 66 #[.pointer (some ⟨t.X, 0, none⟩), .int .u32 (g : Int), .slice A n c] w (PopQ t L w (N + pbF m c0 r) (GS L g M))
/-- A call is the next one. -/
def PopsP (L : List ClV) (i g : Nat) : List Int → Prop
  | [] => (takeAt L i = false ∧ GS L g [-1]) ∨ (takeAt L i = true ∧ missAt L i = true ∧ GS L g [])
  | m :: M => (takeAt L i = false ∧ GS L g [-1]) ∨ (takeAt L i = true ∧ m ≠ -1 ∧ suitsAt L m i = true ∧ GS L g M)
theorem popsP_put {i g : Nat} {M : List Int} (hi : takeAt L i = false) : PopsP L i g M ↔ GS L g [-1] := by
  cases M <;> simp [PopsP, hi]
theorem popsP_nil {i g : Nat} (hi : takeAt L i = true) : PopsP L i g [] ↔ missAt L i = true ∧ GS L g [] := by simp [PopsP, hi]
theorem popsP_hit {i g : Nat} {m : Int} {M : List Int} (hi : takeAt L i = true) : PopsP L i g (m :: M) ↔ m ≠ -1 ∧ suitsAt L m i = true ∧ GS L g M := by simp [PopsP, hi]
theorem take_at {i : Nat} {d : ClV} (hd : L[i]? = some d) : takeAt L i = decide (d.K = 5) := by
  unfold takeAt
  rw [kind_at (List.getElem?_eq_some_iff.1 hd).1, (List.getElem?_eq_some_iff.1 hd).2]
set_option maxRecDepth 100000 in
set_option maxHeartbeats 4000000 in
/-- A Put, whose item is never taken. -/
theorem pops_put (hE : EnvS t L m c0) (r : Nat) (ih : PoppedOK t L m c0 r) (w : World) (N g c i n : Nat) (A : Option Addr) (M : List Int) (hS : SS (GS L) (PrS t L) t L w N) (hr : remG L.length g = r) (hN : N + pbF m c0 r ≤ 1000000000000) (hg : g < 4294967296)
    (d : ClV) (hd : L[i]? = some d) (hk : d.K = 4) :
    Calls Tryz.prog 79 #[.pointer (some ⟨t.X, 0, none⟩), clA i d, .int .u32 (g : Int), .slice A n c] w (PopQ t L w (N + pbF m c0 r) (PopsP L i g M)) := by
  have hT := takes_any
  have hMs := misses_any
  have hPs := puts_any
  unfold clA at hT hMs hPs ⊢
  have HT := Lib.hid hT
  have HMS := Lib.hid hMs
  have HPS := Lib.hid hPs
  have HE := Lib.hid hE
  have HG2 := Lib.hid hg
  have HI := Lib.hid ih
  have HN := Lib.hid hN
  have HR2 := Lib.hid hr
  have HNF : Hid (¬ fS t w.heap.size) := Lib.hid (fun e => by
    have h1 := hS.dlt
    have h2 := prS_lt hS.pr
    rcases e with e | e <;> omega)
  have hB : Below w.heap.size w (w.alloc (.cells #[.int .i64 d.B, .int .i64 d.D, .int .i64 (i : Int), .int .i64 d.T, .int .i64 d.K, .int .i64 d.Y, .int .i64 d.C, .bool d.O, .int .i64 d.V] 85)) := (Below.refl _ _).alloc (Nat.le_refl _) _
  have HB := Lib.hid hB
  have SB := Lib.hid (hS.below (prS_ok hE.apart) hB)
  have NB := Lib.hid (⟨new_block w _ _⟩ : Blk9 (w.alloc (.cells #[.int .i64 d.B, .int .i64 d.D, .int .i64 (i : Int), .int .i64 d.T, .int .i64 d.K, .int .i64 d.Y, .int .i64 d.C, .bool d.O, .int .i64 d.V] 85)) w.heap.size i d)
  have H4 : Hid (decide (d.K = 4) = true) := Lib.hid (decide_eq_true hk)
  have HTK : Hid (takeAt L i = false) := Lib.hid (by rw [take_at hd, hk]; rfl)
  obtain ⟨q0, q1, q2, q3, q4, q5, q6, q7, q8⟩ := NB.out.cells
  clear hT hMs hPs hE ih hN hr hS hB hd hk
  go_enter Tryz.func79, Tryz.ntmps79
  go_wp2_with (first
    | (go_at_call 66; have _t := S2.out; go_loud (refine (HI.out _ N g w2.heap.size 1 _ [-1] 1 S3.out HR2.out HN.out HG2.out (Or.inr ⟨0, rfl, R3.out⟩) (fun _ => F3.out) rfl (by omega) (fun x hx => by rw [List.mem_singleton.1 hx]; unfold keyR; omega)).mono ?_; rintro e w4 ⟨b4, rfl, hb4, hs4, hw4⟩; have T4 := Lib.hid hb4; have S4 := Lib.hid hs4; have W4 := Lib.hid (W3.out.trans hw4); clear hb4 hs4 hw4))
    | (go_at_call 48; go_loud (refine (HPS.out _ i d).mono ?_; rintro e w2 ⟨rfl, hb2⟩; rw [H4.out]; have S2 := Lib.hid (SB.out.below (prS_ok HE.out.apart) hb2); have b3 : Below w2.heap.size w2 (w2.alloc (.cells #[.int .i64 (-1)] 3)) := (Below.refl _ _).alloc (Nat.le_refl _) _; have S3 := Lib.hid (S2.out.below (prS_ok HE.out.apart) b3); have W3 := Lib.hid (Went.ofBelow (f := fS t) (past (past HB.out hb2) b3)); have R3 : Hid (Row (w2.alloc (.cells #[.int .i64 (-1)] 3)) w2.heap.size 0 1 [-1]) := Lib.hid ⟨by simp, by omega, _, heap_alloc_new w2 _, by simp, fun j hj => (by obtain rfl : j = 0 := (by simpa using hj); rfl)⟩; have F3 : Hid (¬ fS t w2.heap.size) := Lib.hid (fun e => by have h1 := S2.out.dlt; have h2 := prS_lt S2.out.pr; rcases e with e | e <;> omega); clear hb2 b3)))
  go_returns
  exact ⟨b4, rfl, fun e h => T4.out e ((popsP_put HTK.out).1 h), S4.out, W4.out⟩
set_option maxRecDepth 100000 in
set_option maxHeartbeats 4000000 in
/-- There is no item. -/
theorem pops_nil (hE : EnvS t L m c0) (r : Nat) (ih : PoppedOK t L m c0 r) (w : World) (N g c i : Nat) (A : Option Addr) (hS : SS (GS L) (PrS t L) t L w N) (hr : remG L.length g = r) (hN : N + pbF m c0 r ≤ 1000000000000) (hg : g < 4294967296)
    (d : ClV) (hd : L[i]? = some d) (hk : d.K = 5) :
    Calls Tryz.prog 79 #[.pointer (some ⟨t.X, 0, none⟩), clA i d, .int .u32 (g : Int), .slice A 0 c] w (PopQ t L w (N + pbF m c0 r) (PopsP L i g [])) := by
  have hT := takes_any
  have hMs := misses_any
  have hPs := puts_any
  unfold clA at hT hMs hPs ⊢
  have HT := Lib.hid hT
  have HMS := Lib.hid hMs
  have HPS := Lib.hid hPs
  have HE := Lib.hid hE
  have HG2 := Lib.hid hg
  have HI := Lib.hid ih
  have HN := Lib.hid hN
  have HR2 := Lib.hid hr
  have HNF : Hid (¬ fS t w.heap.size) := Lib.hid (fun e => by
    have h1 := hS.dlt
    have h2 := prS_lt hS.pr
    rcases e with e | e <;> omega)
  have hB : Below w.heap.size w (w.alloc (.cells #[.int .i64 d.B, .int .i64 d.D, .int .i64 (i : Int), .int .i64 d.T, .int .i64 d.K, .int .i64 d.Y, .int .i64 d.C, .bool d.O, .int .i64 d.V] 85)) := (Below.refl _ _).alloc (Nat.le_refl _) _
  have HB := Lib.hid hB
  have SB := Lib.hid (hS.below (prS_ok hE.apart) hB)
  have NB := Lib.hid (⟨new_block w _ _⟩ : Blk9 (w.alloc (.cells #[.int .i64 d.B, .int .i64 d.D, .int .i64 (i : Int), .int .i64 d.T, .int .i64 d.K, .int .i64 d.Y, .int .i64 d.C, .bool d.O, .int .i64 d.V] 85)) w.heap.size i d)
  have H4 : Hid (decide (d.K = 4) = false) := Lib.hid (decide_eq_false (by omega))
  have HTK : Hid (takeAt L i = true) := Lib.hid (by rw [take_at hd, hk]; rfl)
  have HMA : Hid (missAt L i = missB d) := Lib.hid (by rw [miss_at (List.getElem?_eq_some_iff.1 hd).1, (List.getElem?_eq_some_iff.1 hd).2])
  obtain ⟨q0, q1, q2, q3, q4, q5, q6, q7, q8⟩ := NB.out.cells
  cases hm : missB d
  · have HM := Lib.hid hm
    clear hT hMs hPs hE ih hN hr hS hB hd hk hm
    go_enter Tryz.func79, Tryz.ntmps79
    go_wp2_with (first
      | (go_at_call 89; have _t := S2.out; go_loud (refine (HMS.out _ i d).mono ?_; rintro e w3 ⟨rfl, hb3⟩; rw [HM.out]; have S3 := Lib.hid (S2.out.below (prS_ok HE.out.apart) hb3); have W3 := Lib.hid (W2.out.next hb3); clear hb3))
      | (go_at_call 48; go_loud (refine (HPS.out _ i d).mono ?_; rintro e w2 ⟨rfl, hb2⟩; rw [H4.out]; have S2 := Lib.hid (SB.out.below (prS_ok HE.out.apart) hb2); have W2 := Lib.hid (Went.ofBelow (f := fS t) (past HB.out hb2)); have N2 := Lib.hid (NB.out.below hb2); obtain ⟨p0, p1, p2, p3, p4, p5, p6, p7, p8⟩ := N2.out.cells; clear hb2)))
    go_returns
    exact ⟨false, rfl, fun _ h => by
      have h1 := ((popsP_nil HTK.out).1 h).1
      rw [HMA.out, HM.out] at h1
      exact absurd h1 (by decide), S3.out.mono (Nat.le_add_right _ _), W3.out⟩
  · have HM := Lib.hid hm
    clear hT hMs hPs hE ih hN hr hS hB hd hk hm
    go_enter Tryz.func79, Tryz.ntmps79
    go_wp2_with (first
      | (go_at_call 66; have _t := S3.out; go_loud (refine (HI.out _ N g 0 0 none [] 0 S3.out HR2.out HN.out HG2.out (Or.inl ⟨rfl, rfl, rfl⟩) (fun h => absurd rfl h) rfl (by omega) (fun x hx => by simp at hx)).mono ?_; rintro e w4 ⟨b4, rfl, hb4, hs4, hw4⟩; have T4 := Lib.hid hb4; have S4 := Lib.hid hs4; have W4 := Lib.hid (W3.out.trans hw4); clear hb4 hs4 hw4))
      | (go_at_call 89; have _t := S2.out; go_loud (refine (HMS.out _ i d).mono ?_; rintro e w3 ⟨rfl, hb3⟩; rw [HM.out]; have S3 := Lib.hid (S2.out.below (prS_ok HE.out.apart) hb3); have W3 := Lib.hid (W2.out.next hb3); clear hb3))
      | (go_at_call 48; go_loud (refine (HPS.out _ i d).mono ?_; rintro e w2 ⟨rfl, hb2⟩; rw [H4.out]; have S2 := Lib.hid (SB.out.below (prS_ok HE.out.apart) hb2); have W2 := Lib.hid (Went.ofBelow (f := fS t) (past HB.out hb2)); have N2 := Lib.hid (NB.out.below hb2); obtain ⟨p0, p1, p2, p3, p4, p5, p6, p7, p8⟩ := N2.out.cells; clear hb2)))
    go_returns
    exact ⟨b4, rfl, fun e h => T4.out e ((popsP_nil HTK.out).1 h).2, S4.out, W4.out⟩
end
end Go.Proofs.YtmpilokgbblonaaGreat.lin
/- A stack's search: a Take is the next one, and there are items. -/
namespace Go.Proofs.YtmpilokgbblonaaGreat.lin
open Go.RowKit Go.Maps
open hist (ClV befB past new_block Went At cells9 len9 Blk9)
open spec (Rw Row)
section
variable {t : SP} {L : List ClV} {m c0 : Nat}
set_option maxRecDepth 100000 in
set_option maxHeartbeats 4000000 in
/-- The mark is never taken. -/
theorem pops_sunk (w : World) (t : SP) (g G c o n i : Nat) (hq : w.cell? ⟨G, o, none⟩ = some (.int .i64 (-1))) (hn : 1 ≤ n) (d : ClV) (h5 : d.K = 5) :
    Calls Tryz.prog 79 #[.pointer (some ⟨t.X, 0, none⟩), clA i d, .int .u32 (g : Int), .slice (some ⟨G, o, none⟩) n c] w fun e w' => e = .returned (.bool false) ∧ Below w.heap.size w w' := by
  have hT := takes_any
  have hPs := puts_any
  unfold clA at hT hPs ⊢
  have HT := Lib.hid hT
  have HPS := Lib.hid hPs
  have H4 : Hid (decide (d.K = 4) = false) := Lib.hid (decide_eq_false (by omega))
  have hnpos : (0 : Int) < (n : Int) := by omega
  have hnN : 0 < n := by omega
  have hn0 : ((n : Int) == 0) = false := beq_eq_false_iff_ne.2 (by omega)
  have hB : Below w.heap.size w (w.alloc (.cells #[.int .i64 d.B, .int .i64 d.D, .int .i64 (i : Int), .int .i64 d.T, .int .i64 d.K, .int .i64 d.Y, .int .i64 d.C, .bool d.O, .int .i64 d.V] 85)) := (Below.refl _ _).alloc (Nat.le_refl _) _
  have HB := Lib.hid hB
  have NB := Lib.hid (⟨new_block w _ _⟩ : Blk9 (w.alloc (.cells #[.int .i64 d.B, .int .i64 d.D, .int .i64 (i : Int), .int .i64 d.T, .int .i64 d.K, .int .i64 d.Y, .int .i64 d.C, .bool d.O, .int .i64 d.V] 85)) w.heap.size i d)
  have HQ := Lib.hid hq
  obtain ⟨q0, q1, q2, q3, q4, q5, q6, q7, q8⟩ := NB.out.cells
  clear hT hPs hB hq h5
  go_enter Tryz.func79, Tryz.ntmps79
  go_wp2_with (go_at_call 48; go_loud (refine (HPS.out _ i d).mono ?_; rintro e w2 ⟨rfl, hb2⟩; rw [H4.out]; have B2 := Lib.hid (past HB.out hb2); have N2 := Lib.hid (NB.out.below hb2); have Q2 := Lib.hid ((B2.out.cell (World.block_lt_of_cell? _ _ HQ.out)).trans HQ.out); obtain ⟨p0, p1, p2, p3, p4, p5, p6, p7, p8⟩ := N2.out.cells; clear hb2))
  have C0 : Sv w w2 i d G o (-1) := ⟨B2.out, N2.out, Q2.out⟩
  clear q0 q1 q2 q3 q4 q5 q6 q7 q8 p0 p1 p2 p3 p4 p5 p6 p7 p8 hn0
  refine quiet.region (C := fun wx => Sv w wx i d G o (-1)) (C0.next ((Below.refl _ _).drew)) (by kernel_rfl) (by kernel_rfl) ?_
  repeat (first
    | go_big_quiet_skip
    | (go_big_quiet_want; go_big_quiet_op; go_big_quiet_on)
    | (refine BigFrame.wpQuiet_want (by rfl) (fun K hK => ?_)
       apply Exists.intro
       refine ⟨fun wx hwx => ?_, hK _ ?_⟩
       · have hx := Sv.cells hwx
         go_split_ands
         go_simp
         first | rfl
       clear hK K
       simp only [Act.put, List.setIfInBounds_toArray, List.set_cons_zero, List.set_cons_succ]))
  refine wpQuiet_nil ?_
  intro w6 hq6
  go_wp2
  go_returns
  exact ⟨rfl, hq6.below⟩
set_option maxRecDepth 100000 in
set_option maxHeartbeats 4000000 in
/-- One that can't have taken the first item. -/
theorem pops_other (w : World) (t : SP) (g G c o n i : Nat) (m1 : Int) (hq : w.cell? ⟨G, o, none⟩ = some (.int .i64 m1)) (hn : 1 ≤ n) (d : ClV) (h5 : d.K = 5) (hm : m1 ≠ -1) (hk : takesB d m1 = false) :
    Calls Tryz.prog 79 #[.pointer (some ⟨t.X, 0, none⟩), clA i d, .int .u32 (g : Int), .slice (some ⟨G, o, none⟩) n c] w fun e w' => e = .returned (.bool false) ∧ Below w.heap.size w w' := by
  have hT := takes_any
  have hPs := puts_any
  unfold clA at hT hPs ⊢
  have HT := Lib.hid hT
  have HPS := Lib.hid hPs
  have H4 : Hid (decide (d.K = 4) = false) := Lib.hid (decide_eq_false (by omega))
  have hnpos : (0 : Int) < (n : Int) := by omega
  have hnN : 0 < n := by omega
  have hn0 : ((n : Int) == 0) = false := beq_eq_false_iff_ne.2 (by omega)
  have hB : Below w.heap.size w (w.alloc (.cells #[.int .i64 d.B, .int .i64 d.D, .int .i64 (i : Int), .int .i64 d.T, .int .i64 d.K, .int .i64 d.Y, .int .i64 d.C, .bool d.O, .int .i64 d.V] 85)) := (Below.refl _ _).alloc (Nat.le_refl _) _
  have HB := Lib.hid hB
  have NB := Lib.hid (⟨new_block w _ _⟩ : Blk9 (w.alloc (.cells #[.int .i64 d.B, .int .i64 d.D, .int .i64 (i : Int), .int .i64 d.T, .int .i64 d.K, .int .i64 d.Y, .int .i64 d.C, .bool d.O, .int .i64 d.V] 85)) w.heap.size i d)
  have HQ := Lib.hid hq
  have HK := Lib.hid hk
  have hm1 : (m1 != -1) = true := by simpa using hm
  obtain ⟨q0, q1, q2, q3, q4, q5, q6, q7, q8⟩ := NB.out.cells
  clear hT hPs hB hq h5 hk hm
  go_enter Tryz.func79, Tryz.ntmps79
  go_wp2_with (go_at_call 48; go_loud (refine (HPS.out _ i d).mono ?_; rintro e w2 ⟨rfl, hb2⟩; rw [H4.out]; have B2 := Lib.hid (past HB.out hb2); have N2 := Lib.hid (NB.out.below hb2); have Q2 := Lib.hid ((B2.out.cell (World.block_lt_of_cell? _ _ HQ.out)).trans HQ.out); obtain ⟨p0, p1, p2, p3, p4, p5, p6, p7, p8⟩ := N2.out.cells; clear hb2))
  have C0 : Sv w w2 i d G o m1 := ⟨B2.out, N2.out, Q2.out⟩
  have PT : ∀ wx : World, Calls Tryz.prog 88 #[.agg #[.int .i64 d.B, .int .i64 d.D, .int .i64 (i : Int), .int .i64 d.T, .int .i64 d.K, .int .i64 d.Y, .int .i64 d.C, .bool d.O, .int .i64 d.V], .int .i64 m1] wx fun e w' => e = .returned (.bool false) ∧ Below wx.heap.size wx w' := fun wx => by
    have h := HT.out wx i d m1
    rw [HK.out] at h
    exact h
  clear q0 q1 q2 q3 q4 q5 q6 q7 q8 p0 p1 p2 p3 p4 p5 p6 p7 p8 hn0
  refine quiet.region (C := fun wx => Sv w wx i d G o m1) (C0.next ((Below.refl _ _).drew)) (by kernel_rfl) (by kernel_rfl) ?_
  repeat (first
    | go_big_quiet_skip
    | (go_big_quiet_want; go_big_quiet_op; go_big_quiet_on)
    | (refine BigFrame.wpQuiet_want (by rfl) (fun K hK => ?_)
       apply Exists.intro
       refine ⟨fun wx hwx => ?_, hK _ ?_⟩
       · have hx := Sv.cells hwx
         go_split_ands
         go_simp
         first | rfl | (with_reducible refine quiet.call (PT wx) ?_; exact fun _ hb => Sv.next hwx hb)
       clear hK K
       simp only [Act.put, List.setIfInBounds_toArray, List.set_cons_zero, List.set_cons_succ]))
  refine wpQuiet_nil ?_
  intro w6 hq6
  go_wp2
  go_returns
  exact ⟨rfl, hq6.below⟩
set_option maxRecDepth 100000 in
set_option maxHeartbeats 4000000 in
/-- The first item is taken. -/
theorem pops_hit (hE : EnvS t L m c0) (r : Nat) (ih : PoppedOK t L m c0 r) (w : World) (N g G c o n i : Nat) (m1 : Int) (M : List Int) (hS : SS (GS L) (PrS t L) t L w N) (hr : remG L.length g = r) (hN : N + pbF m c0 r ≤ 1000000000000) (hg : g < 4294967296)
    (hR : Row w G o c (m1 :: M)) (hG : ¬ fS t G) (hn : M.length + 1 = n) (hn1 : n ≤ 1000) (hM : ∀ x ∈ m1 :: M, keyR x) (d : ClV) (hd : L[i]? = some d) (h5 : d.K = 5) (hm : m1 ≠ -1) (hk : takesB d m1 = true) :
    Calls Tryz.prog 79 #[.pointer (some ⟨t.X, 0, none⟩), clA i d, .int .u32 (g : Int), .slice (some ⟨G, o, none⟩) n c] w (PopQ t L w (N + pbF m c0 r) (PopsP L i g (m1 :: M))) := by
  have hT := takes_any
  have hPs := puts_any
  unfold clA at hT hPs ⊢
  have HT := Lib.hid hT
  have HPS := Lib.hid hPs
  have HE := Lib.hid hE
  have HG2 := Lib.hid hg
  have HI := Lib.hid ih
  have HN := Lib.hid hN
  have HR2 := Lib.hid hr
  have HR := Lib.hid hR
  have HK := Lib.hid hk
  have HG := Lib.hid hG
  have hm1 : (m1 != -1) = true := by simpa using hm
  have H4 : Hid (decide (d.K = 4) = false) := Lib.hid (decide_eq_false (by omega))
  have HTK : Hid (takeAt L i = true) := Lib.hid (by rw [take_at hd, h5]; rfl)
  have HMK := Lib.hid (fun x hx => hM x (List.mem_cons_of_mem _ hx) : ∀ x ∈ M, keyR x)
  have HML := Lib.hid hn
  have hrlen := hR.len
  have hrbig := hR.big
  simp only [List.length_cons] at hrlen
  have hglt := hR.lt
  have hnpos : (0 : Int) < (n : Int) := by omega
  have hnN : 0 < n := by omega
  have hn0 : ((n : Int) == 0) = false := beq_eq_false_iff_ne.2 (by omega)
  have HNF : Hid (¬ fS t w.heap.size) := Lib.hid (fun e => by
    have h1 := hS.dlt
    have h2 := prS_lt hS.pr
    rcases e with e | e <;> omega)
  have hB : Below w.heap.size w (w.alloc (.cells #[.int .i64 d.B, .int .i64 d.D, .int .i64 (i : Int), .int .i64 d.T, .int .i64 d.K, .int .i64 d.Y, .int .i64 d.C, .bool d.O, .int .i64 d.V] 85)) := (Below.refl _ _).alloc (Nat.le_refl _) _
  have HB := Lib.hid hB
  have SB := Lib.hid (hS.below (prS_ok hE.apart) hB)
  have NB := Lib.hid (⟨new_block w _ _⟩ : Blk9 (w.alloc (.cells #[.int .i64 d.B, .int .i64 d.D, .int .i64 (i : Int), .int .i64 d.T, .int .i64 d.K, .int .i64 d.Y, .int .i64 d.C, .bool d.O, .int .i64 d.V] 85)) w.heap.size i d)
  have FIN : ∀ b : Bool, (b = false → ¬ GS L g M) → b = false → ¬ PopsP L i g (m1 :: M) := fun b h1 h2 h3 => h1 h2 ((popsP_hit HTK.out).1 h3).2.2
  obtain ⟨q0, q1, q2, q3, q4, q5, q6, q7, q8⟩ := NB.out.cells
  clear hT hPs hE ih hN hr hS hB hd h5 hk hm hR hG hM
  by_cases hc0 : c = 1
  · subst hc0
    obtain ⟨rfl, -⟩ := row_one HR.out
    obtain rfl : n = 1 := HML.out.symm
    have RT : ∀ {wx : World}, Row wx G o 1 [m1] → Row wx G o 0 [] := fun h => (row_one h).2
    have HLN : Hid (([] : List Int).length = 0) := Lib.hid rfl
    clear hrlen hrbig hn hn1 hnpos hnN hn0
    go_enter Tryz.func79, Tryz.ntmps79
    go_wp2_with (go_at_call 48; go_loud (refine (HPS.out _ i d).mono ?_; rintro e w2 ⟨rfl, hb2⟩; rw [H4.out]; have B2 := Lib.hid (past HB.out hb2); have N2 := Lib.hid (NB.out.below hb2); have S2 := Lib.hid (SB.out.below (prS_ok HE.out.apart) hb2); have R2 := Lib.hid (HR.out.moved (B2.out.block G hglt)); have Q2 := row_head R2.out; obtain ⟨p0, p1, p2, p3, p4, p5, p6, p7, p8⟩ := N2.out.cells; clear hb2))
    have R2d := Lib.hid (R2.out.moved (w' := w2.drew) rfl)
    have N2d : Hid (Blk9 w2.drew w.heap.size i d) := Lib.hid ⟨N2.out.box⟩
    have S2d := Lib.hid (S2.out.below (prS_ok HE.out.apart) ((Below.refl w2.heap.size w2).drew))
    have W2d := Lib.hid (Went.ofBelow (f := fS t) (past B2.out ((Below.refl w2.heap.size w2).drew)))
    go_region_held3 (fun wx => wx.cell? ⟨w.heap.size, 0, none⟩ = some (.int .i64 d.B) ∧ wx.cell? ⟨w.heap.size, 1, none⟩ = some (.int .i64 d.D) ∧ wx.cell? ⟨w.heap.size, 2, none⟩ = some (.int .i64 (i : Int)) ∧ wx.cell? ⟨w.heap.size, 3, none⟩ = some (.int .i64 d.T) ∧ wx.cell? ⟨w.heap.size, 4, none⟩ = some (.int .i64 d.K) ∧ wx.cell? ⟨w.heap.size, 5, none⟩ = some (.int .i64 d.Y) ∧ wx.cell? ⟨w.heap.size, 6, none⟩ = some (.int .i64 d.C) ∧ wx.cell? ⟨w.heap.size, 7, none⟩ = some (.bool d.O) ∧ wx.cell? ⟨w.heap.size, 8, none⟩ = some (.int .i64 d.V) ∧ wx.cell? ⟨G, o, none⟩ = some (.int .i64 m1)) (first | exact cells10 B5.out (row_head R5.out) | exact cells10 B4.out (row_head R4.out) | exact cells10 N2d.out (row_head R2d.out) | go_keep) (first
      | (go_at_call 66; have _t := S4.out; go_loud (refine (HI.out _ N g G 0 (some ⟨G, o, none⟩) [] 0 S4.out HR2.out HN.out HG2.out (Or.inr ⟨o, rfl, R4a.out⟩) (fun _ => HG.out) HLN.out (by omega) HMK.out).mono ?_; rintro e w5 ⟨b5, rfl, hb5, hs5, hw5⟩; have T5 := Lib.hid hb5; have S5 := Lib.hid hs5; have W5 := Lib.hid (W4.out.trans hw5); have R5 := Lib.hid (R4.out.moved (hw5.block G R4.out.lt HG.out)); have B5 : Hid (Blk9 w5 w.heap.size i d) := Lib.hid ⟨(hw5.block _ B4.out.lt HNF.out).trans B4.out.box⟩; clear hb5 hs5 hw5))
      | (go_at_call 88; go_loud (refine (HT.out _ i d m1).mono ?_; rintro e w4 ⟨rfl, hb4⟩; rw [HK.out]; have S4 := Lib.hid (S2d.out.below (prS_ok HE.out.apart) hb4); have W4 := Lib.hid (W2d.out.next hb4); have R4 := Lib.hid (R2d.out.moved (hb4.block G R2d.out.lt)); have R4a := Lib.hid (RT R4.out); have B4 := Lib.hid (N2d.out.below hb4); clear hb4)))
    all_goals
      go_wp2
      go_returns
      exact ⟨b5, rfl, FIN _ T5.out, S5.out, W5.out⟩
  · have RT : ∀ {wx : World}, Row wx G o c (m1 :: M) → Row wx G (o + 1) (c - 1) M := row_tail
    have HLN : Hid (M.length = n - 1) := Lib.hid (by omega)
    have hn01 : (1 : Int) ≤ (n : Int) := by omega
    have hc1 : ¬ c = 1 := hc0
    have hc2 : ¬ 1 = c := fun e => hc0 e.symm
    have hnc2 : (n : Int) ≤ (c : Int) := by omega
    have hn1c : (n : Int) ≤ 1000 := by omega
    go_enter Tryz.func79, Tryz.ntmps79
    go_wp2_with (go_at_call 48; go_loud (refine (HPS.out _ i d).mono ?_; rintro e w2 ⟨rfl, hb2⟩; rw [H4.out]; have B2 := Lib.hid (past HB.out hb2); have N2 := Lib.hid (NB.out.below hb2); have S2 := Lib.hid (SB.out.below (prS_ok HE.out.apart) hb2); have R2 := Lib.hid (HR.out.moved (B2.out.block G hglt)); have Q2 := row_head R2.out; obtain ⟨p0, p1, p2, p3, p4, p5, p6, p7, p8⟩ := N2.out.cells; clear hb2))
    have R2d := Lib.hid (R2.out.moved (w' := w2.drew) rfl)
    have N2d : Hid (Blk9 w2.drew w.heap.size i d) := Lib.hid ⟨N2.out.box⟩
    have S2d := Lib.hid (S2.out.below (prS_ok HE.out.apart) ((Below.refl w2.heap.size w2).drew))
    have W2d := Lib.hid (Went.ofBelow (f := fS t) (past B2.out ((Below.refl w2.heap.size w2).drew)))
    go_region_held3 (fun wx => wx.cell? ⟨w.heap.size, 0, none⟩ = some (.int .i64 d.B) ∧ wx.cell? ⟨w.heap.size, 1, none⟩ = some (.int .i64 d.D) ∧ wx.cell? ⟨w.heap.size, 2, none⟩ = some (.int .i64 (i : Int)) ∧ wx.cell? ⟨w.heap.size, 3, none⟩ = some (.int .i64 d.T) ∧ wx.cell? ⟨w.heap.size, 4, none⟩ = some (.int .i64 d.K) ∧ wx.cell? ⟨w.heap.size, 5, none⟩ = some (.int .i64 d.Y) ∧ wx.cell? ⟨w.heap.size, 6, none⟩ = some (.int .i64 d.C) ∧ wx.cell? ⟨w.heap.size, 7, none⟩ = some (.bool d.O) ∧ wx.cell? ⟨w.heap.size, 8, none⟩ = some (.int .i64 d.V) ∧ wx.cell? ⟨G, o, none⟩ = some (.int .i64 m1)) (first | exact cells10 B5.out (row_head R5.out) | exact cells10 B4.out (row_head R4.out) | exact cells10 N2d.out (row_head R2d.out) | go_keep) (first
      | (go_at_call 66; have _t := S4.out; go_loud (refine (HI.out _ N g G (c - 1) (some ⟨G, (o + 1), none⟩) M (n - 1) S4.out HR2.out HN.out HG2.out (Or.inr ⟨(o + 1), rfl, R4a.out⟩) (fun _ => HG.out) HLN.out (by omega) HMK.out).mono ?_; rintro e w5 ⟨b5, rfl, hb5, hs5, hw5⟩; have T5 := Lib.hid hb5; have S5 := Lib.hid hs5; have W5 := Lib.hid (W4.out.trans hw5); have R5 := Lib.hid (R4.out.moved (hw5.block G R4.out.lt HG.out)); have B5 : Hid (Blk9 w5 w.heap.size i d) := Lib.hid ⟨(hw5.block _ B4.out.lt HNF.out).trans B4.out.box⟩; clear hb5 hs5 hw5))
      | (go_at_call 88; go_loud (refine (HT.out _ i d m1).mono ?_; rintro e w4 ⟨rfl, hb4⟩; rw [HK.out]; have S4 := Lib.hid (S2d.out.below (prS_ok HE.out.apart) hb4); have W4 := Lib.hid (W2d.out.next hb4); have R4 := Lib.hid (R2d.out.moved (hb4.block G R2d.out.lt)); have R4a := Lib.hid (RT R4.out); have B4 := Lib.hid (N2d.out.below hb4); clear hb4)))
    all_goals
      go_wp2
      go_returns
      exact ⟨b5, rfl, FIN _ T5.out, S5.out, W5.out⟩
theorem pops_any (hE : EnvS t L m c0) (r : Nat) (ih : PoppedOK t L m c0 r) (w : World) (N g G c i n : Nat) (A : Option Addr) (M : List Int) (hS : SS (GS L) (PrS t L) t L w N) (hr : remG L.length g = r) (hN : N + pbF m c0 r ≤ 1000000000000) (hg : g < 4294967296)
    (hR : Rw w G A c M) (hG : A ≠ none → ¬ fS t G) (hn : M.length = n) (hn1 : n ≤ 1000) (hM : ∀ x ∈ M, keyR x) (d : ClV) (hd : L[i]? = some d) (hk : d.K = 4 ∨ d.K = 5) :
    Calls Tryz.prog 79 #[.pointer (some ⟨t.X, 0, none⟩), clA i d, .int .u32 (g : Int), .slice A n c] w (PopQ t L w (N + pbF m c0 r) (PopsP L i g M)) := by
  rcases hk with hk | hk
  · exact pops_put hE r ih w N g c i n A M hS hr hN hg d hd hk
  · have hi := (List.getElem?_eq_some_iff.1 hd).1
    have hdi := (List.getElem?_eq_some_iff.1 hd).2
    have htk : takeAt L i = true := by rw [take_at hd, hk]; rfl
    cases M with
    | nil =>
      obtain rfl : n = 0 := hn.symm
      exact pops_nil hE r ih w N g c i A hS hr hN hg d hd hk
    | cons m1 M =>
      obtain ⟨o, rfl, hrow⟩ := hR.row (by simp)
      have hno : ∀ e w', e = .returned (.bool false) ∧ Below w.heap.size w w' → ¬ PopsP L i g (m1 :: M) → PopQ t L w (N + pbF m c0 r) (PopsP L i g (m1 :: M)) e w' := fun e w' ⟨h1, h2⟩ h3 => ⟨false, h1, fun _ => h3, (hS.below (prS_ok hE.apart) h2).mono (Nat.le_add_right _ _), Went.ofBelow h2⟩
      by_cases hm : m1 = -1
      · subst hm
        exact (pops_sunk w t g G c o n i (row_head hrow) (by simp at hn; omega) d hk).mono fun e w' h => hno e w' h fun h3 => ((popsP_hit htk).1 h3).1 rfl
      · cases hta : takesB d m1
        · exact (pops_other w t g G c o n i m1 (row_head hrow) (by simp at hn; omega) d hk hm hta).mono fun e w' h => hno e w' h fun h3 => by
            have h4 := ((popsP_hit htk).1 h3).2.1
            rw [suits_at hi, hdi, hta] at h4
            exact absurd h4 (by decide)
        · exact pops_hit hE r ih w N g G c o n i m1 M hS hr hN hg hrow (hG (by simp)) (by simpa using hn) hn1 hM d hd hk hm hta
end
end Go.Proofs.YtmpilokgbblonaaGreat.lin
