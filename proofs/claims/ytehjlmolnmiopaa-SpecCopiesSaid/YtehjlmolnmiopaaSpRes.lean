/- What the document says that an operation tells. -/
import Derived.Test.YtehjlmolnmiopaaSpRef3
import Derived.Test.YtehjlmolnmiopaaSpDo
namespace Go.Proofs.Ytehjlmolnmiopaa.spec
open Go.RowKit task

/-- The operation's block and the result's, of the call's own. -/
structure Bx (W w : World) (k y : Int) : Prop where
  op : w.heap[W.heap.size]? = some (.cells #[.int .i64 k, .int .i64 y] 35 (0, 0))
  res : w.heap[W.heap.size + 1]? = some (.cells #[.int .i64 0, .bool false, .int .i64 0] 37 (0, 0))
  below : Below W.heap.size W w
theorem Bx.new (W : World) (k y : Int) : Bx W ((W.alloc (.cells #[.int .i64 k, .int .i64 y] 35)).alloc (.cells #[.int .i64 0, .bool false, .int .i64 0] 37)) k y :=
  ⟨by rw [Below.heap_alloc _ _ _ (by simp)]; exact new_block W _ _, by have := new_block (W.alloc (.cells #[.int .i64 k, .int .i64 y] 35)) #[.int .i64 0, .bool false, .int .i64 0] 37; simpa using this, ((Below.refl _ _).alloc (Nat.le_refl _) _).alloc (by simp) _⟩
theorem Bx.next {W w w' : World} {k y : Int} (h : Bx W w k y) (hb : Below w.heap.size w w') : Bx W w' k y :=
  ⟨(hb.block _ (Array.getElem?_eq_some_iff.1 h.op).1).trans h.op, (hb.block _ (Array.getElem?_eq_some_iff.1 h.res).1).trans h.res, past h.below hb⟩
theorem resW_below {W w : World} (h : Below W.heap.size W w) (a b c : Value) : Below W.heap.size W (((w.setCell ⟨W.heap.size + 1, 0, none⟩ a).setCell ⟨W.heap.size + 1, 1, none⟩ b).setCell ⟨W.heap.size + 1, 2, none⟩ c) :=
  ((h.setCell (p := ⟨W.heap.size + 1, 0, none⟩) (Nat.le_succ _) _).setCell (p := ⟨W.heap.size + 1, 1, none⟩) (Nat.le_succ _) _).setCell (p := ⟨W.heap.size + 1, 2, none⟩) (Nat.le_succ _) _

/-- A result. -/
def ResIs (w : World) (ok : Bool) (v : Int) (e : Ending) (w' : World) : Prop := e = .returned (.agg #[.int .i64 0, .bool ok, .int .i64 v]) ∧ Below w.heap.size w w'

section
variable (w : World) (s y : Int) (a : Option Addr) (os : List OpV) (N cap : Nat)
set_option maxRecDepth 100000 in
set_option maxHeartbeats 1000000 in
theorem res_1 (hN : os.length = N) (hl : N ≤ 1000) (hx : OpsAt w a os) :
    Calls Try.prog 13 #[.int .i64 s, .slice a N cap, .agg #[.int .i64 1, .int .i64 y]] w (ResIs w (!inB os y) 0) := by
  have B0 := Lib.hid (Bx.new w 1 y)
  have HX := Lib.hid (hx.later B0.out.below)
  have HN := Lib.hid hN
  clear hx hN
  go_enter Try.func13, Try.ntmps13
  go_wp2_with (go_at_call 30; refine (in_any _ _ a os N cap HN.out hl HX.out).mono ?_; rintro e w2 ⟨rfl, hw⟩; obtain rfl := hw)
  refine bodyPost_ret (v := .agg #[.int .i64 0, .bool (!inB os y), .int .i64 0]) (by simp [results, Try.results13, go_sem]) rfl ⟨rfl, by go_grown⟩
set_option maxRecDepth 100000 in
set_option maxHeartbeats 1000000 in
theorem res_2 (hN : os.length = N) (hl : N ≤ 1000) (hx : OpsAt w a os) :
    Calls Try.prog 13 #[.int .i64 s, .slice a N cap, .agg #[.int .i64 2, .int .i64 y]] w (ResIs w (inB os y) 0) := by
  have B0 := Lib.hid (Bx.new w 2 y)
  have HX := Lib.hid (hx.later B0.out.below)
  have HN := Lib.hid hN
  clear hx hN
  go_enter Try.func13, Try.ntmps13
  go_wp2_with (go_at_call 30; refine (in_any _ _ a os N cap HN.out hl HX.out).mono ?_; rintro e w2 ⟨rfl, hw⟩; obtain rfl := hw)
  refine bodyPost_ret (v := .agg #[.int .i64 0, .bool (inB os y), .int .i64 0]) (by simp [results, Try.results13, go_sem]) rfl ⟨rfl, by go_grown⟩
set_option maxRecDepth 100000 in
set_option maxHeartbeats 1000000 in
theorem res_3 (hN : os.length = N) (hl : N ≤ 1000) (hx : OpsAt w a os) :
    Calls Try.prog 13 #[.int .i64 s, .slice a N cap, .agg #[.int .i64 3, .int .i64 y]] w (ResIs w (inB os y) 0) := by
  have B0 := Lib.hid (Bx.new w 3 y)
  have HX := Lib.hid (hx.later B0.out.below)
  have HN := Lib.hid hN
  clear hx hN
  go_enter Try.func13, Try.ntmps13
  go_wp2_with (go_at_call 30; refine (in_any _ _ a os N cap HN.out hl HX.out).mono ?_; rintro e w2 ⟨rfl, hw⟩; obtain rfl := hw)
  refine bodyPost_ret (v := .agg #[.int .i64 0, .bool (inB os y), .int .i64 0]) (by simp [results, Try.results13, go_sem]) rfl ⟨rfl, by go_grown⟩
set_option maxRecDepth 100000 in
set_option maxHeartbeats 1000000 in
theorem res_4 :
    Calls Try.prog 13 #[.int .i64 s, .slice a N cap, .agg #[.int .i64 4, .int .i64 y]] w (ResIs w true 0) := by
  go_enter Try.func13, Try.ntmps13
  go_wp2
  refine bodyPost_ret (v := .agg #[.int .i64 0, .bool true, .int .i64 0]) (by simp [results, Try.results13, go_sem]) rfl ⟨rfl, by go_grown⟩
set_option maxRecDepth 100000 in
set_option maxHeartbeats 2000000 in
theorem res_5 (hN : os.length = N) (hl : N ≤ 1000) (hc : N ≤ cap) (hx : OpsAt w a os) :
    Calls Try.prog 13 #[.int .i64 s, .slice a N cap, .agg #[.int .i64 5, .int .i64 y]] w (ResIs w (!(itemsR s os).isEmpty) (headI (itemsR s os))) := by
  have B0 := Lib.hid (Bx.new w 5 y)
  have HX := Lib.hid (hx.later B0.out.below)
  have HN := Lib.hid hN
  clear hx hN
  cases hi : itemsR s os with
  | nil =>
    have HI := Lib.hid hi
    clear hi
    go_enter Try.func13, Try.ntmps13
    go_wp2_with (go_at_call 17; refine (itemsR_any _ s a os N cap HN.out hl hc HX.out).mono ?_; rw [HI.out]; rintro e w2 ⟨A, c, g, rfl, hr, _, hb⟩; have B2 := Lib.hid (B0.out.next hb); clear hr hb; obtain ⟨r0, r1, r2⟩ : w2.cell? ⟨w.heap.size + 1, 0, none⟩ = some (.int .i64 0) ∧ w2.cell? ⟨w.heap.size + 1, 1, none⟩ = some (.bool false) ∧ w2.cell? ⟨w.heap.size + 1, 2, none⟩ = some (.int .i64 0) := ⟨(Res3.of B2.out.res).r0, (Res3.of B2.out.res).r1, (Res3.of B2.out.res).r2⟩; have rf := (Res3.of B2.out.res).fr)
    obtain ⟨p0, p1, p2⟩ := resW_cells B2.out.res (.int .i64 0) (.bool false) (.int .i64 0)
    refine bodyPost_ret (v := .agg #[.int .i64 0, .bool false, .int .i64 0]) (by simp [results, Try.results13, go_sem, p0, p1, p2]) rfl ⟨rfl, resW_below B2.out.below _ _ _⟩
  | cons x L =>
    have HI := Lib.hid hi
    clear hi
    go_enter Try.func13, Try.ntmps13
    go_wp2_with (go_at_call 17; refine (itemsR_any _ s a os N cap HN.out hl hc HX.out).mono ?_; rw [HI.out]; rintro e w2 ⟨A, c, g, rfl, hr, _, hb⟩; have B2 := Lib.hid (B0.out.next hb); obtain ⟨o, hA, hrow⟩ := hr.row (by simp); subst hA; have hcell : w2.cell? ⟨g, o, none⟩ = some (.int .i64 x) := hrow.cell (j := 0) (by simp); have hlen : ¬ (((x :: L).length : Nat) : Int) = 0 := (by simp; omega); clear hr hb hrow; obtain ⟨r0, r1, r2⟩ : w2.cell? ⟨w.heap.size + 1, 0, none⟩ = some (.int .i64 0) ∧ w2.cell? ⟨w.heap.size + 1, 1, none⟩ = some (.bool false) ∧ w2.cell? ⟨w.heap.size + 1, 2, none⟩ = some (.int .i64 0) := ⟨(Res3.of B2.out.res).r0, (Res3.of B2.out.res).r1, (Res3.of B2.out.res).r2⟩; have rf := (Res3.of B2.out.res).fr)
    obtain ⟨p0, p1, p2⟩ := resW_cells B2.out.res (.int .i64 0) (.bool true) (.int .i64 x)
    refine bodyPost_ret (v := .agg #[.int .i64 0, .bool true, .int .i64 x]) (by simp [results, Try.results13, go_sem, p0, p1, p2]) rfl ⟨rfl, resW_below B2.out.below _ _ _⟩
end
theorem headI_eq (L : List Int) : headI L = L.headD 0 := rfl
/-- Of right operations. -/
theorem res_any (w : World) (s k y : Int) (a : Option Addr) (os : List OpV) (N cap : Nat) (hN : os.length = N) (hl : N ≤ 1000) (hc : N ≤ cap) (hx : OpsAt w a os) (hr : rightB s k y = true) :
    Calls Try.prog 13 #[.int .i64 s, .slice a N cap, .agg #[.int .i64 k, .int .i64 y]] w (ResIs w (okR s os k y) (valR s os k)) := by
  have hk : k = 1 ∨ k = 2 ∨ k = 3 ∨ k = 4 ∨ k = 5 := by rw [right_iff] at hr; omega
  rcases hk with rfl | rfl | rfl | rfl | rfl
  · exact res_1 w s y a os N cap hN hl hx
  · exact res_2 w s y a os N cap hN hl hx
  · exact res_3 w s y a os N cap hN hl hx
  · exact res_4 w s y a N cap
  · exact res_5 w s y a os N cap hN hl hc hx
end Go.Proofs.Ytehjlmolnmiopaa.spec
