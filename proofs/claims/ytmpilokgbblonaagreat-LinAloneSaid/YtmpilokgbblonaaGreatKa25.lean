/- What the document says that an operation tells. -/
import Derived.Test.YtmpilokgbblonaaGreatKa22
import Derived.Test.YtmpilokgbblonaaGreatKa24
import Derived.DeepKeys
namespace Go.Proofs.YtmpilokgbblonaaGreat.spec
open Go.RowKit task

/-- The operation's block and the result's, of the call's own. -/
structure Bx (W w : World) (k y : Int) : Prop where
  op : w.heap[W.heap.size]? = some (.cells #[.int .i64 k, .int .i64 y] 47 (0, 0))
  res : w.heap[W.heap.size + 1]? = some (.cells #[.int .i64 0, .bool false, .int .i64 0] 55 (0, 0))
  below : Below W.heap.size W w
theorem Bx.new (W : World) (k y : Int) : Bx W ((W.alloc (.cells #[.int .i64 k, .int .i64 y] 47)).alloc (.cells #[.int .i64 0, .bool false, .int .i64 0] 55)) k y :=
  ⟨by rw [Below.heap_alloc _ _ _ (by simp)]; exact new_block W _ _, by have := new_block (W.alloc (.cells #[.int .i64 k, .int .i64 y] 47)) #[.int .i64 0, .bool false, .int .i64 0] 55; simpa using this, ((Below.refl _ _).alloc (Nat.le_refl _) _).alloc (by simp) _⟩
theorem Bx.next {W w w' : World} {k y : Int} (h : Bx W w k y) (hb : Below w.heap.size w w') : Bx W w' k y :=
  ⟨(hb.block _ (Array.getElem?_eq_some_iff.1 h.op).1).trans h.op, (hb.block _ (Array.getElem?_eq_some_iff.1 h.res).1).trans h.res, past h.below hb⟩
theorem resW_below {W w : World} (h : Below W.heap.size W w) (a b c : Value) : Below W.heap.size W (((w.setCell ⟨W.heap.size + 1, 0, none⟩ a).setCell ⟨W.heap.size + 1, 1, none⟩ b).setCell ⟨W.heap.size + 1, 2, none⟩ c) :=
  ((h.setCell (p := ⟨W.heap.size + 1, 0, none⟩) (Nat.le_succ _) _).setCell (p := ⟨W.heap.size + 1, 1, none⟩) (Nat.le_succ _) _).setCell (p := ⟨W.heap.size + 1, 2, none⟩) (Nat.le_succ _) _

/-- A result. -/
def ResIs (w : World) (ok : Bool) (v : Int) (e : Ending) (w' : World) : Prop := e = .returned (.agg #[.int .i64 0, .bool ok, .int .i64 v]) ∧ Below w.heap.size w w'

section
variable (w : World) (s y : Int) (a : Option Addr) (os : List OpV) (N cap : Nat)
set_option maxRecDepth 100000 in
set_option maxHeartbeats 1000000 in
theorem res_1 (hN : os.length = N) (hl : N ≤ 1000) (hx : OpsAt w a os) :
    Calls Tryz.prog 23 #[.int .i64 s, .slice a N cap, .agg #[.int .i64 1, .int .i64 y]] w (ResIs w (!inB os y) 0) := by
  have B0 := Lib.hid (Bx.new w 1 y)
  have HX := Lib.hid (hx.later B0.out.below)
  have HN := Lib.hid hN
  clear hx hN
  go_enter Tryz.func23, Tryz.ntmps23
  go_wp2_with (go_at_call 41; refine (in_any _ _ a os N cap HN.out hl HX.out).mono ?_; rintro e w2 ⟨rfl, hw⟩; obtain rfl := hw)
  refine bodyPost_ret (v := .agg #[.int .i64 0, .bool (!inB os y), .int .i64 0]) (by simp [results, Tryz.results23, go_sem]) rfl ⟨rfl, by go_grown⟩
set_option maxRecDepth 100000 in
set_option maxHeartbeats 1000000 in
theorem res_2 (hN : os.length = N) (hl : N ≤ 1000) (hx : OpsAt w a os) :
    Calls Tryz.prog 23 #[.int .i64 s, .slice a N cap, .agg #[.int .i64 2, .int .i64 y]] w (ResIs w (inB os y) 0) := by
  have B0 := Lib.hid (Bx.new w 2 y)
  have HX := Lib.hid (hx.later B0.out.below)
  have HN := Lib.hid hN
  clear hx hN
  go_enter Tryz.func23, Tryz.ntmps23
  go_wp2_with (go_at_call 41; refine (in_any _ _ a os N cap HN.out hl HX.out).mono ?_; rintro e w2 ⟨rfl, hw⟩; obtain rfl := hw)
  refine bodyPost_ret (v := .agg #[.int .i64 0, .bool (inB os y), .int .i64 0]) (by simp [results, Tryz.results23, go_sem]) rfl ⟨rfl, by go_grown⟩
set_option maxRecDepth 100000 in
set_option maxHeartbeats 1000000 in
theorem res_3 (hN : os.length = N) (hl : N ≤ 1000) (hx : OpsAt w a os) :
    Calls Tryz.prog 23 #[.int .i64 s, .slice a N cap, .agg #[.int .i64 3, .int .i64 y]] w (ResIs w (inB os y) 0) := by
  have B0 := Lib.hid (Bx.new w 3 y)
  have HX := Lib.hid (hx.later B0.out.below)
  have HN := Lib.hid hN
  clear hx hN
  go_enter Tryz.func23, Tryz.ntmps23
  go_wp2_with (go_at_call 41; refine (in_any _ _ a os N cap HN.out hl HX.out).mono ?_; rintro e w2 ⟨rfl, hw⟩; obtain rfl := hw)
  refine bodyPost_ret (v := .agg #[.int .i64 0, .bool (inB os y), .int .i64 0]) (by simp [results, Tryz.results23, go_sem]) rfl ⟨rfl, by go_grown⟩
set_option maxRecDepth 100000 in
set_option maxHeartbeats 1000000 in
theorem res_4 :
    Calls Tryz.prog 23 #[.int .i64 s, .slice a N cap, .agg #[.int .i64 4, .int .i64 y]] w (ResIs w true 0) := by
  go_enter Tryz.func23, Tryz.ntmps23
  go_wp2
  refine bodyPost_ret (v := .agg #[.int .i64 0, .bool true, .int .i64 0]) (by simp [results, Tryz.results23, go_sem]) rfl ⟨rfl, by go_grown⟩
set_option maxRecDepth 100000 in
set_option maxHeartbeats 2000000 in
theorem res_5 (hN : os.length = N) (hl : N ≤ 1000) (hc : N ≤ cap) (hx : OpsAt w a os) :
    Calls Tryz.prog 23 #[.int .i64 s, .slice a N cap, .agg #[.int .i64 5, .int .i64 y]] w (ResIs w (!(itemsR s os).isEmpty) (headI (itemsR s os))) := by
  have B0 := Lib.hid (Bx.new w 5 y)
  have HX := Lib.hid (hx.later B0.out.below)
  have HN := Lib.hid hN
  clear hx hN
  cases hi : itemsR s os with
  | nil =>
    have HI := Lib.hid hi
    clear hi
    go_enter Tryz.func23, Tryz.ntmps23
    go_wp2_with (go_at_call 17; refine (itemsR_any _ s a os N cap HN.out hl hc HX.out).mono ?_; rw [HI.out]; rintro e w2 ⟨A, c, g, rfl, hr, _, hb⟩; have B2 := Lib.hid (B0.out.next hb); clear hr hb; obtain ⟨r0, r1, r2⟩ : w2.cell? ⟨w.heap.size + 1, 0, none⟩ = some (.int .i64 0) ∧ w2.cell? ⟨w.heap.size + 1, 1, none⟩ = some (.bool false) ∧ w2.cell? ⟨w.heap.size + 1, 2, none⟩ = some (.int .i64 0) := ⟨(Res3.of B2.out.res).r0, (Res3.of B2.out.res).r1, (Res3.of B2.out.res).r2⟩; have rf := (Res3.of B2.out.res).fr)
    obtain ⟨p0, p1, p2⟩ := resW_cells B2.out.res (.int .i64 0) (.bool false) (.int .i64 0)
    refine bodyPost_ret (v := .agg #[.int .i64 0, .bool false, .int .i64 0]) (by simp [results, Tryz.results23, go_sem, p0, p1, p2]) rfl ⟨rfl, resW_below B2.out.below _ _ _⟩
  | cons x L =>
    have HI := Lib.hid hi
    clear hi
    go_enter Tryz.func23, Tryz.ntmps23
    go_wp2_with (go_at_call 17; refine (itemsR_any _ s a os N cap HN.out hl hc HX.out).mono ?_; rw [HI.out]; rintro e w2 ⟨A, c, g, rfl, hr, _, hb⟩; have B2 := Lib.hid (B0.out.next hb); obtain ⟨o, hA, hrow⟩ := hr.row (by simp); subst hA; have hcell : w2.cell? ⟨g, o, none⟩ = some (.int .i64 x) := hrow.cell (j := 0) (by simp); have hlen : ¬ (((x :: L).length : Nat) : Int) = 0 := (by simp; omega); clear hr hb hrow; obtain ⟨r0, r1, r2⟩ : w2.cell? ⟨w.heap.size + 1, 0, none⟩ = some (.int .i64 0) ∧ w2.cell? ⟨w.heap.size + 1, 1, none⟩ = some (.bool false) ∧ w2.cell? ⟨w.heap.size + 1, 2, none⟩ = some (.int .i64 0) := ⟨(Res3.of B2.out.res).r0, (Res3.of B2.out.res).r1, (Res3.of B2.out.res).r2⟩; have rf := (Res3.of B2.out.res).fr)
    obtain ⟨p0, p1, p2⟩ := resW_cells B2.out.res (.int .i64 0) (.bool true) (.int .i64 x)
    refine bodyPost_ret (v := .agg #[.int .i64 0, .bool true, .int .i64 x]) (by simp [results, Tryz.results23, go_sem, p0, p1, p2]) rfl ⟨rfl, resW_below B2.out.below _ _ _⟩
end
theorem headI_eq (L : List Int) : headI L = L.headD 0 := rfl
/-- Of right operations. -/
theorem res_any (w : World) (s k y : Int) (a : Option Addr) (os : List OpV) (N cap : Nat) (hN : os.length = N) (hl : N ≤ 1000) (hc : N ≤ cap) (hx : OpsAt w a os) (hr : rightB s k y = true) :
    Calls Tryz.prog 23 #[.int .i64 s, .slice a N cap, .agg #[.int .i64 k, .int .i64 y]] w (ResIs w (okR s os k y) (valR s os k)) := by
  have hk : k = 1 ∨ k = 2 ∨ k = 3 ∨ k = 4 ∨ k = 5 := by rw [right_iff] at hr; omega
  rcases hk with rfl | rfl | rfl | rfl | rfl
  · exact res_1 w s y a os N cap hN hl hx
  · exact res_2 w s y a os N cap hN hl hx
  · exact res_3 w s y a os N cap hN hl hx
  · exact res_4 w s y a N cap
  · exact res_5 w s y a os N cap hN hl hc hx
end Go.Proofs.YtmpilokgbblonaaGreat.spec
/- Operations played together. -/
namespace Go.Proofs.YtmpilokgbblonaaGreat.spec
open Go.RowKit task

theorem do_right (w : World) (X : Nat) (f : Nat → Prop) (s k y : Int) (L : List Int) (h : Mean w X f s L) (hl : L.length ≤ 999) (hg : Good s L) (hr : rightB s k y = true) :
    Calls Tryz.prog 61 #[.pointer (some ⟨X, 0, none⟩), .agg #[.int .i64 k, .int .i64 y]] w fun e w' => ∃ f', e = .returned (.tuple #[.agg #[.int .i64 0, .bool (okB L k y), .int .i64 (valI L k)], .int .i64 0]) ∧ Mean w' X f' s (nextL s L k y) ∧ Went f f' w w' := by
  refine (do_any w X f s k y L h hl hg).mono fun e w' ⟨f', he, hm, hw⟩ => ⟨f', ?_, ?_, hw⟩
  · rw [he]; unfold toldB toldI errI; rw [hr]; rfl
  · unfold stepL at hm; rwa [hr, if_pos rfl] at hm
theorem do_not (w : World) (X : Nat) (f : Nat → Prop) (s k y : Int) (L : List Int) (h : Mean w X f s L) (hl : L.length ≤ 999) (hg : Good s L) (hr : rightB s k y = false) :
    Calls Tryz.prog 61 #[.pointer (some ⟨X, 0, none⟩), .agg #[.int .i64 k, .int .i64 y]] w fun e w' => ∃ f', e = .returned (.tuple #[.agg #[.int .i64 0, .bool false, .int .i64 0], .int .i64 1]) ∧ Mean w' X f' s L ∧ Went f f' w w' := by
  refine (do_any w X f s k y L h hl hg).mono fun e w' ⟨f', he, hm, hw⟩ => ⟨f', ?_, ?_, hw⟩
  · rw [he]; unfold toldB toldI errI; rw [hr]; rfl
  · unfold stepL at hm; rwa [hr, if_neg (by decide)] at hm

theorem right_at {s : Int} {os : List OpV} (h : allRight s os) {k : Nat} (hk : k < os.length) : rightB s os[k].K os[k].Y = true := h _ (List.getElem_mem hk)
theorem right_take {s : Int} {os : List OpV} (h : allRight s os) (k : Nat) : allRight s (os.take k) := fun o ho => h o (List.mem_of_mem_take ho)
theorem state_take {s : Int} {os : List OpV} {k : Nat} (hk : k < os.length) : stateL s (os.take (k + 1)) = nextL s (stateL s (os.take k)) os[k].K os[k].Y := by
  rw [List.take_succ_eq_append_getElem hk, stateL_snoc]
theorem state_len (s : Int) : ∀ os : List OpV, (stateL s os).length ≤ os.length := by
  intro os
  induction os using snocInd with
  | nil => exact Nat.le_refl _
  | append_singleton l o ih =>
    rw [stateL_snoc, List.length_append]
    have := next_le s o.K o.Y (stateL s l)
    simp
    omega

/-- The results' cells. -/
def resAt (s : Int) (os : List OpV) (i : Nat) : List Value :=
  match os[i]? with
  | some o => [.int .i64 0, .bool (okB (stateL s (os.take i)) o.K o.Y), .int .i64 (valI (stateL s (os.take i)) o.K)]
  | none => []
def resTo (s : Int) (os : List OpV) : Nat → List Value
  | 0 => []
  | k + 1 => resTo s os k ++ resAt s os k
theorem resTo_succ {s : Int} {os : List OpV} {k : Nat} (hk : k < os.length) : resTo s os (k + 1) = resTo s os k ++ [.int .i64 0, .bool (okB (stateL s (os.take k)) os[k].K os[k].Y), .int .i64 (valI (stateL s (os.take k)) os[k].K)] := by
  rw [resTo, resAt, List.getElem?_eq_getElem hk]
theorem resTo_len {s : Int} {os : List OpV} : ∀ k, k ≤ os.length → (resTo s os k).length = k * 3
  | 0, _ => rfl
  | k + 1, h => by
    rw [resTo_succ (by omega), List.length_append, resTo_len k (by omega)]
    simp
    omega
theorem resTo_get {s : Int} {os : List OpV} : ∀ k, k ≤ os.length → ∀ i (hi : i < os.length), i < k →
    (resTo s os k)[i * 3]? = some (.int .i64 0) ∧ (resTo s os k)[i * 3 + 1]? = some (.bool (okB (stateL s (os.take i)) os[i].K os[i].Y)) ∧ (resTo s os k)[i * 3 + 2]? = some (.int .i64 (valI (stateL s (os.take i)) os[i].K))
  | k + 1, h, i, hi, hik => by
    have hl := resTo_len (s := s) (os := os) k (by omega)
    rw [resTo_succ (by omega)]
    by_cases he : i = k
    · subst he
      refine ⟨?_, ?_, ?_⟩
      · rw [List.getElem?_append_right (by omega), hl, Nat.sub_self]; rfl
      · rw [List.getElem?_append_right (by omega), hl, show i * 3 + 1 - i * 3 = 1 by omega]; rfl
      · rw [List.getElem?_append_right (by omega), hl, show i * 3 + 2 - i * 3 = 2 by omega]; rfl
    · obtain ⟨h0, h1, h2⟩ := resTo_get (s := s) k (by omega) i hi (by omega)
      rw [List.getElem?_append_left (by omega), List.getElem?_append_left (by omega), List.getElem?_append_left (by omega)]
      exact ⟨h0, h1, h2⟩

theorem Tryzinfo_res : (Tryz.prog.info? 55).map (fun i => (i.zero, i.size, i.bytes)) = some (some (.agg #[.int .i64 0, .bool false, .int .i64 0]), 3, 24) := by kernel_rfl
theorem make_res (w : World) (z : Nat) (hz : z ≤ 1000) :
    ∃ cur : Array Value, cur.size = z * 3 ∧ (Instr.makeSlice 58 (.int .i64 0) (.int .i64 (z : Int))).run Tryz.prog w = .ok (.slice (some ⟨w.heap.size, 0, none⟩) 0 z) (w.alloc (.cells cur 55)) := by
  obtain ⟨i, hi, h0, h1, h2⟩ := info_parts Tryzinfo_res
  have h := run_make (P := Tryz.prog) w 58 55 i _ Tryz.underlying58 hi h0 .i64 .i64 0 z (by omega) (by omega) (by rw [h2]; omega) (by omega)
  rw [h1] at h
  simp only [Int.toNat_natCast, Int.toNat_zero] at h
  exact ⟨_, by simp [madeCells], h⟩
theorem cell_new3 (w : World) (x y z : Value) (T : TypeId) {g : Nat} (hg : w.heap.size = g) : ∀ j u, [x, y, z][j]? = some u → (w.alloc (.cells #[x, y, z] T)).cell? ((⟨g, 0, none⟩ : Addr).add j) = some u := by
  subst hg
  intro j u hu
  have h := new_block w #[x, y, z] T
  rw [Addr.add_lit, Joins.cell_of_block h]
  have hj : j < 3 := by
    have := (List.getElem?_eq_some_iff.1 hu).1
    simpa using this
  match j, hj, hu with
  | 0, _, hu => exact hu
  | 1, _, hu => exact hu
  | 2, _, hu => exact hu
theorem one_res (b : Bool) (x z : Int) : ∀ u ∈ [Value.int .i64 z, .bool b, .int .i64 x], u.oneCell' = true := by
  intro u hu
  simp at hu
  rcases hu with rfl | rfl | rfl <;> rfl
theorem owns_moved {w w' : World} {base size n : Nat} {e : TypeId} {v : Value} {xs : List Value} (h : w.ownsRow base e size v n xs) (hb : ∀ g, v.ownBlock = some g → w'.heap[g]? = w.heap[g]?) : w'.ownsRow base e size v n xs := by
  obtain ⟨hl, h | ⟨g, cap, cur, rfl, h0, hg, h1, h2, h3, h4⟩⟩ := h
  · exact ⟨hl, .inl h⟩
  · exact ⟨hl, .inr ⟨g, cap, cur, rfl, h0, (hb g rfl).trans hg, h1, h2, h3, h4⟩⟩
theorem owns_below {w w' : World} {base size n : Nat} {e : TypeId} {v : Value} {xs : List Value} (h : w.ownsRow base e size v n xs) (hb : Below w.heap.size w w') : w'.ownsRow base e size v n xs := owns_moved h fun g hg => hb.block g (h.lt g hg).2
theorem owns_went {w w' : World} {f f' : Nat → Prop} {base size n : Nat} {e : TypeId} {v : Value} {xs : List Value} (h : w.ownsRow base e size v n xs) (hw : Went f f' w w') (hf : ∀ b, v.ownBlock = some b → ¬ f b) : w'.ownsRow base e size v n xs := owns_moved h fun g hg => hw.block g (h.lt g hg).2 (hf g hg)

/-- A meaning, and the results so far. -/
structure Playing (W w : World) (X : Nat) (f : Nat → Prop) (s : Int) (os : List OpV) (k : Nat) (v : Value) : Prop where
  mean : Mean w X f s (stateL s (os.take k))
  row : w.ownsRow W.heap.size 55 3 v k (resTo s os k)
  off : ∀ b, v.ownBlock = some b → ¬ f b
  new : ∀ b, f b → W.heap.size ≤ b
  below : Below W.heap.size W w
  nn : v ≠ .slice none 0 0
/-- Behind an operation, and blocks more. -/
theorem Playing.mid {W w w1 w2 w3 : World} {X : Nat} {f f' : Nat → Prop} {s : Int} {os : List OpV} {k : Nat} {v : Value} {M : List Int} (h : Playing W w X f s os k v) (h1 : Below w.heap.size w w1) (hm : Mean w2 X f' s M) (hw : Went f f' w1 w2) (h3 : Below w2.heap.size w2 w3) :
    Mean w3 X f' s M ∧ w3.ownsRow W.heap.size 55 3 v k (resTo s os k) ∧ (∀ b, v.ownBlock = Option.some b → ¬ f' b) ∧ (∀ b, f' b → W.heap.size ≤ b) ∧ Below W.heap.size W w3 ∧ (∀ b, f' b → b < w3.heap.size) := by
  have hw2 := Went.ahead h1 hw
  refine ⟨hm.below h3, owns_below (owns_went h.row hw2 h.off) h3, fun b hb => hw2.apart (h.row.lt b hb).2 (h.off b hb), hw2.from h.below.size h.new, past (hw2.below h.below h.below.size h.new) h3, fun b hb => Nat.lt_of_lt_of_le (hm.lt b hb) h3.size⟩
theorem Playing.step {W w w1 w2 w3 w4 : World} {X : Nat} {f f' : Nat → Prop} {s : Int} {os : List OpV} {k : Nat} {v v' : Value} {x0 x1 x2 : Value} (h : Playing W w X f s os k v) (h1 : Below w.heap.size w w1) {o : OpV} (ho : os[k]? = Option.some o) (hm : Mean w2 X f' s (nextL s (stateL s (os.take k)) o.K o.Y)) (hw : Went f f' w1 w2) (h3 : Below w2.heap.size w2 w3)
    (hown : w4.ownsRow W.heap.size 55 3 v' (k + 1) (resTo s os k ++ [x0, x1, x2])) (hx : [x0, x1, x2] = [Value.int .i64 0, .bool (okB (stateL s (os.take k)) o.K o.Y), .int .i64 (valI (stateL s (os.take k)) o.K)]) (hg : w3.grownBy w4 v.ownBlock) (hi : v' = .slice none 0 0 ↔ v = .slice none 0 0 ∧ (1 : Nat) = 0) (hat : v'.ownBlock = v.ownBlock ∨ v'.ownBlock = Option.some w3.heap.size) : Playing W w4 X f' s os (k + 1) v' := by
  obtain ⟨hk, rfl⟩ := List.getElem?_eq_some_iff.1 ho
  obtain ⟨m1, m2, m3, m4, m5, m6⟩ := h.mid h1 hm hw h3
  refine ⟨?_, by rw [resTo_succ hk, ← hx]; exact hown, fun b hb hf => ?_, m4, m5.grown hg m5.size (fun b hb => (m2.lt b hb).1), fun e => h.nn (hi.1 e).1⟩
  · rw [state_take hk]
    exact m1.grown hg m3
  · rcases hat with hat | hat
    · exact m3 b (hat.symm.trans hb) hf
    · have := m6 b hf
      have e : w3.heap.size = b := Option.some.inj (hat.symm.trans hb)
      omega

/-- What Play tells of right operations. -/
def Played (w : World) (s : Int) (os : List OpV) (e : Ending) (w' : World) : Prop :=
  ∃ X f g c, e = .returned (.tuple #[.slice (some ⟨g, 0, none⟩) os.length c, .pointer (some ⟨X, 0, none⟩), .int .i64 0]) ∧ w'.ownsRow w.heap.size 55 3 (.slice (some ⟨g, 0, none⟩) os.length c) os.length (resTo s os os.length) ∧ ¬ f g ∧ Mean w' X f s (stateL s os) ∧ (∀ b, f b → w.heap.size ≤ b) ∧ Below w.heap.size w w'
theorem Playing.told {W w : World} {X : Nat} {f : Nat → Prop} {s : Int} {os : List OpV} {v : Value} (h : Playing W w X f s os os.length v) : Played W s os (.returned (.tuple #[v, .pointer (some ⟨X, 0, none⟩), .int .i64 0])) w := by
  have hr := h.row
  rcases hr.2 with ⟨hv, _⟩ | ⟨g, c, cur, rfl, _⟩
  · exact absurd hv h.nn
  · refine ⟨X, f, g, c, rfl, hr, h.off g rfl, ?_, h.new, h.below⟩
    have := h.mean
    rwa [List.take_length] at this

theorem allRight_succ {s : Int} {os : List OpV} {k : Nat} (hk : k < os.length) (h : allRight s (os.take k)) (hr : rightB s os[k].K os[k].Y = true) : allRight s (os.take (k + 1)) := by
  intro o ho
  rw [List.take_succ_eq_append_getElem hk, List.mem_append] at ho
  rcases ho with ho | ho
  · exact h o ho
  · rw [List.mem_singleton.1 ho]; exact hr
/-- What Play tells else. -/
def Refused (w : World) (e : Ending) (w' : World) : Prop := e = .returned (.tuple #[.slice none 0 0, .pointer none, .int .i64 1]) ∧ Below w.heap.size w w'
end Go.Proofs.YtmpilokgbblonaaGreat.spec
/- Two results compare as equal just if all their fields are the same; the document's example is told as the document has it. -/
namespace Go.Proofs.YtmpilokgbblonaaGreat.spec
open Go.RowKit task

theorem eqi (n : Nat) (x y : Int) (w : World) : (Op.equalIn (n + 1) 3 (.int .i64 x) (.int .i64 y)).run Tryz.prog w = .ok (x == y) w := by
  simp [Op.equalIn, run_underlying Tryz.underlying3]
theorem eqe (n : Nat) (x y : Int) (w : World) : (Op.equalIn (n + 1) 30 (.int .i64 x) (.int .i64 y)).run Tryz.prog w = .ok (x == y) w := by
  simp [Op.equalIn, run_underlying Tryz.underlying30]
theorem eqb (n : Nat) (x y : Bool) (w : World) : (Op.equalIn (n + 1) 4 (.bool x) (.bool y)).run Tryz.prog w = .ok (x == y) w := by
  simp [Op.equalIn, run_underlying Tryz.underlying4]
theorem eq_res_at (d : Nat) (c c' : Int) (b b' : Bool) (v v' : Int) (w : World) : (Op.equalIn (d + 1 + 1) 55 (.agg #[.int .i64 c, .bool b, .int .i64 v]) (.agg #[.int .i64 c', .bool b', .int .i64 v'])).run Tryz.prog w = .ok (c == c' && (b == b' && v == v')) w := by
  have hs : Tryz.prog.stoodInHeld 55 = false := by kernel_rfl
  unfold Op.equalIn
  simp only [Sem.run_bind, run_underlying Tryz.underlying55, Result.andThen_ok]
  simp [go_sem, hs, eqi, eqe, eqb]
  by_cases h1 : c = c' <;> by_cases h2 : b = b' <;> by_cases h3 : v = v' <;> simp [*]
/-- As the walk asks it. -/
theorem eq_res (c c' : Int) (b b' : Bool) (v v' : Int) (w : World) : (Op.equalIn 10000 55 (.agg #[.int .i64 c, .bool b, .int .i64 v]) (.agg #[.int .i64 c', .bool b', .int .i64 v'])).run Tryz.prog w = .ok (c == c' && (b == b' && v == v')) w :=
  eq_res_at 9998 c c' b b' v v' w

theorem len_mean (w : World) (X : Nat) (f : Nat → Prop) (s : Int) (L : List Int) (h : Mean w X f s L) (hl : L.length ≤ 1000) :
    Calls Tryz.prog 82 #[.pointer (some ⟨X, 0, none⟩)] w fun e w' => e = .returned (.int .i64 (L.length : Nat)) ∧ ∃ n, w' = w.drewN n := by
  obtain ⟨t, h1, rfl, _⟩ := h
  exact len_any w X s t h1 hl
theorem items_mean (w : World) (X : Nat) (f : Nat → Prop) (s : Int) (L : List Int) (h : Mean w X f s L) (hl : L.length ≤ 1000) :
    Calls Tryz.prog 38 #[.pointer (some ⟨X, 0, none⟩)] w (Told w L) := by
  obtain ⟨t, h1, rfl, _⟩ := h
  exact (items_any w X s t h1 hl).mono fun e w' ⟨⟨A, c, g, he, hr, hg⟩, hb⟩ => ⟨A, c, g, he, hr, hg, hb⟩
/-- The results' cells in their row. -/
theorem row_res {w : World} {base g c n : Nat} {s : Int} {os : List OpV} (h : w.ownsRow base 55 3 (.slice (some ⟨g, 0, none⟩) n c) n (resTo s os n)) (hn : n ≤ os.length) (i : Nat) (hi : i < os.length) (hin : i < n) :
    w.cell? ⟨g, i * 3, none⟩ = some (.int .i64 0) ∧ w.cell? ⟨g, i * 3 + 1, none⟩ = some (.bool (okB (stateL s (os.take i)) os[i].K os[i].Y)) ∧ w.cell? ⟨g, i * 3 + 2, none⟩ = some (.int .i64 (valI (stateL s (os.take i)) os[i].K)) := by
  obtain ⟨h0, h1, h2⟩ := resTo_get n hn i hi hin
  have e0 := h.cells (g := g) rfl _ _ h0
  have e1 := h.cells (g := g) rfl _ _ h1
  have e2 := h.cells (g := g) rfl _ _ h2
  rw [Addr.add_lit, Nat.zero_add] at e0 e1 e2
  exact ⟨e0, e1, e2⟩

/-- The example's operations. -/
def exOps : List OpV := [⟨4, 4⟩, ⟨4, 9⟩, ⟨5, 0⟩]
theorem ex_right : allRight 3 exOps := by
  intro o ho
  simp [exOps] at ho
  rcases ho with rfl | rfl | rfl <;> decide
theorem ex_at (w : World) : OpsAt (w.alloc (.cells #[.int .i64 4, .int .i64 4, .int .i64 4, .int .i64 9, .int .i64 5, .int .i64 0] 47)) (some ⟨w.heap.size, 0, none⟩) exOps := by
  intro i hi
  refine ⟨_, rfl, ?_⟩
  have hb := new_block w #[.int .i64 4, .int .i64 4, .int .i64 4, .int .i64 9, .int .i64 5, .int .i64 0] 47
  rw [Addr.add_lit]
  simp only [Nat.zero_add]
  rw [Joins.cell_of_block hb, Joins.cell_of_block hb]
  have h3 : i < 3 := hi
  match i, h3 with
  | 0, _ => exact ⟨rfl, rfl⟩
  | 1, _ => exact ⟨rfl, rfl⟩
  | 2, _ => exact ⟨rfl, rfl⟩

attribute [local go_sem] eq_res
end Go.Proofs.YtmpilokgbblonaaGreat.spec
/- The law SpecCounts answers true at any shape and any operations. -/
namespace Go.Proofs.YtmpilokgbblonaaGreat.spec
open Go.RowKit task

/-- A meaning of the call's own. -/
structure Run (W w : World) (X : Nat) (f : Nat → Prop) (s : Int) (L : List Int) : Prop where
  mean : Mean w X f s L
  good : Good s L
  new : ∀ b, f b → W.heap.size ≤ b
  below : Below W.heap.size W w
theorem Run.next {W w w' : World} {X : Nat} {f : Nat → Prop} {s : Int} {L : List Int} (h : Run W w X f s L) (hb : Below w.heap.size w w') : Run W w' X f s L :=
  ⟨h.mean.below hb, h.good, h.new, past h.below hb⟩
theorem Run.alloc {W w : World} {X : Nat} {f : Nat → Prop} {s : Int} {L : List Int} (h : Run W w X f s L) (o : Obj) : Run W (w.alloc o) X f s L := h.next ((Below.refl _ _).alloc (Nat.le_refl _) o)
/-- Behind an operation. -/
theorem Run.step {W w w' : World} {X : Nat} {f f' : Nat → Prop} {s : Int} {L M : List Int} (h : Run W w X f s L) (hm : Mean w' X f' s M) (hw : Went f f' w w') (hg : Good s M) : Run W w' X f' s M :=
  ⟨hm, hg, hw.from h.below.size h.new, hw.below h.below h.below.size h.new⟩
/-- The operation's block, ahead of it, is as it was behind it. -/
theorem went_op {w w1 w2 : World} {f f' : Nat → Prop} {k y : Int} (hf : ∀ b, f b → b < w.heap.size) (h1 : Below (w.alloc (.cells #[.int .i64 k, .int .i64 y] 47)).heap.size (w.alloc (.cells #[.int .i64 k, .int .i64 y] 47)) w1) (hw : Went f f' w1 w2) :
    w2.heap[w.heap.size]? = some (.cells #[.int .i64 k, .int .i64 y] 47 (0, 0)) ∧ w.heap.size < w2.heap.size := by
  have hs := h1.size
  have hs2 := hw.size
  simp at hs
  refine ⟨(hw.block _ (by omega) (fun h => by have := hf _ h; omega)).trans ((h1.block _ (by simp)).trans (new_block w _ _)), by omega⟩

end Go.Proofs.YtmpilokgbblonaaGreat.spec
