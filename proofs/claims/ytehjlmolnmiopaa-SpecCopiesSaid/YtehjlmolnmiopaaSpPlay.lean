/- Operations played together. -/
import Derived.Test.YtehjlmolnmiopaaSpRes
namespace Go.Proofs.Ytehjlmolnmiopaa.spec
open Go.RowKit task

theorem do_right (w : World) (X : Nat) (f : Nat → Prop) (s k y : Int) (L : List Int) (h : Mean w X f s L) (hl : L.length ≤ 999) (hg : Good s L) (hr : rightB s k y = true) :
    Calls Try.prog 11 #[.pointer (some ⟨X, 0, none⟩), .agg #[.int .i64 k, .int .i64 y]] w fun e w' => ∃ f', e = .returned (.tuple #[.agg #[.int .i64 0, .bool (okB L k y), .int .i64 (valI L k)], .int .i64 0]) ∧ Mean w' X f' s (nextL s L k y) ∧ Went f f' w w' := by
  refine (do_any w X f s k y L h hl hg).mono fun e w' ⟨f', he, hm, hw⟩ => ⟨f', ?_, ?_, hw⟩
  · rw [he]; unfold toldB toldI errI; rw [hr]; rfl
  · unfold stepL at hm; rwa [hr, if_pos rfl] at hm
theorem do_not (w : World) (X : Nat) (f : Nat → Prop) (s k y : Int) (L : List Int) (h : Mean w X f s L) (hl : L.length ≤ 999) (hg : Good s L) (hr : rightB s k y = false) :
    Calls Try.prog 11 #[.pointer (some ⟨X, 0, none⟩), .agg #[.int .i64 k, .int .i64 y]] w fun e w' => ∃ f', e = .returned (.tuple #[.agg #[.int .i64 0, .bool false, .int .i64 0], .int .i64 1]) ∧ Mean w' X f' s L ∧ Went f f' w w' := by
  refine (do_any w X f s k y L h hl hg).mono fun e w' ⟨f', he, hm, hw⟩ => ⟨f', ?_, ?_, hw⟩
  · rw [he]; unfold toldB toldI errI; rw [hr]; rfl
  · unfold stepL at hm; rwa [hr, if_neg (by decide)] at hm

theorem right_at {s : Int} {os : List OpV} (h : allRight s os) {k : Nat} (hk : k < os.length) : rightB s os[k].K os[k].Y = true := h _ (List.getElem_mem hk)
theorem right_take {s : Int} {os : List OpV} (h : allRight s os) (k : Nat) : allRight s (os.take k) := fun o ho => h o (List.mem_of_mem_take ho)
theorem state_take {s : Int} {os : List OpV} {k : Nat} (hk : k < os.length) : stateL s (os.take (k + 1)) = nextL s (stateL s (os.take k)) os[k].K os[k].Y := by
  rw [List.take_succ_eq_append_getElem hk, stateL_snoc]
theorem state_len (s : Int) : ∀ os : List OpV, (stateL s os).length ≤ os.length := by
  intro os
  induction os using snocInd with
  | nil => exact Nat.le_refl _
  | append_singleton l o ih =>
    rw [stateL_snoc, List.length_append]
    have := next_le s o.K o.Y (stateL s l)
    simp
    omega

/-- The results' cells. -/
def resAt (s : Int) (os : List OpV) (i : Nat) : List Value :=
  match os[i]? with
  | some o => [.int .i64 0, .bool (okB (stateL s (os.take i)) o.K o.Y), .int .i64 (valI (stateL s (os.take i)) o.K)]
  | none => []
def resTo (s : Int) (os : List OpV) : Nat → List Value
  | 0 => []
  | k + 1 => resTo s os k ++ resAt s os k
theorem resTo_succ {s : Int} {os : List OpV} {k : Nat} (hk : k < os.length) : resTo s os (k + 1) = resTo s os k ++ [.int .i64 0, .bool (okB (stateL s (os.take k)) os[k].K os[k].Y), .int .i64 (valI (stateL s (os.take k)) os[k].K)] := by
  rw [resTo, resAt, List.getElem?_eq_getElem hk]
theorem resTo_len {s : Int} {os : List OpV} : ∀ k, k ≤ os.length → (resTo s os k).length = k * 3
  | 0, _ => rfl
  | k + 1, h => by
    rw [resTo_succ (by omega), List.length_append, resTo_len k (by omega)]
    simp
    omega
theorem resTo_get {s : Int} {os : List OpV} : ∀ k, k ≤ os.length → ∀ i (hi : i < os.length), i < k →
    (resTo s os k)[i * 3]? = some (.int .i64 0) ∧ (resTo s os k)[i * 3 + 1]? = some (.bool (okB (stateL s (os.take i)) os[i].K os[i].Y)) ∧ (resTo s os k)[i * 3 + 2]? = some (.int .i64 (valI (stateL s (os.take i)) os[i].K))
  | k + 1, h, i, hi, hik => by
    have hl := resTo_len (s := s) (os := os) k (by omega)
    rw [resTo_succ (by omega)]
    by_cases he : i = k
    · subst he
      refine ⟨?_, ?_, ?_⟩
      · rw [List.getElem?_append_right (by omega), hl, Nat.sub_self]; rfl
      · rw [List.getElem?_append_right (by omega), hl, show i * 3 + 1 - i * 3 = 1 by omega]; rfl
      · rw [List.getElem?_append_right (by omega), hl, show i * 3 + 2 - i * 3 = 2 by omega]; rfl
    · obtain ⟨h0, h1, h2⟩ := resTo_get (s := s) k (by omega) i hi (by omega)
      rw [List.getElem?_append_left (by omega), List.getElem?_append_left (by omega), List.getElem?_append_left (by omega)]
      exact ⟨h0, h1, h2⟩

theorem Tryinfo_res : (Try.prog.info? 37).map (fun i => (i.zero, i.size, i.bytes)) = some (some (.agg #[.int .i64 0, .bool false, .int .i64 0]), 3, 24) := by kernel_rfl
theorem make_res (w : World) (z : Nat) (hz : z ≤ 1000) :
    ∃ cur : Array Value, cur.size = z * 3 ∧ (Instr.makeSlice 47 (.int .i64 0) (.int .i64 (z : Int))).run Try.prog w = .ok (.slice (some ⟨w.heap.size, 0, none⟩) 0 z) (w.alloc (.cells cur 37)) := by
  obtain ⟨i, hi, h0, h1, h2⟩ := info_parts Tryinfo_res
  have h := run_make (P := Try.prog) w 47 37 i _ Try.underlying47 hi h0 .i64 .i64 0 z (by omega) (by omega) (by rw [h2]; omega) (by omega)
  rw [h1] at h
  simp only [Int.toNat_natCast, Int.toNat_zero] at h
  exact ⟨_, by simp [madeCells], h⟩
theorem cell_new3 (w : World) (x y z : Value) (T : TypeId) {g : Nat} (hg : w.heap.size = g) : ∀ j u, [x, y, z][j]? = some u → (w.alloc (.cells #[x, y, z] T)).cell? ((⟨g, 0, none⟩ : Addr).add j) = some u := by
  subst hg
  intro j u hu
  have h := new_block w #[x, y, z] T
  rw [Addr.add_lit, Joins.cell_of_block h]
  have hj : j < 3 := by
    have := (List.getElem?_eq_some_iff.1 hu).1
    simpa using this
  match j, hj, hu with
  | 0, _, hu => exact hu
  | 1, _, hu => exact hu
  | 2, _, hu => exact hu
theorem one_res (b : Bool) (x z : Int) : ∀ u ∈ [Value.int .i64 z, .bool b, .int .i64 x], u.oneCell' = true := by
  intro u hu
  simp at hu
  rcases hu with rfl | rfl | rfl <;> rfl
theorem owns_moved {w w' : World} {base size n : Nat} {e : TypeId} {v : Value} {xs : List Value} (h : w.ownsRow base e size v n xs) (hb : ∀ g, v.ownBlock = some g → w'.heap[g]? = w.heap[g]?) : w'.ownsRow base e size v n xs := by
  obtain ⟨hl, h | ⟨g, cap, cur, rfl, h0, hg, h1, h2, h3, h4⟩⟩ := h
  · exact ⟨hl, .inl h⟩
  · exact ⟨hl, .inr ⟨g, cap, cur, rfl, h0, (hb g rfl).trans hg, h1, h2, h3, h4⟩⟩
theorem owns_below {w w' : World} {base size n : Nat} {e : TypeId} {v : Value} {xs : List Value} (h : w.ownsRow base e size v n xs) (hb : Below w.heap.size w w') : w'.ownsRow base e size v n xs := owns_moved h fun g hg => hb.block g (h.lt g hg).2
theorem owns_went {w w' : World} {f f' : Nat → Prop} {base size n : Nat} {e : TypeId} {v : Value} {xs : List Value} (h : w.ownsRow base e size v n xs) (hw : Went f f' w w') (hf : ∀ b, v.ownBlock = some b → ¬ f b) : w'.ownsRow base e size v n xs := owns_moved h fun g hg => hw.block g (h.lt g hg).2 (hf g hg)

/-- A meaning, and the results so far. -/
structure Playing (W w : World) (X : Nat) (f : Nat → Prop) (s : Int) (os : List OpV) (k : Nat) (v : Value) : Prop where
  mean : Mean w X f s (stateL s (os.take k))
  row : w.ownsRow W.heap.size 37 3 v k (resTo s os k)
  off : ∀ b, v.ownBlock = some b → ¬ f b
  new : ∀ b, f b → W.heap.size ≤ b
  below : Below W.heap.size W w
  nn : v ≠ .slice none 0 0
/-- Behind an operation, and blocks more. -/
theorem Playing.mid {W w w1 w2 w3 : World} {X : Nat} {f f' : Nat → Prop} {s : Int} {os : List OpV} {k : Nat} {v : Value} {M : List Int} (h : Playing W w X f s os k v) (h1 : Below w.heap.size w w1) (hm : Mean w2 X f' s M) (hw : Went f f' w1 w2) (h3 : Below w2.heap.size w2 w3) :
    Mean w3 X f' s M ∧ w3.ownsRow W.heap.size 37 3 v k (resTo s os k) ∧ (∀ b, v.ownBlock = Option.some b → ¬ f' b) ∧ (∀ b, f' b → W.heap.size ≤ b) ∧ Below W.heap.size W w3 ∧ (∀ b, f' b → b < w3.heap.size) := by
  have hw2 := Went.ahead h1 hw
  refine ⟨hm.below h3, owns_below (owns_went h.row hw2 h.off) h3, fun b hb => hw2.apart (h.row.lt b hb).2 (h.off b hb), hw2.from h.below.size h.new, past (hw2.below h.below h.below.size h.new) h3, fun b hb => Nat.lt_of_lt_of_le (hm.lt b hb) h3.size⟩
theorem Playing.step {W w w1 w2 w3 w4 : World} {X : Nat} {f f' : Nat → Prop} {s : Int} {os : List OpV} {k : Nat} {v v' : Value} {x0 x1 x2 : Value} (h : Playing W w X f s os k v) (h1 : Below w.heap.size w w1) {o : OpV} (ho : os[k]? = Option.some o) (hm : Mean w2 X f' s (nextL s (stateL s (os.take k)) o.K o.Y)) (hw : Went f f' w1 w2) (h3 : Below w2.heap.size w2 w3)
    (hown : w4.ownsRow W.heap.size 37 3 v' (k + 1) (resTo s os k ++ [x0, x1, x2])) (hx : [x0, x1, x2] = [Value.int .i64 0, .bool (okB (stateL s (os.take k)) o.K o.Y), .int .i64 (valI (stateL s (os.take k)) o.K)]) (hg : w3.grownBy w4 v.ownBlock) (hi : v' = .slice none 0 0 ↔ v = .slice none 0 0 ∧ (1 : Nat) = 0) (hat : v'.ownBlock = v.ownBlock ∨ v'.ownBlock = Option.some w3.heap.size) : Playing W w4 X f' s os (k + 1) v' := by
  obtain ⟨hk, rfl⟩ := List.getElem?_eq_some_iff.1 ho
  obtain ⟨m1, m2, m3, m4, m5, m6⟩ := h.mid h1 hm hw h3
  refine ⟨?_, by rw [resTo_succ hk, ← hx]; exact hown, fun b hb hf => ?_, m4, m5.grown hg m5.size (fun b hb => (m2.lt b hb).1), fun e => h.nn (hi.1 e).1⟩
  · rw [state_take hk]
    exact m1.grown hg m3
  · rcases hat with hat | hat
    · exact m3 b (hat.symm.trans hb) hf
    · have := m6 b hf
      have e : w3.heap.size = b := Option.some.inj (hat.symm.trans hb)
      omega

/-- What Play tells of right operations. -/
def Played (w : World) (s : Int) (os : List OpV) (e : Ending) (w' : World) : Prop :=
  ∃ X f g c, e = .returned (.tuple #[.slice (some ⟨g, 0, none⟩) os.length c, .pointer (some ⟨X, 0, none⟩), .int .i64 0]) ∧ w'.ownsRow w.heap.size 37 3 (.slice (some ⟨g, 0, none⟩) os.length c) os.length (resTo s os os.length) ∧ ¬ f g ∧ Mean w' X f s (stateL s os) ∧ (∀ b, f b → w.heap.size ≤ b) ∧ Below w.heap.size w w'
theorem Playing.told {W w : World} {X : Nat} {f : Nat → Prop} {s : Int} {os : List OpV} {v : Value} (h : Playing W w X f s os os.length v) : Played W s os (.returned (.tuple #[v, .pointer (some ⟨X, 0, none⟩), .int .i64 0])) w := by
  have hr := h.row
  rcases hr.2 with ⟨hv, _⟩ | ⟨g, c, cur, rfl, _⟩
  · exact absurd hv h.nn
  · refine ⟨X, f, g, c, rfl, hr, h.off g rfl, ?_, h.new, h.below⟩
    have := h.mean
    rwa [List.take_length] at this

set_option maxRecDepth 100000 in
set_option maxHeartbeats 4000000 in
theorem play_right (w : World) (s : Int) (a : Option Addr) (os : List OpV) (N cap : Nat) (hs : 1 ≤ s ∧ s ≤ 4) (hN : os.length = N) (hl : N ≤ 60) (hx : OpsAt w a os) (hr : allRight s os) :
    Calls Try.prog 18 #[.int .i64 s, .slice a N cap] w (Played w s os) := by
  have HX := Lib.hid hx
  have HN := Lib.hid hN
  have HR := Lib.hid hr
  have HS := Lib.hid hs
  clear hx hN hr hs
  go_enter Try.func18, Try.ntmps18
  go_wp2_with (go_at_call 9; refine (new_right _ s HS.out).mono ?_; rintro e w1 ⟨X, f, rfl, hm, hf, hb⟩; obtain ⟨cur, hcur, hmk⟩ := make_res w1 N (by omega); have P0 : Hid (Playing w (w1.alloc (.cells cur 37)) X f s os 0 (.slice (some ⟨w1.heap.size, 0, none⟩) 0 N)) := Lib.hid ⟨hm.below ((Below.refl _ _).alloc (Nat.le_refl _) _), World.ownsRow_made w1 cur N hb.size (by unfold maxLen; omega) hcur, fun b hb hf => (by have h1 := hm.lt b hf; have h2 : w1.heap.size = b := Option.some.inj hb; omega), hf, hb.alloc hb.size _, by simp⟩; clear hm hf hb hcur)
  clear hmk
  go_loopw [9, 27] (fun v i wr => ∃ (k : Nat) (f' : Nat → Prop), k ≤ N ∧ i = .int .i64 k ∧ Playing w wr X f' s os k v) (fun _ i _ => N - (intOf i).toNat)
  case atStart => exact ⟨0, f, Nat.zero_le _, rfl, P0.out⟩
  case round =>
    clear P0
    obtain ⟨k, f', hk, rfl, hp⟩ := hrel
    have HP := Lib.hid hp
    clear hp
    by_cases hlt : k < N
    · have hkl : k < os.length := by rw [HN.out]; exact hlt
      obtain ⟨b, rfl, c0, c1⟩ := (HX.out.later HP.out.below) k hkl
      have HK := Lib.hid hkl
      have HRK := Lib.hid (right_at HR.out hkl)
      have HG := Lib.hid (good_state s (os.take k) (right_take HR.out k))
      have hll : (stateL s (os.take k)).length ≤ 999 := by have := state_len s (os.take k); simp at this; omega
      have HLL := Lib.hid hll
      have HO := Lib.hid (List.getElem?_eq_getElem hkl)
      clear hll HK
      generalize os[k] = o at *
      obtain ⟨K, Y⟩ := o
      simp only at c0 c1
      obtain ⟨i0, hi, hz0, hz1, hz2⟩ := info_parts Tryinfo_res
      have hml : k + 1 ≤ maxLen := by unfold maxLen; omega
      go_wp2_with (first
        | (at_builtin; go_loud (refine wpList_append_own_at _ rfl (.tmp 40) (.tmp 42) 47 rfl w.heap.size 37 i0 (.agg #[.int .i64 0, .bool false, .int .i64 0]) 3 24 Try.underlying47 hi hz0 hz1 hz2 rfl (by decide) _ k (resTo s os k) rfl (HP.out.mid ((Below.refl _ _).alloc (Nat.le_refl _) _) M2.out W2.out (((Below.refl _ _).alloc (Nat.le_refl _) _).alloc (by simp) _)).2.1 ⟨w2.heap.size + 1, 0, none⟩ 1 1 [.int .i64 0, .bool (okB (stateL s (os.take k)) K Y), .int .i64 (valI (stateL s (os.take k)) K)] rfl rfl (cell_new3 _ _ _ _ _ (by simp)) (one_res _ _ _) hml (by omega) (HP.out.mid ((Below.refl _ _).alloc (Nat.le_refl _) _) M2.out W2.out (((Below.refl _ _).alloc (Nat.le_refl _) _).alloc (by simp) _)).2.2.2.2.1.size ?_; intro v' w4 hown' hgrow hiff hat; have P4 := Lib.hid (HP.out.step ((Below.refl _ _).alloc (Nat.le_refl _) _) HO.out M2.out W2.out (((Below.refl _ _).alloc (Nat.le_refl _) _).alloc (by simp) _) hown' rfl hgrow hiff hat); clear hown' hgrow hiff hat))
        | (go_at_call 11; go_loud (refine (do_right _ X f' s K Y (stateL s (os.take k)) (HP.out.mean.below ((Below.refl _ _).alloc (Nat.le_refl _) _)) HLL.out HG.out HRK.out).mono ?_; rintro e w2 ⟨g', rfl, hm, hw⟩; have M2 := Lib.hid hm; have W2 := Lib.hid hw; clear hm hw)))
      go_roundw
      case rel => exact ⟨k + 1, g', by omega, by go_num, P4.out⟩
      case measure => simp [intOf]; omega
    · obtain rfl : k = N := by omega
      go_wp2
      go_returns
      have hp := HP.out
      rw [← HN.out] at hp
      exact hp.told

theorem allRight_succ {s : Int} {os : List OpV} {k : Nat} (hk : k < os.length) (h : allRight s (os.take k)) (hr : rightB s os[k].K os[k].Y = true) : allRight s (os.take (k + 1)) := by
  intro o ho
  rw [List.take_succ_eq_append_getElem hk, List.mem_append] at ho
  rcases ho with ho | ho
  · exact h o ho
  · rw [List.mem_singleton.1 ho]; exact hr
/-- What Play tells else. -/
def Refused (w : World) (e : Ending) (w' : World) : Prop := e = .returned (.tuple #[.slice none 0 0, .pointer none, .int .i64 1]) ∧ Below w.heap.size w w'
set_option maxHeartbeats 1000000 in
theorem play_none (w : World) (s : Int) (a : Option Addr) (N cap : Nat) (hs : ¬ (1 ≤ s ∧ s ≤ 4)) :
    Calls Try.prog 18 #[.int .i64 s, .slice a N cap] w (Refused w) := by
  have HS := Lib.hid hs
  clear hs
  go_enter Try.func18, Try.ntmps18
  go_wp2_with (go_at_call 9; refine (new_wrong _ s HS.out).mono ?_; rintro e w1 ⟨rfl, hw⟩; obtain rfl := hw)
  go_returns
  exact ⟨rfl, Below.refl _ _⟩
set_option maxRecDepth 100000 in
set_option maxHeartbeats 4000000 in
theorem play_wrong (w : World) (s : Int) (a : Option Addr) (os : List OpV) (N cap : Nat) (hs : 1 ≤ s ∧ s ≤ 4) (hN : os.length = N) (hl : N ≤ 60) (hx : OpsAt w a os) (hr : ¬ allRight s os) :
    Calls Try.prog 18 #[.int .i64 s, .slice a N cap] w (Refused w) := by
  have HX := Lib.hid hx
  have HN := Lib.hid hN
  have HR := Lib.hid hr
  have HS := Lib.hid hs
  clear hx hN hr hs
  go_enter Try.func18, Try.ntmps18
  go_wp2_with (go_at_call 9; refine (new_right _ s HS.out).mono ?_; rintro e w1 ⟨X, f, rfl, hm, hf, hb⟩; obtain ⟨cur, hcur, hmk⟩ := make_res w1 N (by omega); have P0 : Hid (Playing w (w1.alloc (.cells cur 37)) X f s os 0 (.slice (some ⟨w1.heap.size, 0, none⟩) 0 N)) := Lib.hid ⟨hm.below ((Below.refl _ _).alloc (Nat.le_refl _) _), World.ownsRow_made w1 cur N hb.size (by unfold maxLen; omega) hcur, fun b hb hf => (by have h1 := hm.lt b hf; have h2 : w1.heap.size = b := Option.some.inj hb; omega), hf, hb.alloc hb.size _, by simp⟩; clear hm hf hb hcur)
  clear hmk
  go_loopw [9, 27] (fun v i wr => ∃ (k : Nat) (f' : Nat → Prop), k ≤ N ∧ i = .int .i64 k ∧ Playing w wr X f' s os k v ∧ allRight s (os.take k)) (fun _ i _ => N - (intOf i).toNat)
  case atStart => exact ⟨0, f, Nat.zero_le _, rfl, P0.out, fun o ho => by simp at ho⟩
  case round =>
    clear P0
    obtain ⟨k, f', hk, rfl, hp, har⟩ := hrel
    have HP := Lib.hid hp
    have HAR := Lib.hid har
    clear hp har
    by_cases hlt : k < N
    · have hkl : k < os.length := by rw [HN.out]; exact hlt
      obtain ⟨b, rfl, c0, c1⟩ := (HX.out.later HP.out.below) k hkl
      have HNX := Lib.hid (fun h => allRight_succ hkl HAR.out h)
      have HG := Lib.hid (good_state s (os.take k) HAR.out)
      have hll : (stateL s (os.take k)).length ≤ 999 := by have := state_len s (os.take k); simp at this; omega
      have HLL := Lib.hid hll
      have HO := Lib.hid (List.getElem?_eq_getElem hkl)
      clear hll
      generalize os[k] = o at *
      obtain ⟨K, Y⟩ := o
      simp only at c0 c1
      cases hrk : rightB s K Y
      · have HRK := Lib.hid hrk
        clear hrk
        go_wp2_with (go_at_call 11; refine (do_not _ X f' s K Y (stateL s (os.take k)) (HP.out.mean.below ((Below.refl _ _).alloc (Nat.le_refl _) _)) HLL.out HG.out HRK.out).mono ?_; rintro e w2 ⟨g', rfl, hm, hw⟩; have M2 := Lib.hid hm; have W2 := Lib.hid hw; clear hm hw)
        go_returns
        exact ⟨rfl, (HP.out.mid ((Below.refl _ _).alloc (Nat.le_refl _) _) M2.out W2.out ((Below.refl _ _).alloc (Nat.le_refl _) _)).2.2.2.2.1⟩
      · have HRK := Lib.hid hrk
        clear hrk
        obtain ⟨i0, hi, hz0, hz1, hz2⟩ := info_parts Tryinfo_res
        have hml : k + 1 ≤ maxLen := by unfold maxLen; omega
        go_wp2_with (first
          | (at_builtin; go_loud (refine wpList_append_own_at _ rfl (.tmp 40) (.tmp 42) 47 rfl w.heap.size 37 i0 (.agg #[.int .i64 0, .bool false, .int .i64 0]) 3 24 Try.underlying47 hi hz0 hz1 hz2 rfl (by decide) _ k (resTo s os k) rfl (HP.out.mid ((Below.refl _ _).alloc (Nat.le_refl _) _) M2.out W2.out (((Below.refl _ _).alloc (Nat.le_refl _) _).alloc (by simp) _)).2.1 ⟨w2.heap.size + 1, 0, none⟩ 1 1 [.int .i64 0, .bool (okB (stateL s (os.take k)) K Y), .int .i64 (valI (stateL s (os.take k)) K)] rfl rfl (cell_new3 _ _ _ _ _ (by simp)) (one_res _ _ _) hml (by omega) (HP.out.mid ((Below.refl _ _).alloc (Nat.le_refl _) _) M2.out W2.out (((Below.refl _ _).alloc (Nat.le_refl _) _).alloc (by simp) _)).2.2.2.2.1.size ?_; intro v' w4 hown' hgrow hiff hat; have P4 := Lib.hid (HP.out.step ((Below.refl _ _).alloc (Nat.le_refl _) _) HO.out M2.out W2.out (((Below.refl _ _).alloc (Nat.le_refl _) _).alloc (by simp) _) hown' rfl hgrow hiff hat); clear hown' hgrow hiff hat))
          | (go_at_call 11; go_loud (refine (do_right _ X f' s K Y (stateL s (os.take k)) (HP.out.mean.below ((Below.refl _ _).alloc (Nat.le_refl _) _)) HLL.out HG.out HRK.out).mono ?_; rintro e w2 ⟨g', rfl, hm, hw⟩; have M2 := Lib.hid hm; have W2 := Lib.hid hw; clear hm hw)))
        go_roundw
        case rel => exact ⟨k + 1, g', by omega, by go_num, P4.out, HNX.out HRK.out⟩
        case measure => simp [intOf]; omega
    · obtain rfl : k = N := by omega
      have : os.take k = os := by rw [← HN.out, List.take_length]
      exact absurd (this ▸ HAR.out) HR.out
end Go.Proofs.Ytehjlmolnmiopaa.spec
