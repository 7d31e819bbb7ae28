/- A list without those that slots told, made in place. -/
import Derived.Test.YtnphnhafifaaoaaG1
namespace Go.Proofs.Ytnphnhafifaaoaa.life
open Go.RowKit mem

theorem intCells_set (R : List Int) (i : Nat) (x : Int) : (intCells R).setIfInBounds i (.int .i64 x) = intCells (R.set i x) := by
  unfold intCells
  simp [List.map_set]
theorem IntRow.put {w : World} {g : Nat} {R : List Int} (h : IntRow w g R) {i : Nat} (hi : i < R.length) (x : Int) : IntRow (w.setCell ⟨g, i, none⟩ (.int .i64 x)) g (R.set i x) := by
  obtain ⟨ex, hb⟩ := h
  refine ⟨ex, ?_⟩
  have h1 := Joins.block_setCell (i := i) hb (.int .i64 x)
  rwa [Array.setIfInBounds_append_left (by simpa [intCells] using hi), intCells_set] at h1
theorem IntRow.free {w : World} {g : Nat} {R : List Int} (h : IntRow w g R) (i : Nat) : w.frozen? ⟨g, i, none⟩ = false := by
  obtain ⟨ex, hb⟩ := h
  exact Joins.unfrozen_of_block hb i
/-- The first cells of a row are a row. -/
theorem IntRow.first {w : World} {g : Nat} {R : List Int} (h : IntRow w g R) (i : Nat) : IntRow w g (R.take i) := by
  obtain ⟨ex, hb⟩ := h
  refine ⟨intCells (R.drop i) ++ ex, ?_⟩
  rw [hb]
  congr 2
  rw [← Array.append_assoc]
  congr 1
  unfold intCells
  apply Array.ext'
  simp only [Array.toList_append]
  rw [← List.map_append, List.take_append_drop]
/-- Some cells of a row are written: those ahead of them stay. -/
theorem IntRow.tail {g : Nat} {R : List Int} : ∀ (vs : List Value) (o : Nat) (w : World), IntRow w g R → R.length ≤ o → IntRow (w.setCells g o vs) g R
  | [], _, _, h, _ => h
  | v :: vs, o, w, h, ho => by
    have h1 : IntRow (w.setCell ⟨g, o, none⟩ v) g R := by
      obtain ⟨ex, hb⟩ := h
      refine ⟨ex.setIfInBounds (o - R.length) v, ?_⟩
      have h1 := Joins.block_setCell (i := o) hb v
      rw [Array.setIfInBounds_append_right (by simpa [intCells] using ho)] at h1
      simpa [intCells] using h1
    exact IntRow.tail vs (o + 1) _ h1 (by omega)
theorem Apart_cells (g : Nat) : ∀ (vs : List Value) (o : Nat) (w w' : World), Apart g g w w' → Apart g g w (w'.setCells g o vs)
  | [], _, _, _, h => h
  | v :: vs, o, w, _, h => Apart_cells g vs (o + 1) w _ (h.putX o v)

end Go.Proofs.Ytnphnhafifaaoaa.life
namespace Go.Proofs.Ytnphnhafifaaoaa.guard
open Go.RowKit mem life

/-- What the row is like on the way: j were looked at, those that stay lie ahead. -/
structure Cut (ws L R : List Int) (j i : Nat) : Prop where
  size : R.length = L.length
  lt : i < j
  le : j ≤ L.length
  low : R.take i = untold ws (L.take j)
  len : (untold ws (L.take j)).length = i
  high : R.drop j = L.drop j
theorem untold_all {ws L : List Int} (h : ∀ x ∈ L, x ∉ ws) : untold ws L = L := by
  unfold untold
  rw [List.filter_eq_self]
  intro x hx
  exact decide_eq_true (h x hx)
theorem untold_more (ws L : List Int) (j : Nat) (hj : j < L.length) : untold ws (L.take (j + 1)) = untold ws (L.take j) ++ (if L.getD j 0 ∈ ws then [] else [L.getD j 0]) := by
  have e : L.getD j 0 = L[j] := by rw [List.getD_eq_getElem?_getD, List.getElem?_eq_getElem hj]; rfl
  unfold untold
  rw [List.take_succ_eq_append_getElem hj, List.filter_append, e]
  congr 1
  by_cases h : L[j] ∈ ws
  · simp [h]
  · simp [h]
theorem Cut.start {ws L : List Int} {k : Nat} (hk : k < L.length) (hm : L.getD k 0 ∈ ws) (h : ∀ x ∈ L.take k, x ∉ ws) : Cut ws L L (k + 1) k := by
  have e : untold ws (L.take (k + 1)) = L.take k := by
    rw [untold_more _ _ _ hk, if_pos hm, List.append_nil, untold_all h]
  exact ⟨rfl, by omega, by omega, e.symm, by rw [e]; simp; omega, rfl⟩
theorem Cut.skip {ws L R : List Int} {j i : Nat} (h : Cut ws L R j i) (hj : j < L.length) (hm : L.getD j 0 ∈ ws) : Cut ws L R (j + 1) i := by
  have e : untold ws (L.take (j + 1)) = untold ws (L.take j) := by rw [untold_more _ _ _ hj, if_pos hm, List.append_nil]
  refine ⟨h.size, by have := h.lt; omega, by omega, by rw [e]; exact h.low, by rw [e]; exact h.len, ?_⟩
  have := h.high
  rw [← List.drop_drop, this, List.drop_drop]
theorem Cut.keep {ws L R : List Int} {j i : Nat} (h : Cut ws L R j i) (hj : j < L.length) (hm : L.getD j 0 ∉ ws) : Cut ws L (R.set i (L.getD j 0)) (j + 1) (i + 1) := by
  have hlt := h.lt
  have hs := h.size
  have e : untold ws (L.take (j + 1)) = untold ws (L.take j) ++ [L.getD j 0] := by rw [untold_more _ _ _ hj, if_neg hm]
  refine ⟨by simpa using hs, by omega, by omega, ?_, by rw [e, List.length_append, h.len]; rfl, ?_⟩
  · rw [e, ← h.low, List.take_succ_eq_append_getElem (by simp; omega)]
    congr 1
    · rw [List.take_set_of_le (Nat.le_refl _)]
    · simp
  · rw [List.drop_set_of_lt (by omega), ← List.drop_drop, h.high, List.drop_drop]
theorem Cut.at {ws L R : List Int} {j i : Nat} (h : Cut ws L R j i) : R.getD j 0 = L.getD j 0 := by
  have := congrArg (fun l => l.getD 0 0) h.high
  simp only [List.getD_eq_getElem?_getD, List.getElem?_drop, Nat.add_zero] at this ⊢
  exact this

/-- What is left, in the very row. -/
def Left (w : World) (g : Nat) (U : List Int) (cap : Nat) (e : Ending) (w' : World) : Prop := e = .returned (.slice (some ⟨g, 0, none⟩) U.length cap) ∧ IntRow w' g U ∧ Apart g g w w'

theorem first_of (ws : List Int) : ∀ (L : List Int), (¬ ∀ x ∈ L, x ∉ ws) → ∃ k : Nat, k < L.length ∧ L.getD k 0 ∈ ws ∧ ∀ x ∈ L.take k, x ∉ ws
  | [], h => absurd (fun x hx => absurd hx (by simp)) h
  | y :: L, h => by
    by_cases hy : y ∈ ws
    · exact ⟨0, by simp, by simpa using hy, by simp⟩
    · obtain ⟨k, h1, h2, h3⟩ := first_of ws L (fun hL => h (fun x hx => by
        rcases List.mem_cons.1 hx with rfl | hx
        · exact hy
        · exact hL x hx))
      refine ⟨k + 1, by simpa using h1, by simpa using h2, fun x hx => ?_⟩
      rw [List.take_succ_cons] at hx
      rcases List.mem_cons.1 hx with rfl | hx
      · exact hy
      · exact h3 x hx
theorem first_low {ws L : List Int} {k j : Nat} (hk : k < L.length) (hm : L.getD k 0 ∈ ws) (h : ∀ x ∈ L.take j, x ∉ ws) : j ≤ k := by
  apply Nat.le_of_not_lt
  intro hlt
  refine h (L.getD k 0) ?_ hm
  rw [List.getD_eq_getElem?_getD, List.getElem?_eq_getElem hk]
  exact List.mem_take_iff_getElem.2 ⟨k, by omega, rfl⟩
theorem index_none (w : World) (C r g N cap : Nat) (ws L : List Int) (h : Asks w C r ws) (hrow : IntRow w g L) (hN : L.length = N) (hl : N ≤ 1000) (hL : ∀ x ∈ L, 0 ≤ x ∧ x ≤ 1000) (hall : ∀ x ∈ L, x ∉ ws) :
    Calls Try.prog 58 #[.slice (some ⟨g, 0, none⟩) N cap, .func (.func 53) #[.pointer (some ⟨C, 0, none⟩)] #[]] w fun e w' => e = .returned (.int .i64 (-1)) ∧ w = w' := by
  refine (index_any w C r g N cap ws L h hrow hN hl hL).mono ?_
  rintro e w' ⟨rfl, ⟨rfl, _⟩ | ⟨k, hk, rfl, hin, _⟩⟩
  · exact ⟨rfl, rfl⟩
  · refine absurd hin (hall _ ?_)
    rw [List.getD_eq_getElem?_getD, List.getElem?_eq_getElem (by omega)]
    exact List.getElem_mem _
theorem index_at (w : World) (C r g N cap : Nat) (ws L : List Int) (h : Asks w C r ws) (hrow : IntRow w g L) (hN : L.length = N) (hl : N ≤ 1000) (hL : ∀ x ∈ L, 0 ≤ x ∧ x ≤ 1000) (k : Nat) (hk : k < N) (hin : L.getD k 0 ∈ ws) (hno : ∀ x ∈ L.take k, x ∉ ws) :
    Calls Try.prog 58 #[.slice (some ⟨g, 0, none⟩) N cap, .func (.func 53) #[.pointer (some ⟨C, 0, none⟩)] #[]] w fun e w' => e = .returned (.int .i64 k) ∧ w = w' := by
  refine (index_any w C r g N cap ws L h hrow hN hl hL).mono ?_
  rintro e w' ⟨rfl, ⟨rfl, hall⟩ | ⟨j, hj, rfl, hjn, hjo⟩⟩
  · refine absurd hin (hall _ ?_)
    rw [List.getD_eq_getElem?_getD, List.getElem?_eq_getElem (by omega)]
    exact List.getElem_mem _
  · have h1 := first_low (by omega) hin hjo
    have h2 := first_low (by omega) hjn hno
    obtain rfl : j = k := by omega
    exact ⟨rfl, rfl⟩
set_option maxHeartbeats 2000000 in
theorem delete_same (w : World) (C r g N cap : Nat) (ws L : List Int) (h : Asks w C r ws) (hrow : IntRow w g L) (hN : L.length = N) (hl : N ≤ 1000) (hL : ∀ x ∈ L, 0 ≤ x ∧ x ≤ 1000) (hall : ∀ x ∈ L, x ∉ ws) :
    Calls Try.prog 52 #[.slice (some ⟨g, 0, none⟩) N cap, .func (.func 53) #[.pointer (some ⟨C, 0, none⟩)] #[]] w (Left w g (untold ws L) cap) := by
  have HI := Lib.hid (index_none w C r g N cap ws L h hrow hN hl hL hall)
  have HR := Lib.hid hrow
  have HN := Lib.hid hN
  have H1 := Lib.hid hall
  clear h hrow hN hL hall
  go_enter Try.func52, Try.ntmps52
  go_wp2_with (go_at_call 58; refine HI.out.mono ?_; rintro e w1 ⟨rfl, rfl⟩)
  go_returns
  refine ⟨?_, ?_, Apart.refl _⟩
  · rw [untold_all H1.out, HN.out]; rfl
  · rw [untold_all H1.out]
    exact HR.out
set_option maxHeartbeats 2000000 in
theorem delete_some (w : World) (C r g N cap : Nat) (ws L : List Int) (h : Asks w C r ws) (hrow : IntRow w g L) (hN : L.length = N) (hl : N ≤ 1000) (hL : ∀ x ∈ L, 0 ≤ x ∧ x ≤ 1000) (hcap : N ≤ cap) (hcm : cap ≤ maxLen) (hCg : C ≠ g) (hrg : r ≠ g)
    (k : Nat) (hk : k < N) (hin : L.getD k 0 ∈ ws) (hno : ∀ x ∈ L.take k, x ∉ ws) :
    Calls Try.prog 52 #[.slice (some ⟨g, 0, none⟩) N cap, .func (.func 53) #[.pointer (some ⟨C, 0, none⟩)] #[]] w (Left w g (untold ws L) cap) := by
  have HI := Lib.hid (index_at w C r g N cap ws L h hrow hN hl hL k hk hin hno)
  have HC : Hid (Cut ws L L (k + 1) k) := Lib.hid (Cut.start (by omega) hin hno)
  have HA := Lib.hid h
  have HR := Lib.hid hrow
  have HN := Lib.hid hN
  have HL := Lib.hid hL
  clear h hrow hN hL hin hno
  have hv23 := zero_int
  have hm : cap ≤ 9223372036854775807 := by unfold maxLen at hcm; omega
  go_enter Try.func52, Try.ntmps52
  have hne1 : ((k : Int) == -1) = false := beq_eq_false_iff_ne.2 (by omega)
  go_wp2_with (go_at_call 58; refine HI.out.mono ?_; rintro e w1 ⟨rfl, rfl⟩)
  go_loopw [5, 6, 7] (fun s5 s6 _ wr => ∃ (i j : Nat) (R : List Int), s5 = .int .i64 i ∧ s6 = .int .i64 j ∧ j ≤ N ∧ i < j ∧ Cut ws L R j i ∧ IntRow wr g R ∧ Apart g g w wr) (fun _ s6 _ _ => N - (intOf s6).toNat)
  case atStart => exact ⟨k, k + 1, L, rfl, by go_num, by omega, by omega, HC.out, HR.out, Apart.refl _⟩
  case round =>
    clear HC hne1
    obtain ⟨i, j, R, rfl, rfl, hjN, hij, hcut, hrow, hap⟩ := hrel
    have HC := Lib.hid hcut
    have HW := Lib.hid hrow
    have HP := Lib.hid hap
    clear hcut hrow hap
    have hsz : R.length = N := by rw [HC.out.size, HN.out]
    have HS := Lib.hid hsz
    by_cases hlt : j < N
    · have hc := HW.out.cell (i := j) (by rw [hsz]; exact hlt)
      have hd := HW.out.cell (i := i) (by rw [hsz]; omega)
      have hf := HW.out.free i
      clear hsz
      rw [HC.out.at] at hc
      obtain ⟨y, hy⟩ : ∃ y, y = L.getD j 0 := ⟨_, rfl⟩
      have hyb : 0 ≤ y ∧ y ≤ 1000 := by rw [hy]; apply HL.out; rw [List.getD_eq_getElem?_getD, List.getElem?_eq_getElem (by rw [HN.out]; exact hlt)]; exact List.getElem_mem _
      rw [← hy] at hc
      have HY := Lib.hid hy
      clear hy
      obtain ⟨y0, y1⟩ := hyb
      have HAr : Hid (Asks wr C r ws) := Lib.hid (HA.out.apart HP.out hCg hrg)
      by_cases he : y ∈ ws
      · have hq : decide (y ∈ ws) = true := decide_eq_true he
        have HE := Lib.hid he
        clear he
        go_wp2_with (go_at_call 53; refine (wasTold_any _ C r ws y HAr.out y0 y1).mono ?_; rintro e w1 ⟨rfl, rfl⟩; rw [hq])
        go_roundw
        case rel => exact ⟨i, j + 1, R, rfl, by go_num, by omega, by omega, HC.out.skip (by rw [HN.out]; exact hlt) (by rw [← HY.out]; exact HE.out), HW.out, HP.out⟩
        case measure => simp [intOf]; omega
      · have hq : decide (y ∈ ws) = false := decide_eq_false he
        have HE := Lib.hid he
        clear he
        go_wp2_with (go_at_call 53; refine (wasTold_any _ C r ws y HAr.out y0 y1).mono ?_; rintro e w1 ⟨rfl, rfl⟩; rw [hq])
        go_roundw
        case rel =>
          refine ⟨i + 1, j + 1, R.set i y, by go_num, by go_num, by omega, by omega, ?_, HW.out.put (by rw [HS.out]; omega) y, HP.out.putX i _⟩
          have := HC.out.keep (by rw [HN.out]; exact hlt) (by rw [← HY.out]; exact HE.out)
          rwa [← HY.out] at this
        case measure => simp [intOf]; omega
    · obtain rfl : j = N := by omega
      have hpos : 0 < j - i := by omega
      have hcl : ∀ ty, (Builtin.clear_ #[35] ty #[.slice (some ⟨g, i, none⟩) (j - i) (cap - i)]).run Try.prog wr = .ok (.tuple #[]) (wr.setCells g i (List.replicate (j - i) (.int .i64 0))) :=
        fun ty => Lib.run_clear_slice wr 35 3 ty (.int .i64 0) Try.underlying35 hv23 rfl rfl g i _ _ hpos (fun t ht => by rw [HW.out.cell (i := i + t) (by rw [HS.out]; omega)]; rfl) (fun t ht => HW.out.free (i + t))
      clear hsz
      have hlen : i ≤ cap := by omega
      go_wp2
      go_returns
      have hall : L.take j = L := List.take_of_length_le (by rw [HN.out]; exact Nat.le_refl _)
      have e1 : untold ws L = R.take i := by rw [HC.out.low, hall]
      have e2 : (untold ws L).length = i := by have := HC.out.len; rwa [hall] at this
      refine ⟨by rw [e2]; rfl, ?_, Apart_cells g _ _ _ _ HP.out⟩
      rw [e1]
      exact (HW.out.first i).tail _ _ _ (by simp; omega)
theorem delete_any (w : World) (C r g N cap : Nat) (ws L : List Int) (h : Asks w C r ws) (hrow : IntRow w g L) (hN : L.length = N) (hl : N ≤ 1000) (hL : ∀ x ∈ L, 0 ≤ x ∧ x ≤ 1000) (hcap : N ≤ cap) (hcm : cap ≤ maxLen) (hCg : C ≠ g) (hrg : r ≠ g) :
    Calls Try.prog 52 #[.slice (some ⟨g, 0, none⟩) N cap, .func (.func 53) #[.pointer (some ⟨C, 0, none⟩)] #[]] w (Left w g (untold ws L) cap) := by
  by_cases hall : ∀ x ∈ L, x ∉ ws
  · exact delete_same w C r g N cap ws L h hrow hN hl hL hall
  · obtain ⟨k, h1, h2, h3⟩ := first_of ws L hall
    exact delete_some w C r g N cap ws L h hrow hN hl hL hcap hcm hCg hrg k (by omega) h2 h3
set_option maxHeartbeats 400000 in
theorem delete_none (w : World) (f : Value) : Calls Try.prog 52 #[.slice none 0 0, f] w fun e w' => e = .returned (.slice none 0 0) ∧ w = w' := by
  go_enter Try.func52, Try.ntmps52
  go_wp2
  go_loopw [8] (fun i wr => i = .int .i64 0 ∧ wr = w) (fun _ _ => 0)
  case atStart => exact ⟨rfl, rfl⟩
  case round =>
    obtain ⟨rfl, rfl⟩ := hrel
    go_wp2
    go_returns
    exact ⟨rfl, rfl⟩
end Go.Proofs.Ytnphnhafifaaoaa.guard
