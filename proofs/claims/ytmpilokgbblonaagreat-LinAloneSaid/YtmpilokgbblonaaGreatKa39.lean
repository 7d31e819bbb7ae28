/- A set's groups, collected and put in order: a row of them, each once. -/
import Derived.Test.YtmpilokgbblonaaGreatKa38
namespace Go.Proofs.YtmpilokgbblonaaGreat.lin
open Go.RowKit Go.Maps Go.Shelf
open hist (past new_block Went)

theorem collect_any (w : World) (Bm b : Nat) (T : DataW Unit) (G : List Nat) (hBm : Bm < w.heap.size) (hm : w.cell? ⟨Bm, 0, none⟩ = some (.map (some b))) (hG : SetM w b T G) (hl : G.length ≤ 100000000) :
    Calls Tryz.prog 98 #[.func (.func 100) #[] #[.pointer (some ⟨Bm, 0, none⟩)]] w fun e w' => ∃ (v : Value) (ss : List Nat), e = .returned v ∧ ss.Perm G ∧ w'.ownsRow w.heap.size 79 1 v ss.length (ss.map gv) ∧ Below w.heap.size w w' := by
  refine (callsIn_wide (n := 3)).1 ?_
  have cS := appendSeq_in (3 - 1) (by omega) 100 #[.pointer (some ⟨Bm, 0, none⟩)] (enters_of Tryz.func100 (by kernel_rfl) rfl) G hl w (keys_stops (3 - 1 - 1) (by omega) Bm b T G w hBm hm hG)
  have hf : Fence.wide.fn 102 := trivial
  refine callsIn_of_wp Tryz.func98 rfl trivial ?_ rfl
  simp only [Tryz.ntmps98, List.size_toArray, List.length_cons, List.length_nil, Nat.reduceAdd, Nat.reduceSub, Array.replicate_succ, Array.replicate_zero, List.push_toArray, List.append_toArray, List.nil_append, List.cons_append]
  gi_wp2_with (gi_at_call 102; refine cS.mono ?_; rintro e w' ⟨v, ss, rfl, hS, hrow, hb⟩)
  go_ret
  exact ⟨v, ss, rfl, hS, hrow, hb⟩
/-- What was collected, as rows. -/
theorem owned_rows {w : World} {lo : Nat} {v : Value} {ss : List Nat} (h : w.ownsRow lo 79 1 v ss.length (ss.map gv)) (hs : ∀ x ∈ ss, x < 4294967296) (hl : ss.length ≤ 1000000000) :
    (v = .slice none 0 0 ∧ ss = []) ∨ ∃ g c, v = .slice (some ⟨g, 0, none⟩) ss.length c ∧ lo ≤ g ∧ GRow w g ss.length ss ∧ URow w g 0 c ss := by
  rcases h.2 with ⟨e, h0⟩ | ⟨g, c, cur, rfl, hb, hg, r1, r2, r3, r4⟩
  · exact Or.inl ⟨e, List.eq_nil_of_length_eq_zero h0⟩
  · have hc : ∀ j, j < ss.length → cur[j]? = some (gv (ss.getD j 0)) := fun j hj => by
      have h1 : (cur.toList.take (ss.length * 1))[j]? = (ss.map gv)[j]? := by rw [r4]
      rw [List.getElem?_take, if_pos (by omega), List.getElem?_map, List.getElem?_eq_getElem hj] at h1
      rw [← Array.getElem?_toList, h1, List.getD_eq_getElem?_getD, List.getElem?_eq_getElem hj]
      rfl
    refine Or.inr ⟨g, c, rfl, hb, ⟨rfl, hl, hs, cur, hg, hc⟩, ⟨r1, r2, cur, hg, by omega, fun j hj => by rw [Nat.zero_add]; exact hc j hj⟩⟩
/-- What was put in order is still such a row. -/
theorem sorted_row {w : World} {g n : Nat} {ys : List Nat} (hy : GRow w g n ys) : URow w g 0 ys.length ys := by
  have hl := hy.len
  have hb := hy.big
  obtain ⟨cur, h1, h2⟩ := hy.blk
  refine ⟨Nat.le_refl _, by unfold maxLen; omega, cur, h1, ?_, fun j hj => by rw [Nat.zero_add]; exact h2 j (by omega)⟩
  by_cases h0 : n = 0
  · omega
  · have := (Array.getElem?_eq_some_iff.1 (h2 (n - 1) (by omega))).1
    omega
/-- A row of a set's groups, new, each once. -/
def SortedQ (w : World) (G : List Nat) (e : Ending) (w' : World) : Prop := ∃ A l c, e = .returned (.slice A l.length c) ∧ l.Perm G ∧ URw w' A c l ∧ (∀ a, A = some a → w.heap.size ≤ a.block) ∧ Below w.heap.size w w'
set_option maxRecDepth 100000 in
set_option maxHeartbeats 4000000 in
theorem sorted_any {m : Nat} (hS : SortsOK m) (w : World) (Bm b : Nat) (T : DataW Unit) (G : List Nat) (hBm : Bm < w.heap.size) (hm : w.cell? ⟨Bm, 0, none⟩ = some (.map (some b))) (hG : SetM w b T G) (hl : G.length ≤ 100000000) (hlm : G.length ≤ m) :
    Calls Tryz.prog 92 #[.func (.func 100) #[] #[.pointer (some ⟨Bm, 0, none⟩)]] w (SortedQ w G) := by
  have HC := Lib.hid (collect_any w Bm b T G hBm hm hG hl)
  have HS := Lib.hid hS
  have HSM := Lib.hid hG.small
  have HL := Lib.hid (And.intro hl hlm)
  clear hS hBm hm hG hl hlm
  go_enter Tryz.func92, Tryz.ntmps92
  go_upto_region 2 with (go_at_call 98; go_loud (refine HC.out.mono ?_; rintro e w1 ⟨v, ss, rfl, hp, hrow, hb⟩; have P1 := Lib.hid hp; have R1 := Lib.hid hrow; have B1 := Lib.hid hb; clear hp hrow hb))
  rcases owned_rows R1.out (fun x hx => HSM.out x (P1.out.mem_iff.1 hx)) (by rw [P1.out.length_eq]; have := HL.out; omega) with ⟨rfl, h0⟩ | ⟨g, c, rfl, hlo, hg, hu⟩
  · have H0 := Lib.hid h0
    clear h0
    go_wp2_with (go_at_call 99; go_loud (refine (sort_nil _).mono ?_; rintro e w2 ⟨rfl, hw⟩; subst hw))
    go_returns
    refine ⟨none, [], 0, rfl, ?_, Or.inl ⟨rfl, rfl, rfl⟩, (fun a ha => by cases ha), B1.out⟩
    have := P1.out
    rw [H0.out] at this
    exact this
  · have HLO := Lib.hid hlo
    have HG2 := Lib.hid hg
    obtain ⟨n, hn⟩ : ∃ n, n = ss.length := ⟨_, rfl⟩
    have HN := Lib.hid hn
    rw [← hn]
    clear hlo hg hu hn
    go_wp2_with (go_at_call 99; go_loud (refine (HS.out w1 g n c ss (by rw [HN.out]; exact HG2.out) (by rw [HN.out, P1.out.length_eq]; exact HL.out.2)).mono ?_; rintro e w2 ⟨rfl, ys, hp2, hg2, hw2⟩; have P2 := Lib.hid hp2; have G2 := Lib.hid hg2; have W2 := Lib.hid hw2; clear hp2 hg2 hw2))
    go_returns
    exact ⟨some ⟨g, 0, none⟩, ys, c, by rw [G2.out.len]; rfl, P2.out.trans P1.out, Or.inr ⟨g, 0, rfl, sorted_row G2.out⟩, fun a ha => by cases ha; exact HLO.out, W2.out.below B1.out B1.out.size (fun b hb => by rw [show b = g from hb]; exact HLO.out)⟩
end Go.Proofs.YtmpilokgbblonaaGreat.lin
