/- task.Of, walked. -/
import Derived.Test.YtipappihophijaaTkOf
import Derived.Lib.SmallJoins
namespace Go.Proofs.Ytipappihophijaa.task
open Go.RowKit

theorem owns_below {w w' : World} {base size n : Nat} {e : TypeId} {v : Value} {xs : List Value} (h : w.ownsRow base e size v n xs) (hb : Below w.heap.size w w') : w'.ownsRow base e size v n xs := by
  obtain ⟨hl, h | ⟨g, cap, cur, hv, h0, hg, h1, h2, h3, h4⟩⟩ := h
  · exact ⟨hl, .inl h⟩
  · exact ⟨hl, .inr ⟨g, cap, cur, hv, h0, (hb.block g (Array.getElem?_eq_some_iff.1 hg).1).trans hg, h1, h2, h3, h4⟩⟩
theorem new_block (w : World) (cs : Array Value) (T : TypeId) {g : Nat} (hg : w.heap.size = g) : (w.alloc (.cells cs T)).heap[g]? = some (.cells cs T (0, 0)) := by
  subst hg
  show (w.heap.push _)[w.heap.size]? = _
  simp
theorem cell_new3 (w : World) (x y z : Value) (T : TypeId) {g : Nat} (hg : w.heap.size = g) : ∀ j u, [x, y, z][j]? = some u → (w.alloc (.cells #[x, y, z] T)).cell? ((⟨g, 0, none⟩ : Addr).add j) = some u := by
  intro j u hu
  have h := (new_block w #[x, y, z] T hg)
  rw [Addr.add_lit, Joins.cell_of_block h]
  have hj : j < 3 := by
    have := (List.getElem?_eq_some_iff.1 hu).1
    simpa using this
  match j, hj, hu with
  | 0, _, hu => exact hu
  | 1, _, hu => exact hu
  | 2, _, hu => exact hu

theorem one_cells (s k y : Int) : ∀ u ∈ [Value.int .i64 s, .int .i64 k, .int .i64 y], u.oneCell' = true := by
  intro u hu
  simp at hu
  rcases hu with rfl | rfl | rfl <;> rfl

/-- What Of tells. -/
def OfTold (w : World) (s : Int) (os : List OpV) (e : Ending) (w' : World) : Prop :=
  Below w.heap.size w w' ∧ (if rightTo s os os.length = true then ∃ g c, e = .returned (.tuple #[.slice (some ⟨g, 0, none⟩) os.length c, .int .i64 0]) ∧ w'.ownsRow w.heap.size 25 3 (.slice (some ⟨g, 0, none⟩) os.length c) os.length (cellsTo s os os.length) else e = .returned (.tuple #[.slice none 0 0, .int .i64 1]))

set_option maxRecDepth 100000 in
set_option maxHeartbeats 2000000 in
theorem of_any (w : World) (s : Int) (a : Option Addr) (os : List OpV) (N cap : Nat) (hN : os.length = N) (hl : N ≤ 60) (hx : OpsAt w a os) :
    Calls Try.prog 12 #[.int .i64 s, .slice a N cap] w (OfTold w s os) := by
  have HX := Lib.hid hx
  have HN := Lib.hid hN
  clear hx hN
  obtain ⟨cur, hcur, hmk⟩ := make_tasks w N (by omega)
  have O0 := Lib.hid (World.ownsRow_made (e := 25) (size := 3) (base := w.heap.size) w cur N (Nat.le_refl _) (by unfold maxLen; omega) hcur)
  clear hcur
  go_enter Try.func12, Try.ntmps12
  go_wp2
  clear hmk
  go_loopw [6, 14] (fun v i wr => ∃ k : Nat, k ≤ N ∧ i = .int .i64 k ∧ wr.ownsRow w.heap.size 25 3 v k (cellsTo s os k) ∧ Below w.heap.size w wr ∧ rightTo s os k = true ∧ v ≠ .slice none 0 0) (fun _ i _ => N - (intOf i).toNat)
  case atStart => exact ⟨0, Nat.zero_le _, rfl, O0.out, (Below.refl _ _).alloc (Nat.le_refl _) _, rfl, by simp⟩
  case round =>
    clear O0
    obtain ⟨k, hk, rfl, hown, hb, hr, hv⟩ := hrel
    have HO := Lib.hid hown
    have HB := Lib.hid hb
    have HR := Lib.hid hr
    have HV := Lib.hid hv
    clear hown hb hr hv
    by_cases hlt : k < N
    · have hkl : k < os.length := by rw [HN.out]; exact hlt
      obtain ⟨b, rfl, c0, c1⟩ := HX.out.later HB.out k hkl
      have HS := Lib.hid (rightTo_succ s os k hkl)
      have HC := Lib.hid (cellsTo_succ s os k hkl)
      have HF := Lib.hid (fun h => rightTo_not (s := s) hkl h)
      generalize os[k] = o at *
      obtain ⟨K, Y⟩ := o
      cases hr : rightB s K Y
      · have HR2 := Lib.hid hr
        clear hr
        go_wp2_with (go_at_call 10; refine (right_any _ s K Y).mono ?_; rw [HR2.out]; rintro e w2 ⟨rfl, hb2⟩; have HB2 := Lib.hid hb2; clear hb2; have d0 : w2.cell? ⟨wr.heap.size, 0, none⟩ = some (.int .i64 K) := (HB2.out.cell (p := ⟨wr.heap.size, 0, none⟩) (by simp)).trans (by go_simp); have d1 : w2.cell? ⟨wr.heap.size, 1, none⟩ = some (.int .i64 Y) := (HB2.out.cell (p := ⟨wr.heap.size, 1, none⟩) (by simp)).trans (by go_simp); have g2 : w.heap.size ≤ w2.heap.size := (past (HB.out.alloc HB.out.size _) HB2.out).size)
        go_returns
        exact ⟨past (HB.out.alloc HB.out.size _) HB2.out, by rw [if_neg (by rw [HF.out HR2.out]; decide)]; rfl⟩
      · have HR2 := Lib.hid hr
        clear hr
        obtain ⟨i0, hi, hz0, hz1, hz2⟩ := info_parts Tryinfo_task
        have hml : k + 1 ≤ maxLen := by unfold maxLen; omega
        go_wp2_with (first
          | (go_at_call 10; refine (right_any _ s K Y).mono ?_; rw [HR2.out]; rintro e w2 ⟨rfl, hb2⟩; have HB2 := Lib.hid hb2; clear hb2; have d0 : w2.cell? ⟨wr.heap.size, 0, none⟩ = some (.int .i64 K) := (HB2.out.cell (p := ⟨wr.heap.size, 0, none⟩) (by simp)).trans (by go_simp); have d1 : w2.cell? ⟨wr.heap.size, 1, none⟩ = some (.int .i64 Y) := (HB2.out.cell (p := ⟨wr.heap.size, 1, none⟩) (by simp)).trans (by go_simp); have g2 : w.heap.size ≤ w2.heap.size := (past (HB.out.alloc HB.out.size _) HB2.out).size)
          | (at_builtin; go_loud (refine wpList_append_own _ rfl (.tmp 22) (.tmp 26) 36 rfl w.heap.size 25 i0 (.agg #[.int .i64 0, .int .i64 0, .int .i64 0]) 3 24 Try.underlying36 hi hz0 hz1 hz2 rfl (by decide) _ k (cellsTo s os k) rfl (owns_below (HO.out.alloc _) HB2.out |>.alloc _) ⟨w2.heap.size, 0, none⟩ 1 1 [.int .i64 s, .int .i64 K, .int .i64 Y] rfl rfl (cell_new3 _ _ _ _ _ rfl) (one_cells s K Y) hml (by omega) (by simp; omega) ?_; intro v' w3 hown' hgrow hiff; have HV3 : Hid (v' ≠ .slice none 0 0) := Lib.hid (fun h => HV.out (hiff.1 h).1); have HO3 := Lib.hid hown'; have HB3 := Lib.hid (Below.grown ((past (HB.out.alloc HB.out.size _) HB2.out).alloc (past (HB.out.alloc HB.out.size _) HB2.out).size _) hgrow (by simp; omega) (fun j hj => (HO.out.lt j hj).1)); clear hown' hgrow hiff)))
        go_roundw
        case rel => exact ⟨k + 1, by omega, by go_num, by rw [HC.out]; exact HO3.out, HB3.out, by rw [HS.out, HR.out, HR2.out]; rfl, HV3.out⟩
        case measure => simp [intOf]; omega
    · have hkN : k = N := by omega
      subst hkN
      go_wp2
      go_returns
      have hn := HN.out
      have hr := HR.out
      have ho := HO.out
      rw [← hn] at hr ho
      rcases ho.2 with ⟨h, _⟩ | ⟨g, c, _, h, _⟩
      · exact absurd h HV.out
      · subst h
        exact ⟨HB.out, by rw [if_pos hr]; exact ⟨g, c, by rw [hn]; rfl, by rw [hn]; rw [hn] at ho; exact ho⟩⟩
end Go.Proofs.Ytipappihophijaa.task
