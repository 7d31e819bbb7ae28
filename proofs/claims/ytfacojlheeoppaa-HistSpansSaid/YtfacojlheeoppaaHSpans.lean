/- The law HistSpans answers true at any three spans. -/
import Derived.Test.YtfacojlheeoppaaHAwake
import Derived.Test.YtfacojlheeoppaaQuiet
import Derived.Deep.DeepCutAuto
namespace Go.Proofs.Ytfacojlheeoppaa.hist
open Go.RowKit

/-- A span in a block of its own. -/
structure Blk2 (w : World) (B : Nat) (s : Int × Int) : Prop where
  box : w.heap[B]? = some (.cells #[.int .i64 s.1, .int .i64 s.2] 49 (0, 0))
section
variable {w w' : World} {B : Nat} {s : Int × Int}
theorem Blk2.lt (h : Blk2 w B s) : B < w.heap.size := (Array.getElem?_eq_some_iff.1 h.box).1
theorem Blk2.below (h : Blk2 w B s) (hb : Below w.heap.size w w') : Blk2 w' B s := ⟨(hb.block B h.lt).trans h.box⟩
theorem Blk2.cells (h : Blk2 w B s) : w.cell? ⟨B, 0, none⟩ = some (.int .i64 s.1) ∧ w.cell? ⟨B, 1, none⟩ = some (.int .i64 s.2) := by
  have hb := h.box
  refine ⟨?_, ?_⟩ <;> (rw [Joins.cell_of_block hb]; rfl)
end
/-- One of three. -/
def pick3 (x y z : Int × Int) : Nat → Int × Int
  | 0 => x
  | 1 => y
  | _ => z
/-- Three spans in a row. -/
structure Row3 (w : World) (g : Nat) (x y z : Int × Int) : Prop where
  box : w.heap[g]? = some (.cells #[.int .i64 x.1, .int .i64 x.2, .int .i64 y.1, .int .i64 y.2, .int .i64 z.1, .int .i64 z.2] 49 (0, 0))
section
variable {w w' : World} {g : Nat} {x y z : Int × Int}
theorem Row3.lt (h : Row3 w g x y z) : g < w.heap.size := (Array.getElem?_eq_some_iff.1 h.box).1
theorem Row3.below (h : Row3 w g x y z) (hb : Below w.heap.size w w') : Row3 w' g x y z := ⟨(hb.block g h.lt).trans h.box⟩
theorem Row3.at (h : Row3 w g x y z) (i : Nat) (hi : i < 3) : w.cell? ⟨g, i * 2, none⟩ = some (.int .i64 (pick3 x y z i).1) ∧ w.cell? ⟨g, i * 2 + 1, none⟩ = some (.int .i64 (pick3 x y z i).2) := by
  have hb := h.box
  match i, hi with
  | 0, _ => refine ⟨?_, ?_⟩ <;> (rw [Joins.cell_of_block hb]; rfl)
  | 1, _ => refine ⟨?_, ?_⟩ <;> (rw [Joins.cell_of_block hb]; rfl)
  | 2, _ => refine ⟨?_, ?_⟩ <;> (rw [Joins.cell_of_block hb]; rfl)
end
/-- A span that begins at no number below 0, and ends behind its beginning, or not at all. -/
def goodS (s : Int × Int) : Prop := ¬ (s.1 < 0) ∧ ¬ (0 ≤ s.2 ∧ s.2 ≤ s.1)
theorem bef_self {s : Int × Int} (h : goodS s) : befB s.2 s.1 = false := decide_eq_false (by have := h.2; omega)
theorem bef_none {D B : Int} (h : D < 0) : befB D B = false := decide_eq_false (by omega)
theorem bef_yes {D B : Int} (h : befB D B = true) : 0 ≤ D ∧ D < B := of_decide_eq_true h
theorem bef_both {x y : Int × Int} (hx : goodS x) (hy : goodS y) (h : befB x.2 y.1 = true) : befB y.2 x.1 = false := by
  refine decide_eq_false fun h' => ?_
  have := bef_yes h
  have := hx.2
  have := hy.2
  omega
theorem bef_four {x y u v : Int × Int} (h1 : befB x.2 y.1 = true) (h2 : befB u.2 v.1 = true) (h3 : befB x.2 v.1 = false) : befB u.2 y.1 = true := by
  have k1 := bef_yes h1
  have k2 := bef_yes h2
  have k3 := of_decide_eq_false h3
  exact decide_eq_true (by omega)
theorem good_pick {x y z : Int × Int} (h : ∀ j, j < 3 → goodS (pick3 x y z j)) : ∀ i, goodS (pick3 x y z i)
  | 0 => h 0 (by omega)
  | 1 => h 1 (by omega)
  | _ + 2 => h 2 (by omega)
theorem good_more {x y z : Int × Int} {k : Nat} (h : ∀ j, j < k → goodS (pick3 x y z j)) (hk : goodS (pick3 x y z k)) : ∀ j, j < k + 1 → goodS (pick3 x y z j) := fun j hj => by
  by_cases hjk : j = k
  · subst hjk; exact hk
  · exact h j (by omega)
theorem three_cells (w w1 : World) (x y z : Int × Int) (T : TypeId) (hb : Below (((w.alloc (.cells #[.int .i64 x.1, .int .i64 x.2] T)).alloc (.cells #[.int .i64 y.1, .int .i64 y.2] T)).alloc (.cells #[.int .i64 z.1, .int .i64 z.2] T)).heap.size (((w.alloc (.cells #[.int .i64 x.1, .int .i64 x.2] T)).alloc (.cells #[.int .i64 y.1, .int .i64 y.2] T)).alloc (.cells #[.int .i64 z.1, .int .i64 z.2] T)) w1) :
    Below w.heap.size w w1 ∧ (w1.cell? ⟨w.heap.size, 0, none⟩ = some (.int .i64 x.1) ∧ w1.cell? ⟨w.heap.size, 1, none⟩ = some (.int .i64 x.2)) ∧ (w1.cell? ⟨w.heap.size + 1, 0, none⟩ = some (.int .i64 y.1) ∧ w1.cell? ⟨w.heap.size + 1, 1, none⟩ = some (.int .i64 y.2)) ∧ (w1.cell? ⟨w.heap.size + 1 + 1, 0, none⟩ = some (.int .i64 z.1) ∧ w1.cell? ⟨w.heap.size + 1 + 1, 1, none⟩ = some (.int .i64 z.2)) := by
  have b1 := new_block w #[.int .i64 x.1, .int .i64 x.2] T
  have b2 := new_block (w.alloc (.cells #[.int .i64 x.1, .int .i64 x.2] T)) #[.int .i64 y.1, .int .i64 y.2] T
  have b3 := new_block ((w.alloc (.cells #[.int .i64 x.1, .int .i64 x.2] T)).alloc (.cells #[.int .i64 y.1, .int .i64 y.2] T)) #[.int .i64 z.1, .int .i64 z.2] T
  obtain ⟨wa, hwa⟩ : ∃ wa, wa = w.alloc (.cells #[.int .i64 x.1, .int .i64 x.2] T) := ⟨_, rfl⟩
  have sa : wa.heap.size = w.heap.size + 1 := by rw [hwa]; simp
  have ba : Below w.heap.size w wa := by rw [hwa]; exact (Below.refl _ _).alloc (Nat.le_refl _) _
  rw [← hwa] at b1 b2 b3 hb
  obtain ⟨wb, hwb⟩ : ∃ wb, wb = wa.alloc (.cells #[.int .i64 y.1, .int .i64 y.2] T) := ⟨_, rfl⟩
  have sb : wb.heap.size = w.heap.size + 1 + 1 := by rw [hwb, ← sa]; simp
  have bb : Below wa.heap.size wa wb := by rw [hwb]; exact (Below.refl _ _).alloc (Nat.le_refl _) _
  rw [← hwb] at b2 b3 hb
  obtain ⟨wc, hwc⟩ : ∃ wc, wc = wb.alloc (.cells #[.int .i64 z.1, .int .i64 z.2] T) := ⟨_, rfl⟩
  have sc : wc.heap.size = w.heap.size + 1 + 1 + 1 := by rw [hwc, ← sb]; simp
  have bc : Below wb.heap.size wb wc := by rw [hwc]; exact (Below.refl _ _).alloc (Nat.le_refl _) _
  rw [← hwc] at b3 hb
  rw [sa] at b2
  rw [sb] at b3
  have e1 : w1.heap[w.heap.size]? = _ := ((hb.block _ (by omega)).trans ((bc.block _ (by omega)).trans (bb.block _ (by omega)))).trans b1
  have e2 : w1.heap[w.heap.size + 1]? = _ := ((hb.block _ (by omega)).trans (bc.block _ (by omega))).trans b2
  have e3 : w1.heap[w.heap.size + 1 + 1]? = _ := (hb.block _ (by omega)).trans b3
  refine ⟨past ba (past bb (past bc hb)), ⟨?_, ?_⟩, ⟨?_, ?_⟩, ⟨?_, ?_⟩⟩
  · rw [Joins.cell_of_block e1]; rfl
  · rw [Joins.cell_of_block e1]; rfl
  · rw [Joins.cell_of_block e2]; rfl
  · rw [Joins.cell_of_block e2]; rfl
  · rw [Joins.cell_of_block e3]; rfl
  · rw [Joins.cell_of_block e3]; rfl

/-- What the region that looks at one span holds on to. -/
structure Spn (W wx : World) (g P : Nat) (x y z s : Int × Int) : Prop where
  row : Row3 wx g x y z
  blk : Blk2 wx P s
  below : Below W.heap.size W wx
theorem Spn.next {W w w' : World} {g P : Nat} {x y z s : Int × Int} (h : Spn W w g P x y z s) (hb : Below w.heap.size w w') : Spn W w' g P x y z s := ⟨h.row.below hb, h.blk.below hb, past h.below hb⟩
theorem Spn.drew {W w : World} {g P : Nat} {x y z s : Int × Int} (h : Spn W w g P x y z s) : Spn W w.drew g P x y z s := h.next (drew_below w)
theorem Spn.cells {W w : World} {g P : Nat} {x y z s : Int × Int} (h : Spn W w g P x y z s) : w.cell? ⟨P, 0, none⟩ = some (.int .i64 s.1) ∧ w.cell? ⟨P, 1, none⟩ = some (.int .i64 s.2) ∧ w.cell? ⟨g, 0, none⟩ = some (.int .i64 x.1) ∧ w.cell? ⟨g, 1, none⟩ = some (.int .i64 x.2) ∧ w.cell? ⟨g, 2, none⟩ = some (.int .i64 y.1) ∧ w.cell? ⟨g, 3, none⟩ = some (.int .i64 y.2) :=
  ⟨h.blk.cells.1, h.blk.cells.2, (h.row.at 0 (by omega)).1, (h.row.at 0 (by omega)).2, (h.row.at 1 (by omega)).1, (h.row.at 1 (by omega)).2⟩

/-- Three spans in a row, and spans in blocks of their own, behind world W. -/
structure Blks (W w : World) (g : Nat) (x y z : Int × Int) (bs : List (Nat × (Int × Int))) : Prop where
  row : Row3 w g x y z
  all : ∀ p ∈ bs, Blk2 w p.1 p.2
  below : Below W.heap.size W w
section
variable {W w w' : World} {g : Nat} {x y z : Int × Int} {bs : List (Nat × (Int × Int))}
theorem Blks.next (h : Blks W w g x y z bs) (hb : Below w.heap.size w w') : Blks W w' g x y z bs := ⟨h.row.below hb, fun p hp => (h.all p hp).below hb, past h.below hb⟩
theorem Blks.more (h : Blks W w g x y z bs) (s : Int × Int) : Blks W (w.alloc (.cells #[.int .i64 s.1, .int .i64 s.2] 49)) g x y z ((w.heap.size, s) :: bs) := by
  have hb : Below w.heap.size w (w.alloc (.cells #[.int .i64 s.1, .int .i64 s.2] 49)) := (Below.refl _ _).alloc (Nat.le_refl _) _
  refine ⟨h.row.below hb, fun p hp => ?_, past h.below hb⟩
  rcases List.mem_cons.1 hp with rfl | hp
  · exact ⟨new_block _ _ _⟩
  · exact (h.all p hp).below hb
theorem Blks.rebase (h : Blks W w g x y z bs) : Blks w w g x y z bs := ⟨h.row, h.all, Below.refl _ _⟩
theorem Blks.get {P : Nat} {s : Int × Int} (h : Blks W w g x y z bs) (hp : (P, s) ∈ bs) : w.cell? ⟨P, 0, none⟩ = some (.int .i64 s.1) ∧ w.cell? ⟨P, 1, none⟩ = some (.int .i64 s.2) := (h.all _ hp).cells
end

set_option maxRecDepth 100000 in
set_option maxHeartbeats 8000000 in
theorem spans_any (w : World) (x y z : Int × Int) :
    Calls Try.prog 6 #[.agg #[.int .i64 x.1, .int .i64 x.2], .agg #[.int .i64 y.1, .int .i64 y.2], .agg #[.int .i64 z.1, .int .i64 z.2]] w fun e w' => e = .returned (.bool true) ∧ Below w.heap.size w w' := by
  go_enter Try.func6, Try.ntmps6
  go_wp2_with (go_at_call 8; go_loud (refine (awake_any _).mono ?_; rintro e w1 ⟨rfl, hb⟩; obtain ⟨hA, ⟨c0, c1⟩, ⟨c2, c3⟩, ⟨c4, c5⟩⟩ := three_cells w w1 x y z _ hb; have A1 := Lib.hid hA; have R0 : Hid (Row3 (w1.alloc (.cells #[.int .i64 x.1, .int .i64 x.2, .int .i64 y.1, .int .i64 y.2, .int .i64 z.1, .int .i64 z.2] 49)) w1.heap.size x y z) := Lib.hid ⟨new_block _ _ _⟩; clear hA hb))
  have A2 : Hid (Below w.heap.size w (w1.alloc (.cells #[.int .i64 x.1, .int .i64 x.2, .int .i64 y.1, .int .i64 y.2, .int .i64 z.1, .int .i64 z.2] 49))) := Lib.hid (past A1.out ((Below.refl _ _).alloc (Nat.le_refl _) _))
  clear c0 c1 c2 c3 c4 c5 A1
  generalize w1.alloc (.cells #[.int .i64 x.1, .int .i64 x.2, .int .i64 y.1, .int .i64 y.2, .int .i64 z.1, .int .i64 z.2] 49) = w2 at *
  generalize w1.heap.size = g at *
  go_loopw [38] (fun i wr => ∃ k : Nat, k ≤ 3 ∧ i = .int .i64 (k : Int) ∧ Below w2.heap.size w2 wr ∧ ∀ j, j < k → goodS (pick3 x y z j)) (fun i _ => 3 - (intOf i).toNat)
  case atStart => exact ⟨0, by omega, rfl, Below.refl _ _, fun j hj => absurd hj (by omega)⟩
  case round =>
    obtain ⟨k, hk, rfl, hb, hgo⟩ := hrel
    have HB := Lib.hid hb
    have HG := Lib.hid hgo
    clear hb hgo
    by_cases hlt : k < 3
    · have hki : (k : Int) < 3 := by omega
      obtain ⟨p0, p1⟩ := (R0.out.below HB.out).at k hlt
      have HM := Lib.hid (good_more (k := k) HG.out)
      by_cases hgd : goodS (pick3 x y z k)
      · have HN := Lib.hid (HM.out hgd)
        obtain ⟨h1, h2⟩ := hgd
        generalize pick3 x y z k = s at *
        obtain ⟨B, D⟩ := s
        simp only at p0 p1 h1 h2
        have d1 : decide (B < 0) = false := decide_eq_false h1
        by_cases h3 : 0 ≤ D
        · have d2 : decide (0 ≤ D) = true := decide_eq_true h3
          have d3 : decide (D ≤ B) = false := decide_eq_false (by omega)
          clear h2 HM
          go_wp2
          go_roundw
          case rel => exact ⟨k + 1, by omega, by go_num, past HB.out (by go_grown), HN.out⟩
          case measure => simp [intOf]; omega
        · have d2 : decide (0 ≤ D) = false := decide_eq_false h3
          clear h2 HM
          go_wp2
          go_roundw
          case rel => exact ⟨k + 1, by omega, by go_num, past HB.out (by go_grown), HN.out⟩
          case measure => simp [intOf]; omega
      · clear HM
        have hgd2 : (pick3 x y z k).1 < 0 ∨ (0 ≤ (pick3 x y z k).2 ∧ (pick3 x y z k).2 ≤ (pick3 x y z k).1) := by
          unfold goodS at hgd
          omega
        clear hgd
        generalize pick3 x y z k = s at *
        obtain ⟨B, D⟩ := s
        simp only at p0 p1 hgd2
        by_cases h1 : B < 0
        · have d1 : decide (B < 0) = true := decide_eq_true h1
          clear hgd2
          go_wp2
          go_returns
          exact ⟨rfl, past A2.out (past HB.out (by go_grown))⟩
        · have d1 : decide (B < 0) = false := decide_eq_false h1
          have d2 : decide (0 ≤ D) = true := decide_eq_true (by omega)
          have d3 : decide (D ≤ B) = true := decide_eq_true (by omega)
          clear hgd2
          go_wp2
          go_returns
          exact ⟨rfl, past A2.out (past HB.out (by go_grown))⟩
    · have hge : ¬ ((k : Int) < 3) := by omega
      have HA := Lib.hid (good_pick fun j hj => HG.out j (by omega))
      have R1 := Lib.hid (R0.out.below HB.out)
      have A3 := Lib.hid (past A2.out HB.out)
      clear HG HB A2 R0
      generalize wr = w3 at *
      go_wp2
      go_loopw [60] (fun i wr => ∃ k : Nat, k ≤ 3 ∧ i = .int .i64 (k : Int) ∧ Below w3.heap.size w3 wr) (fun i _ => 3 - (intOf i).toNat)
      case atStart => exact ⟨0, by omega, rfl, Below.refl _ _⟩
      case round =>
        obtain ⟨k, hk, rfl, hb⟩ := hrel
        have HB := Lib.hid hb
        clear hb
        generalize wr = wx0 at *
        by_cases hlt : k < 3
        · have hki : (k : Int) < 3 := by omega
          have R2 := Lib.hid (R1.out.below HB.out)
          obtain ⟨p0, p1⟩ := R2.out.at k hlt
          have HS := Lib.hid (HA.out k)
          generalize pick3 x y z k = s at *
          have C0 : Spn wx0 (wx0.alloc (.cells #[.int .i64 s.1, .int .i64 s.2] 49)) g wx0.heap.size x y z s := ⟨R2.out.below ((Below.refl _ _).alloc (Nat.le_refl _) _), ⟨new_block _ _ _⟩, (Below.refl _ _).alloc (Nat.le_refl _) _⟩
          go_wp2
          generalize wx0.alloc (.cells #[.int .i64 s.1, .int .i64 s.2] 49) = wa at *
          generalize hP : wx0.heap.size = P at *
          clear p0 p1 hP
          have PB : ∀ wx : World, Calls Try.prog 22 #[.agg #[.int .i64 s.1, .int .i64 s.2], .agg #[.int .i64 s.1, .int .i64 s.2]] wx fun e w' => e = .returned (.bool false) ∧ Below wx.heap.size wx w' := fun wx => by
            have h := before_any wx s.1 s.2 s.1 s.2
            rw [bef_self HS.out] at h
            exact h
          go_cut [92] (fun v wx => v = .bool false ∧ Spn wx0 wx g P x y z s)
          case first =>
            by_cases hd : s.2 < 0
            · have hdd : decide (s.2 < 0) = true := decide_eq_true hd
              have PX : ∀ wx : World, Calls Try.prog 22 #[.agg #[.int .i64 s.1, .int .i64 s.2], .agg #[.int .i64 x.1, .int .i64 x.2]] wx fun e w' => e = .returned (.bool false) ∧ Below wx.heap.size wx w' := fun wx => by
                have h := before_any wx s.1 s.2 x.1 x.2
                rw [bef_none hd] at h
                exact h
              have PY : ∀ wx : World, Calls Try.prog 22 #[.agg #[.int .i64 s.1, .int .i64 s.2], .agg #[.int .i64 y.1, .int .i64 y.2]] wx fun e w' => e = .returned (.bool false) ∧ Below wx.heap.size wx w' := fun wx => by
                have h := before_any wx s.1 s.2 y.1 y.2
                rw [bef_none hd] at h
                exact h
              have PP : ∀ wx : World, Calls Try.prog 23 #[.agg #[.int .i64 s.1, .int .i64 s.2]] wx fun e w' => e = .returned (.bool true) ∧ Below wx.heap.size wx w' := fun wx => by
                have h := spanPend_any wx s.1 s.2
                rw [hdd] at h
                exact h
              refine quiet.region (C := fun wx => Spn wx0 wx g P x y z s) C0.drew (by kernel_rfl) (by kernel_rfl) ?_
              repeat (first
                | go_big_quiet_skip
                | (go_big_quiet_want; go_big_quiet_op; go_big_quiet_on)
                | (refine BigFrame.wpQuiet_want (by rfl) (fun K hK => ?_)
                   apply Exists.intro
                   refine ⟨fun wx hwx => ?_, hK _ ?_⟩
                   · have hx := Spn.cells hwx
                     go_split_ands
                     go_simp
                     first | rfl | (with_reducible refine quiet.call (PB wx) ?_; exact fun _ hb => Spn.next hwx hb) | (with_reducible refine quiet.call (PX wx) ?_; exact fun _ hb => Spn.next hwx hb) | (with_reducible refine quiet.call (PY wx) ?_; exact fun _ hb => Spn.next hwx hb) | (with_reducible refine quiet.call (PP wx) ?_; exact fun _ hb => Spn.next hwx hb)
                   clear hK K
                   simp only [Act.put, List.setIfInBounds_toArray, List.set_cons_zero, List.set_cons_succ]))
              refine wpQuiet_nil ?_
              intro w6 hq6
              go_wp2_with fail
              go_meet
              exact ⟨rfl, hq6⟩
            · have hdd : decide (s.2 < 0) = false := decide_eq_false hd
              have PP : ∀ wx : World, Calls Try.prog 23 #[.agg #[.int .i64 s.1, .int .i64 s.2]] wx fun e w' => e = .returned (.bool false) ∧ Below wx.heap.size wx w' := fun wx => by
                have h := spanPend_any wx s.1 s.2
                rw [hdd] at h
                exact h
              refine quiet.region (C := fun wx => Spn wx0 wx g P x y z s) C0.drew (by kernel_rfl) (by kernel_rfl) ?_
              repeat (first
                | go_big_quiet_skip
                | (go_big_quiet_want; go_big_quiet_op; go_big_quiet_on)
                | (refine BigFrame.wpQuiet_want (by rfl) (fun K hK => ?_)
                   apply Exists.intro
                   refine ⟨fun wx hwx => ?_, hK _ ?_⟩
                   · have hx := Spn.cells hwx
                     go_split_ands
                     go_simp
                     first | rfl | (with_reducible refine quiet.call (PB wx) ?_; exact fun _ hb => Spn.next hwx hb) | (with_reducible refine quiet.call (PP wx) ?_; exact fun _ hb => Spn.next hwx hb)
                   clear hK K
                   simp only [Act.put, List.setIfInBounds_toArray, List.set_cons_zero, List.set_cons_succ]))
              refine wpQuiet_nil ?_
              intro w6 hq6
              go_wp2_with fail
              go_meet
              exact ⟨rfl, hq6⟩
          case rest =>
            clear PB
            generalize wc = w6 at *
            obtain ⟨rfl, hq6⟩ := hcut
            have H6 : Hid (Blks w6 w6 g x y z [(P, s)]) := Lib.hid ⟨hq6.row, fun p hp => (by rw [List.mem_singleton.1 hp]; exact hq6.blk), Below.refl _ _⟩
            have A6 := Lib.hid hq6.below
            clear hq6 C0
            go_wp2
            go_loopw [95] (fun i wi => ∃ k2 : Nat, k2 ≤ 3 ∧ i = .int .i64 (k2 : Int) ∧ Below w6.heap.size w6 wi) (fun i _ => 3 - (intOf i).toNat)
            case atStart => exact ⟨0, by omega, rfl, Below.refl _ _⟩
            case round =>
              obtain ⟨k2, hk2, rfl, hb⟩ := hrel
              have H7 := Lib.hid (H6.out.next hb)
              have A7 := Lib.hid hb
              clear hb
              generalize wr = wy at *
              by_cases hlt2 : k2 < 3
              · have hki2 : (k2 : Int) < 3 := by omega
                obtain ⟨p0, p1⟩ := H7.out.row.at k2 hlt2
                have HT := Lib.hid (HA.out k2)
                generalize pick3 x y z k2 = t at *
                have H8 := Lib.hid (H7.out.more t)
                obtain ⟨q0, q1⟩ := H8.out.get (P := P) (s := s) (by simp)
                have HPne : Hid (P < wy.heap.size) := Lib.hid (H7.out.all (P, s) (by simp)).lt
                cases h1 : befB s.2 t.1
                all_goals
                  have E1 := Lib.hid h1
                  clear h1
                  go_wp2_with (go_at_call 22; first
                    | (have _t := H9.out; go_loud (refine (before_any _ _ _ _ _).mono ?_; rintro e w10 ⟨rfl, hb⟩; have H10 := Lib.hid (H9.out.next hb); rw [bef_both HS.out HT.out E1.out]; clear hb))
                    | (go_loud (refine (before_any _ _ _ _ _).mono ?_; rintro e w9 ⟨rfl, hb⟩; have H9 := Lib.hid (H8.out.next hb); obtain ⟨r0, r1⟩ := H9.out.get (P := P) (s := s) (by simp); obtain ⟨r2, r3⟩ := H9.out.get (P := wy.heap.size) (s := t) (by simp); rw [E1.out]; clear hb)))
                  first
                    | (have HX := Lib.hid H10.out.rebase; have AX := Lib.hid H10.out.below; generalize w10 = w11 at *)
                    | (have HX := Lib.hid H9.out.rebase; have AX := Lib.hid H9.out.below; generalize w9 = w11 at *)
                  generalize wy.heap.size = Q at *
                  go_loopw [109] (fun i wi => ∃ k3 : Nat, k3 ≤ 3 ∧ i = .int .i64 (k3 : Int) ∧ Below w11.heap.size w11 wi) (fun i _ => 3 - (intOf i).toNat)
                  case atStart => exact ⟨0, by omega, rfl, Below.refl _ _⟩
                  case round =>
                    obtain ⟨k3, hk3, rfl, hb⟩ := hrel
                    have H12 := Lib.hid (HX.out.next hb)
                    have A12 := Lib.hid hb
                    clear hb
                    generalize wr = wu at *
                    by_cases hlt3 : k3 < 3
                    · have hki3 : (k3 : Int) < 3 := by omega
                      obtain ⟨p0, p1⟩ := H12.out.row.at k3 hlt3
                      generalize pick3 x y z k3 = u at *
                      have H13 := Lib.hid (H12.out.more u)
                      have B13 := Lib.hid H13.out.below
                      go_wp2
                      generalize wu.alloc (.cells #[.int .i64 u.1, .int .i64 u.2] 49) = w13 at *
                      generalize wu.heap.size = R at *
                      clear p0 p1
                      go_loopw [115] (fun i wi => ∃ k4 : Nat, k4 ≤ 3 ∧ i = .int .i64 (k4 : Int) ∧ Below w13.heap.size w13 wi) (fun i _ => 3 - (intOf i).toNat)
                      case atStart => exact ⟨0, by omega, rfl, Below.refl _ _⟩
                      case round =>
                        obtain ⟨k4, hk4, rfl, hb⟩ := hrel
                        have H14 := Lib.hid (H13.out.rebase.next hb)
                        clear hb
                        generalize wr = wv at *
                        by_cases hlt4 : k4 < 3
                        · have hki4 : (k4 : Int) < 3 := by omega
                          obtain ⟨p0, p1⟩ := H14.out.row.at k4 hlt4
                          generalize pick3 x y z k4 = v at *
                          have H15 := Lib.hid (H14.out.more v)
                          obtain ⟨q0, q1⟩ := H15.out.get (P := P) (s := s) (by simp)
                          obtain ⟨q2, q3⟩ := H15.out.get (P := Q) (s := t) (by simp)
                          have HP4 : Hid (P < wv.heap.size) := Lib.hid (H14.out.all (P, s) (by simp)).lt
                          have HQ4 : Hid (Q < wv.heap.size) := Lib.hid (H14.out.all (Q, t) (by simp)).lt
                          cases h1 : befB s.2 t.1
                          · have E1 := Lib.hid h1
                            clear h1
                            go_wp2_with (go_at_call 22; first
                              | (have _t := H18.out; go_loud (refine (before_any _ _ _ _ _).mono ?_; rintro e w19 ⟨rfl, hb⟩; have H19 := Lib.hid (H18.out.next hb); rw [E4.out]; clear hb))
                              | (have _t := H17.out; go_loud (refine (before_any _ _ _ _ _).mono ?_; rintro e w18 ⟨rfl, hb⟩; have H18 := Lib.hid (H17.out.next hb); obtain ⟨n0, n1⟩ := H18.out.get (P := R) (s := u) (by simp); obtain ⟨n2, n3⟩ := H18.out.get (P := Q) (s := t) (by simp); rw [E3.out]; clear hb))
                              | (have _t := H16.out; go_loud (refine (before_any _ _ _ _ _).mono ?_; rintro e w17 ⟨rfl, hb⟩; have H17 := Lib.hid (H16.out.next hb); obtain ⟨m0, m1⟩ := H17.out.get (P := P) (s := s) (by simp); obtain ⟨m2, m3⟩ := H17.out.get (P := wv.heap.size) (s := v) (by simp); rw [E2.out]; clear hb))
                              | (go_loud (refine (before_any _ _ _ _ _).mono ?_; rintro e w16 ⟨rfl, hb⟩; have H16 := Lib.hid (H15.out.next hb); obtain ⟨l0, l1⟩ := H16.out.get (P := R) (s := u) (by simp); obtain ⟨l2, l3⟩ := H16.out.get (P := wv.heap.size) (s := v) (by simp); rw [E1.out]; clear hb)))
                            go_roundw
                            case rel => exact ⟨k4 + 1, by omega, by go_num, H16.out.below⟩
                            case measure => simp [intOf]; omega
                          · cases h2 : befB u.2 v.1
                            · have E1 := Lib.hid h1
                              have E2 := Lib.hid h2
                              clear h1 h2
                              go_wp2_with (go_at_call 22; first
                              | (have _t := H18.out; go_loud (refine (before_any _ _ _ _ _).mono ?_; rintro e w19 ⟨rfl, hb⟩; have H19 := Lib.hid (H18.out.next hb); rw [E4.out]; clear hb))
                              | (have _t := H17.out; go_loud (refine (before_any _ _ _ _ _).mono ?_; rintro e w18 ⟨rfl, hb⟩; have H18 := Lib.hid (H17.out.next hb); obtain ⟨n0, n1⟩ := H18.out.get (P := R) (s := u) (by simp); obtain ⟨n2, n3⟩ := H18.out.get (P := Q) (s := t) (by simp); rw [E3.out]; clear hb))
                              | (have _t := H16.out; go_loud (refine (before_any _ _ _ _ _).mono ?_; rintro e w17 ⟨rfl, hb⟩; have H17 := Lib.hid (H16.out.next hb); obtain ⟨m0, m1⟩ := H17.out.get (P := P) (s := s) (by simp); obtain ⟨m2, m3⟩ := H17.out.get (P := wv.heap.size) (s := v) (by simp); rw [E2.out]; clear hb))
                              | (go_loud (refine (before_any _ _ _ _ _).mono ?_; rintro e w16 ⟨rfl, hb⟩; have H16 := Lib.hid (H15.out.next hb); obtain ⟨l0, l1⟩ := H16.out.get (P := R) (s := u) (by simp); obtain ⟨l2, l3⟩ := H16.out.get (P := wv.heap.size) (s := v) (by simp); rw [E1.out]; clear hb)))
                              go_roundw
                              case rel => exact ⟨k4 + 1, by omega, by go_num, H17.out.below⟩
                              case measure => simp [intOf]; omega
                            · cases h3 : befB s.2 v.1
                              · have E4 : Hid (befB u.2 t.1 = true) := Lib.hid (bef_four h1 h2 h3)
                                have E1 := Lib.hid h1
                                have E2 := Lib.hid h2
                                have E3 := Lib.hid h3
                                clear h1 h2 h3
                                go_wp2_with (go_at_call 22; first
                              | (have _t := H18.out; go_loud (refine (before_any _ _ _ _ _).mono ?_; rintro e w19 ⟨rfl, hb⟩; have H19 := Lib.hid (H18.out.next hb); rw [E4.out]; clear hb))
                              | (have _t := H17.out; go_loud (refine (before_any _ _ _ _ _).mono ?_; rintro e w18 ⟨rfl, hb⟩; have H18 := Lib.hid (H17.out.next hb); obtain ⟨n0, n1⟩ := H18.out.get (P := R) (s := u) (by simp); obtain ⟨n2, n3⟩ := H18.out.get (P := Q) (s := t) (by simp); rw [E3.out]; clear hb))
                              | (have _t := H16.out; go_loud (refine (before_any _ _ _ _ _).mono ?_; rintro e w17 ⟨rfl, hb⟩; have H17 := Lib.hid (H16.out.next hb); obtain ⟨m0, m1⟩ := H17.out.get (P := P) (s := s) (by simp); obtain ⟨m2, m3⟩ := H17.out.get (P := wv.heap.size) (s := v) (by simp); rw [E2.out]; clear hb))
                              | (go_loud (refine (before_any _ _ _ _ _).mono ?_; rintro e w16 ⟨rfl, hb⟩; have H16 := Lib.hid (H15.out.next hb); obtain ⟨l0, l1⟩ := H16.out.get (P := R) (s := u) (by simp); obtain ⟨l2, l3⟩ := H16.out.get (P := wv.heap.size) (s := v) (by simp); rw [E1.out]; clear hb)))
                                go_roundw
                                case rel => exact ⟨k4 + 1, by omega, by go_num, H19.out.below⟩
                                case measure => simp [intOf]; omega
                              · have E1 := Lib.hid h1
                                have E2 := Lib.hid h2
                                have E3 := Lib.hid h3
                                clear h1 h2 h3
                                go_wp2_with (go_at_call 22; first
                              | (have _t := H18.out; go_loud (refine (before_any _ _ _ _ _).mono ?_; rintro e w19 ⟨rfl, hb⟩; have H19 := Lib.hid (H18.out.next hb); rw [E4.out]; clear hb))
                              | (have _t := H17.out; go_loud (refine (before_any _ _ _ _ _).mono ?_; rintro e w18 ⟨rfl, hb⟩; have H18 := Lib.hid (H17.out.next hb); obtain ⟨n0, n1⟩ := H18.out.get (P := R) (s := u) (by simp); obtain ⟨n2, n3⟩ := H18.out.get (P := Q) (s := t) (by simp); rw [E3.out]; clear hb))
                              | (have _t := H16.out; go_loud (refine (before_any _ _ _ _ _).mono ?_; rintro e w17 ⟨rfl, hb⟩; have H17 := Lib.hid (H16.out.next hb); obtain ⟨m0, m1⟩ := H17.out.get (P := P) (s := s) (by simp); obtain ⟨m2, m3⟩ := H17.out.get (P := wv.heap.size) (s := v) (by simp); rw [E2.out]; clear hb))
                              | (go_loud (refine (before_any _ _ _ _ _).mono ?_; rintro e w16 ⟨rfl, hb⟩; have H16 := Lib.hid (H15.out.next hb); obtain ⟨l0, l1⟩ := H16.out.get (P := R) (s := u) (by simp); obtain ⟨l2, l3⟩ := H16.out.get (P := wv.heap.size) (s := v) (by simp); rw [E1.out]; clear hb)))
                                go_roundw
                                case rel => exact ⟨k4 + 1, by omega, by go_num, H18.out.below⟩
                                case measure => simp [intOf]; omega
                        · have hge : ¬ ((k4 : Int) < 3) := by omega
                          go_wp2
                          go_roundw
                          case rel => exact ⟨k3 + 1, by omega, by go_num, past B13.out H14.out.below⟩
                          case measure => simp [intOf]; omega
                    · have hge : ¬ ((k3 : Int) < 3) := by omega
                      go_wp2
                      go_roundw
                      case rel => exact ⟨k2 + 1, by omega, by go_num, past AX.out A12.out⟩
                      case measure => simp [intOf]; omega
              · have hge : ¬ ((k2 : Int) < 3) := by omega
                go_wp2
                go_roundw
                case rel => exact ⟨k + 1, by omega, by go_num, past HB.out (past A6.out A7.out)⟩
                case measure => simp [intOf]; omega
        · have hge : ¬ ((k : Int) < 3) := by omega
          go_wp2
          go_returns
          exact ⟨rfl, past A3.out HB.out⟩
end Go.Proofs.Ytfacojlheeoppaa.hist
