/- The law WordGets answers true at any bits. -/
import Derived.Test.YtcblbbenaeiecaaDoorRows5
import Derived.Test.YtcblbbenaeiecaaDoorEq5
import Derived.Deep.RegionHeld3
namespace Go.Proofs.YtcblbbenaeiecaaDoor.word
open Go.RowKit
attribute [local go_sem] eq5

theorem mk_bit (x : Int) : mk (x / 1024 / 512 % 2 == 1) = x / 1024 / 512 % 2 := by
  unfold mk
  by_cases h : x / 1024 / 512 % 2 = 1
  · rw [if_pos (by simp [h]), h]
  · rw [if_neg (by simp [h])]; omega

theorem fields_get (w : World) (x : Int) :
    Calls Tryd.prog 11 #[.agg #[.int .i64 (x % 1024), .int .i64 (x / 1024 % 512), .bool (x / 1024 / 512 % 2 == 1), .int .i64 (x / 1024 / 512 / 2 % 32), .int .i64 (x / 1024 / 512 / 2 / 32 % 262144)]] w fun e w' => e = .returned (.agg #[.int .i64 (x % 1024), .int .i64 (x / 1024 % 512), .int .i64 (x / 1024 / 512 % 2), .int .i64 (x / 1024 / 512 / 2 % 32), .int .i64 (x / 1024 / 512 / 2 / 32 % 262144)]) ∧ Below w.heap.size w w' := by
  have h := mk_bit x
  exact (fields_any w _ _ _ _ _).mono fun e w' ⟨he, hb⟩ => ⟨by rw [he, h], hb⟩

theorem split_low (w : World) (x : Int) :
    Calls Tryd.prog 15 #[.int .i64 (x % 8796093022208)] w fun e w' => e = .returned (.tuple #[.agg #[.int .i64 (x % 1024), .int .i64 (x / 1024 % 512), .int .i64 (x / 1024 / 512 % 2), .int .i64 (x / 1024 / 512 / 2 % 32), .int .i64 (x / 1024 / 512 / 2 / 32 % 262144)], .int .i64 0]) ∧ Below w.heap.size w w' := by
  have e0 : x % 8796093022208 % 1024 = x % 1024 := by omega
  have e1 : x % 8796093022208 / 1024 % 512 = x / 1024 % 512 := by omega
  have e2 : x % 8796093022208 / 1024 / 512 % 2 = x / 1024 / 512 % 2 := by omega
  have e3 : x % 8796093022208 / 1024 / 512 / 2 % 32 = x / 1024 / 512 / 2 % 32 := by omega
  have e4 : x % 8796093022208 / 1024 / 512 / 2 / 32 % 262144 = x / 1024 / 512 / 2 / 32 % 262144 := by omega
  exact (split_any w _ (by omega) (by omega)).mono fun e w' ⟨he, hb⟩ => ⟨by rw [he, e0, e1, e2, e3, e4], hb⟩

/-- What a region that draws its order keeps: both rows, the rest. -/
def Two (W w : World) (b d : Nat) (x : Int) : Prop :=
  Row5 w b (.int .i64 (x % 1024)) (.int .i64 (x / 1024 % 512)) (.bool (x / 1024 / 512 % 2 == 1)) (.int .i64 (x / 1024 / 512 / 2 % 32)) (.int .i64 (x / 1024 / 512 / 2 / 32 % 262144)) ∧
  Row5 w d (.int .i64 (x % 1024)) (.int .i64 (x / 1024 % 512)) (.int .i64 (x / 1024 / 512 % 2)) (.int .i64 (x / 1024 / 512 / 2 % 32)) (.int .i64 (x / 1024 / 512 / 2 / 32 % 262144)) ∧ Old W w
theorem two_next {W w w' : World} {b d : Nat} {x : Int} (h : Two W w b d x) (hb : Below w.heap.size w w') : Two W w' b d x := ⟨h.1.below hb, h.2.1.below hb, h.2.2.next hb⟩
theorem two_cells {W w : World} {b d : Nat} {x : Int} (h : Two W w b d x) :
    w.cell? ⟨b, 0, none⟩ = some (.int .i64 (x % 1024)) ∧ w.cell? ⟨b, 1, none⟩ = some (.int .i64 (x / 1024 % 512)) ∧ w.cell? ⟨b, 2, none⟩ = some (.bool (x / 1024 / 512 % 2 == 1)) ∧ w.cell? ⟨b, 3, none⟩ = some (.int .i64 (x / 1024 / 512 / 2 % 32)) ∧ w.cell? ⟨b, 4, none⟩ = some (.int .i64 (x / 1024 / 512 / 2 / 32 % 262144)) ∧
    w.cell? ⟨d, 0, none⟩ = some (.int .i64 (x % 1024)) ∧ w.cell? ⟨d, 1, none⟩ = some (.int .i64 (x / 1024 % 512)) ∧ w.cell? ⟨d, 2, none⟩ = some (.int .i64 (x / 1024 / 512 % 2)) ∧ w.cell? ⟨d, 3, none⟩ = some (.int .i64 (x / 1024 / 512 / 2 % 32)) ∧ w.cell? ⟨d, 4, none⟩ = some (.int .i64 (x / 1024 / 512 / 2 / 32 % 262144)) ∧ Two W w b d x :=
  ⟨h.1.c0, h.1.c1, h.1.c2, h.1.c3, h.1.c4, h.2.1.c0, h.2.1.c1, h.2.1.c2, h.2.1.c3, h.2.1.c4, h⟩

theorem two_keep {W w w' : World} {b d : Nat} {x : Int} (h : w.cell? ⟨b, 0, none⟩ = some (.int .i64 (x % 1024)) ∧ w.cell? ⟨b, 1, none⟩ = some (.int .i64 (x / 1024 % 512)) ∧ w.cell? ⟨b, 2, none⟩ = some (.bool (x / 1024 / 512 % 2 == 1)) ∧ w.cell? ⟨b, 3, none⟩ = some (.int .i64 (x / 1024 / 512 / 2 % 32)) ∧ w.cell? ⟨b, 4, none⟩ = some (.int .i64 (x / 1024 / 512 / 2 / 32 % 262144)) ∧ w.cell? ⟨d, 0, none⟩ = some (.int .i64 (x % 1024)) ∧ w.cell? ⟨d, 1, none⟩ = some (.int .i64 (x / 1024 % 512)) ∧ w.cell? ⟨d, 2, none⟩ = some (.int .i64 (x / 1024 / 512 % 2)) ∧ w.cell? ⟨d, 3, none⟩ = some (.int .i64 (x / 1024 / 512 / 2 % 32)) ∧ w.cell? ⟨d, 4, none⟩ = some (.int .i64 (x / 1024 / 512 / 2 / 32 % 262144)) ∧ Two W w b d x) (hb : Below w.heap.size w w') :
    w'.cell? ⟨b, 0, none⟩ = some (.int .i64 (x % 1024)) ∧ w'.cell? ⟨b, 1, none⟩ = some (.int .i64 (x / 1024 % 512)) ∧ w'.cell? ⟨b, 2, none⟩ = some (.bool (x / 1024 / 512 % 2 == 1)) ∧ w'.cell? ⟨b, 3, none⟩ = some (.int .i64 (x / 1024 / 512 / 2 % 32)) ∧ w'.cell? ⟨b, 4, none⟩ = some (.int .i64 (x / 1024 / 512 / 2 / 32 % 262144)) ∧ w'.cell? ⟨d, 0, none⟩ = some (.int .i64 (x % 1024)) ∧ w'.cell? ⟨d, 1, none⟩ = some (.int .i64 (x / 1024 % 512)) ∧ w'.cell? ⟨d, 2, none⟩ = some (.int .i64 (x / 1024 / 512 % 2)) ∧ w'.cell? ⟨d, 3, none⟩ = some (.int .i64 (x / 1024 / 512 / 2 % 32)) ∧ w'.cell? ⟨d, 4, none⟩ = some (.int .i64 (x / 1024 / 512 / 2 / 32 % 262144)) ∧ Two W w' b d x :=
  two_cells (two_next h.2.2.2.2.2.2.2.2.2.2 hb)

set_option maxRecDepth 100000 in
set_option maxHeartbeats 1000000 in
theorem gets_any (w : World) (x : Int) (x0 : 0 ≤ x) (x1 : x < 18446744073709551616) (ht : Table w) :
    Calls Tryd.prog 4 #[.int .u64 x] w fun e w' => e = .returned (.bool true) ∧ Below w.heap.size w w' := by
  have hlow : bits .and .u64 x 8796093022207 = x % 8796093022208 := and_mask 43 x x0 x1 (by omega)
  have y0 : 0 ≤ x % 8796093022208 := by omega
  have y1 : x % 8796093022208 < 8796093022208 := by omega
  have ho0 := Old.refl ht
  go_enter Tryd.func4, Tryd.ntmps4
  go_wp2_with (first | (go_at_call 8; refine (awake_any _ ho0.table).mono ?_; rintro e w1 ⟨rfl, hb1⟩; have ho1 := ho0.next hb1) | (go_at_call 13; refine (get_any _ x x0 x1 ho1.table).mono ?_; rintro e w2 ⟨rfl, hb2⟩; have ho2 := ho1.next hb2) | (go_at_call 15; refine (split_low _ x).mono ?_; rintro e w3 ⟨rfl, hb3⟩; have ho3 := (ho2.alloc _).next hb3; obtain ⟨hc3, hf3⟩ := bcell hb3; have hz3 : w2.heap.size < w3.heap.size := by have := hb3.size; simp at this; omega) | (go_at_call 9; refine (put_get _ x (ho3.alloc _).table).mono ?_; rintro e w4 ⟨rfl, hb4⟩; have ho4 := (ho3.alloc _).next hb4))
  have htwo : Two w w4.drew w2.heap.size w3.heap.size x :=
    ⟨((((Row5.new w2 23 _ _ _ _ _).below hb3).alloc _).below hb4).drew, ((Row5.new w3 31 _ _ _ _ _).below hb4).drew, ho4.drew⟩
  have hw4 := two_cells htwo
  have hq : (x == x % 8796093022208) = (x % 8796093022208 == x) := by rw [Bool.eq_iff_iff]; simp; omega
  clear hc3 hf3 hz3 hb1 hb2 hb3 hb4 ho0 ho1 ho2 ho3 ho4 htwo
  go_region_held3 (fun w' => w'.cell? ⟨w2.heap.size, 0, none⟩ = some (.int .i64 (x % 1024)) ∧ w'.cell? ⟨w2.heap.size, 1, none⟩ = some (.int .i64 (x / 1024 % 512)) ∧ w'.cell? ⟨w2.heap.size, 2, none⟩ = some (.bool (x / 1024 / 512 % 2 == 1)) ∧ w'.cell? ⟨w2.heap.size, 3, none⟩ = some (.int .i64 (x / 1024 / 512 / 2 % 32)) ∧ w'.cell? ⟨w2.heap.size, 4, none⟩ = some (.int .i64 (x / 1024 / 512 / 2 / 32 % 262144)) ∧ w'.cell? ⟨w3.heap.size, 0, none⟩ = some (.int .i64 (x % 1024)) ∧ w'.cell? ⟨w3.heap.size, 1, none⟩ = some (.int .i64 (x / 1024 % 512)) ∧ w'.cell? ⟨w3.heap.size, 2, none⟩ = some (.int .i64 (x / 1024 / 512 % 2)) ∧ w'.cell? ⟨w3.heap.size, 3, none⟩ = some (.int .i64 (x / 1024 / 512 / 2 % 32)) ∧ w'.cell? ⟨w3.heap.size, 4, none⟩ = some (.int .i64 (x / 1024 / 512 / 2 / 32 % 262144)) ∧ Two w w' w2.heap.size w3.heap.size x)
    (first | exact hw4 | (refine two_keep ?_ hb6; assumption) | (refine two_keep ?_ hb5; assumption))
    (first | (go_at_call 11; refine (fields_get _ x).mono ?_; rintro e w5 ⟨rfl, hb5⟩) | (go_at_call 14; refine (right_any _ x x0 x1 ?_).mono ?_; (go_split_ands; refine Old.table (W := w) ?_; refine And.right (And.right (?_ : Two w _ w2.heap.size w3.heap.size x)); assumption); rintro e w6 ⟨rfl, hb6⟩))
  go_wp2
  go_returns
  refine ⟨rfl, ?_⟩
  have hk6 : Two w w6 w2.heap.size w3.heap.size x := by go_split_ands; assumption
  exact hk6.2.2.below
end Go.Proofs.YtcblbbenaeiecaaDoor.word
