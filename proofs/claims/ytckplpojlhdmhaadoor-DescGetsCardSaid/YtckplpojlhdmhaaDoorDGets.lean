/- The law DescGets answers true at any bits. -/
import Derived.Test.YtckplpojlhdmhaaDoorDRows
namespace Go.Proofs.YtckplpojlhdmhaaDoor.desc
open Go.RowKit

theorem fit_get (w : World) (y : Int) :
    Calls Tryd.prog 10 #[.agg #[.int .i64 (y % 4096), .int .i64 (fa y), .int .i64 (fv y), .int .i64 (fn y), .bool (fm y), .int .i64 (fs y), .int .i64 (fx y)]] w fun e w' => e = .returned (.bool true) ∧ Below w.heap.size w w' :=
  fit_yes w (y % 4096) (fa y) (fv y) (fn y) (fm y) (fs y) (fx y) (by omega) (by omega) (fa_r y).1 (fa_r y).2 (fv_r y).1 (fv_r y).2 (fn_r y).1 (fn_r y).2 (fs_r y).1 (fs_r y).2 (fx_r y).1 (fx_r y).2

set_option maxRecDepth 100000 in
set_option maxHeartbeats 1000000 in
theorem gets_any (w : World) (y : Int) (y0 : 0 ≤ y) (y1 : y < 18446744073709551616) (ht : Table w) :
    Calls Tryd.prog 4 #[.int .u64 y] w fun e w' => e = .returned (.bool true) ∧ Below w.heap.size w w' := by
  have hlow : bits .and .u64 y 4611686018427387903 = y % 4611686018427387904 := word.and_mask 62 y y0 y1 (by omega)
  have ho0 := Old.refl ht
  go_enter Tryd.func4, Tryd.ntmps4
  go_wp2_with (first | (go_at_call 8; refine (awake_any _ ho0.table).mono ?_; rintro e w1 ⟨rfl, hb1⟩; have ho1 := ho0.next hb1) | (go_at_call 12; refine (get_any _ y y0 y1 ho1.table).mono ?_; rintro e w2 ⟨rfl, hb2⟩; have ho2 := ho1.next hb2) | (go_at_call 9; refine (put_get _ y (ho2.alloc _).table).mono ?_; rintro e w3 ⟨rfl, hb3⟩; have ho3 := (ho2.alloc _).next hb3; obtain ⟨d0, d1, d2, d3, d4, d5, d6, hz3⟩ := (Row7.new w2 (y % 4096) (fa y) (fv y) (fn y) (fm y) (fs y) (fx y)).below hb3) | (go_at_call 10; refine (fit_get _ y).mono ?_; rintro e w4 ⟨rfl, hb4⟩; have ho4 := ho3.next hb4))
  go_returns
  exact ⟨rfl, ho4.below⟩
end Go.Proofs.YtckplpojlhdmhaaDoor.desc
