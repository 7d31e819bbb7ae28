/- A memory's copy. -/
import Derived.Test.YtglkpajnhdamkaaMCopy
import Derived.Test.YtglkpajnhdamkaaMEqw
import Derived.Deep.RegionWith
namespace Go.Proofs.Ytglkpajnhdamkaa.mem
open Go.RowKit
attribute [local go_sem] eq_lay eq_act

section
variable {w : World} {X Y : Nat} {t n k : Int} {zs : List Int} {l : Last}
theorem MemAt.rowAt (h : MemAt w X Y t n zs k l) : RowAt w Y zs := ⟨h.body⟩
theorem MemAt.cells {w' : World} (h : MemAt w X Y t n zs k l) (hb : Below w.heap.size w w') : ∃ c, Row9 w' X Y t n zs.length c k l := (h.below hb).row

/-- The layout's cells, behind a call. -/
theorem MemAt.lay {w' : World} (h : MemAt w X Y t n zs k l) (hb : Below w.heap.size w w') : w'.cell? ⟨X, 0, none⟩ = some (.int .i64 t) ∧ w'.cell? ⟨X, 1, none⟩ = some (.int .i64 n) := by
  obtain ⟨c, hr⟩ := (h.below hb).row
  exact ⟨hr.c0, hr.c1⟩
def Copied (w : World) (t n : Int) (zs : List Int) (e : Ending) (w' : World) : Prop := ∃ X Y, e = .returned (.pointer (some ⟨X, 0, .none⟩)) ∧ MadeAt w t n zs X Y w'

theorem made_copy {w1 : World} {Y' c z : Nat} (hc : ClonedAt w.drew zs Y' w1) (hz : zs.length = z) : MadeAt w t n zs w1.heap.size Y' (w1.alloc (.cells (headCells t n Y' z c 0 Last.no) 63)) := by
  have hlt := hc.row.lt
  have hs := hc.below.size
  have hy := hc.y
  simp at hs hy
  subst hz
  refine ⟨⟨⟨c, new_block _ _ _ rfl⟩, (hc.row.below ((Below.refl _ _).alloc (Nat.le_refl _) _)).body, by omega⟩, ?_, hs, hy⟩
  exact (((Below.refl _ _).drew).trans hc.below).alloc hs _

set_option maxHeartbeats 1000000 in
theorem copy_nil (w : World) :
    Calls Try.prog 9 #[.pointer none] w fun e w' => e = .returned (.pointer none) ∧ w = w' := by
  go_enter Try.func9, Try.ntmps9
  go_wp2
  go_returns
  exact ⟨rfl, rfl⟩
set_option maxHeartbeats 2000000 in
theorem copy_any (hm : MemAt w X Y t n zs k l) (z : Nat) (hz : zs.length = z) (z0 : 0 < z) (z1 : z ≤ 1000) :
    Calls Try.prog 9 #[.pointer (some ⟨X, 0, none⟩)] w (Copied w t n zs) := by
  obtain ⟨c, hr⟩ := hm.row
  rw [hz] at hr
  obtain ⟨c0, c1, c2, _, _, _, _, _, _, fx, fy, hx, hy, ne, en⟩ := hr
  have HM := Lib.hid hm
  have HZ := Lib.hid hz
  clear hm hz
  go_enter Try.func9, Try.ntmps9
  go_wp2
  go_region_with (go_at_call 24; refine (clone_any _ Y z c zs HZ.out z0 z1 HM.out.drew.rowAt).mono ?_; rintro e w1 ⟨Y', c', rfl, hc⟩; have HC := Lib.hid hc; clear hc; obtain ⟨d0, d1⟩ := HM.out.drew.lay HC.out.below)
  all_goals
    go_wp2
    go_returns
    exact ⟨_, _, rfl, made_copy HC.out HZ.out⟩

end
end Go.Proofs.Ytglkpajnhdamkaa.mem
