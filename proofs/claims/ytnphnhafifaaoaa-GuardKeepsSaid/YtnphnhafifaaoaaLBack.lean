/- A new machine that gives nodes back; a map of nodes, an entry of which is struck. -/
import Derived.Test.YtnphnhafifaaoaaLGive
import Derived.Test.YtnphnhafifaaoaaMTake
import Derived.Maps.OwnSet
namespace Go.Proofs.Ytnphnhafifaaoaa.life
open Go.RowKit mem

theorem IntRow.news {w : World} {g : Nat} {L : List Int} (h : IntRow w g L) : ∀ j v, (L.map (Value.int .i64))[j]? = some v → w.cell? ((⟨g, 0, none⟩ : Addr).add j) = some v := by
  intro j v hj
  rw [List.getElem?_map] at hj
  obtain ⟨x, hx, rfl⟩ := Option.map_eq_some_iff.1 hj
  obtain ⟨hlt, hxe⟩ := List.getElem?_eq_some_iff.1 hx
  rw [Addr.add_lit, Nat.zero_add, h.cell hlt, List.getD_eq_getElem?_getD, hx]
  rfl
theorem ints_one_cell (L : List Int) : ∀ u ∈ L.map (Value.int .i64), u.oneCell' = true := by
  intro v hv
  obtain ⟨x, _, rfl⟩ := List.mem_map.1 hv
  rfl
theorem IntRow.below {w w' : World} {g : Nat} {L : List Int} (h : IntRow w g L) (hb : Below w.heap.size w w') : IntRow w' g L := h.moved (hb.block g h.lt)
/-- What owns some numbers is a row of them. -/
theorem row_of_ints {w : World} {base : Nat} {v : Value} {L : List Int} (l0 : 0 < L.length) (h : w.ownsRow base 3 1 v L.length (L.map (Value.int .i64))) : ∃ g c, v = .slice (some ⟨g, 0, none⟩) L.length c ∧ base ≤ g ∧ IntRow w g L ∧ L.length ≤ c ∧ c ≤ maxLen := by
  obtain ⟨hl, ⟨rfl, h0⟩ | ⟨g, cap, cur, rfl, hb, hg, hn, hc, hs, ht⟩⟩ := h
  · omega
  · refine ⟨g, cap, rfl, hb, ⟨(cur.toList.drop (L.length * 1)).toArray, ?_⟩, hn, hc⟩
    rw [hg]
    congr 2
    unfold intCells
    rw [← ht]
    apply Array.ext'
    simp
/-- A row of numbers was copied. -/
structure RowCopy (w : World) (L : List Int) (g c : Nat) (w' : World) : Prop where
  row : IntRow w' g L
  below : Below w.heap.size w w'
  g0 : w.heap.size ≤ g
  c0 : L.length ≤ c
  c1 : c ≤ maxLen
def RowCopied (w : World) (L : List Int) (e : Ending) (w' : World) : Prop := ∃ g c, e = .returned (.slice (some ⟨g, 0, none⟩) L.length c) ∧ RowCopy w L g c w'

set_option maxHeartbeats 400000 in
theorem clone_ints (w : World) (g z c : Nat) (L : List Int) (hz : L.length = z) (z0 : 0 < z) (z1 : z ≤ 1000) (h : IntRow w g L) :
    Calls Try.prog 35 #[.slice (some ⟨g, 0, none⟩) z c] w (RowCopied w L) := by
  have qT : ∀ (w : World) (a : Option Addr) (n c n' c' : Nat), (binOp .eql 35 (.slice a n c) (.slice none n' c')).run Try.prog w = .ok (.bool a.isNone) w := fun w a n c n' c' => Lib.run_eql_slice_nil w _ _ a n c n' c' Try.underlying35
  have H := Lib.hid h
  have HZ := Lib.hid hz
  clear h hz
  go_enter Try.func35, Try.ntmps35
  obtain ⟨i0, hi, hz0, hz1, hz2⟩ := info_parts Tryinfo_int
  have hown : (w.alloc (.cells #[] 3)).ownsRow w.heap.size 3 1 (.slice (some ⟨w.heap.size, 0, none⟩) 0 0) 0 [] := World.ownsRow_made w #[] 0 (Nat.le_refl _) (by unfold maxLen; omega) rfl
  have hmz : 0 + z ≤ maxLen := by unfold maxLen; omega
  go_wp2_with (at_builtin; go_loud (refine wpList_append_own _ rfl (.tmp 5) (.tmp 6) 35 rfl w.heap.size 3 i0 (.int .i64 0) 1 8 Try.underlying35 hi hz0 hz1 hz2 rfl (by decide) _ 0 [] rfl hown ⟨g, 0, none⟩ z c (L.map (Value.int .i64)) rfl (by rw [List.length_map, HZ.out]; omega) (IntRow.news (H.out.below ((Below.refl _ _).alloc (Nat.le_refl _) _))) (ints_one_cell L) hmz (by omega) (by simp) ?_; intro v' w1 hown' hgrow hiff; simp only [Nat.zero_add, List.nil_append] at hown'; rw [← HZ.out] at hown'; obtain ⟨g', c', rfl, hg', hrow, hc0, hc1⟩ := row_of_ints (by rw [HZ.out]; exact z0) hown'; have HR : Hid (RowCopy w L g' c' w1) := Lib.hid ⟨hrow, Below.grown (((Below.refl w.heap.size w).alloc (Nat.le_refl _) (.cells #[] 3))) hgrow (by simp) (by intro k hk; obtain rfl : w.heap.size = k := Option.some.inj hk; exact Nat.le_refl _), hg', hc0, hc1⟩; clear hrow hown' hgrow hiff))
  go_returns
  exact ⟨g', c', rfl, HR.out⟩
theorem clone_ints_nil (w : World) : Calls Try.prog 35 #[.slice none 0 0] w fun e w' => e = .returned (.slice none 0 0) ∧ w = w' := by
  have qT : ∀ (w : World) (a : Option Addr) (n c n' c' : Nat), (binOp .eql 35 (.slice a n c) (.slice none n' c')).run Try.prog w = .ok (.bool a.isNone) w := fun w a n c n' c' => Lib.run_eql_slice_nil w _ _ a n c n' c' Try.underlying35
  go_enter Try.func35, Try.ntmps35
  go_wp2
  go_returns
  exact ⟨rfl, rfl⟩

/-- A new machine that gives nodes back. -/
structure NewGi (w : World) (C : Nat) (t n : Int) (v : Value) (w' : World) : Prop where
  box : Box w' C (giCells t n v) 89
  below : Below w.heap.size w w'
  c : w.heap.size ≤ C
def Backs (w : World) (t n : Int) (L : List Int) (e : Ending) (w' : World) : Prop := ∃ C g c, e = .returned (.pointer (some ⟨C, 0, none⟩)) ∧ NewGi w C t n (.slice (some ⟨g, 0, none⟩) L.length c) w' ∧ IntRow w' g L ∧ w.heap.size ≤ g ∧ g ≠ C ∧ L.length ≤ c ∧ c ≤ maxLen
theorem newGi {w w1 : World} {C : Nat} {t n : Int} {v : Value} (hb : Below w.heap.size w w1) (hC : w1.heap.size = C) : NewGi w C t n v (w1.alloc (.cells (giCells t n v) 89)) := by
  subst hC
  exact ⟨Box.new _ _ _, hb.alloc hb.size _, hb.size⟩
theorem NewGi.drew {w w1 : World} {C : Nat} {t n : Int} {v : Value} (h : NewGi w C t n v w1) : NewGi w C t n v w1.drew := ⟨h.box, h.below.drew, h.c⟩
set_option maxHeartbeats 1000000 in
theorem back_some (w : World) (t n : Int) (g z c : Nat) (L : List Int) (hz : L.length = z) (z0 : 0 < z) (z1 : z ≤ 1000) (h : IntRow w g L) :
    Calls Try.prog 54 #[.agg #[.int .i64 t, .int .i64 n], .slice (some ⟨g, 0, none⟩) z c] w (Backs w t n L) := by
  have H := Lib.hid h
  have HZ := Lib.hid hz
  have B0 : Hid (Box (w.alloc (.cells #[.int .i64 t, .int .i64 n] 28)) w.heap.size #[.int .i64 t, .int .i64 n] 28 ∧ Below w.heap.size w (w.alloc (.cells #[.int .i64 t, .int .i64 n] 28))) := Lib.hid ⟨Box.new _ _ _, (Below.refl _ _).alloc (Nat.le_refl _) _⟩
  clear h hz
  go_enter Try.func54, Try.ntmps54
  go_wp2
  go_region_held3 (fun wx => wx.cell? ⟨w.heap.size, 0, none⟩ = some (.int .i64 t) ∧ wx.cell? ⟨w.heap.size, 1, none⟩ = some (.int .i64 n)) (first | go_keep | exact ⟨(B2.out.alloc _).at 0 rfl, (B2.out.alloc _).at 1 rfl⟩) (first
    | (go_at_call 35; refine (clone_ints _ g z c L HZ.out z0 z1 (IntRow.below (H.out.below B0.out.2) (Below.refl _ _).drew)).mono ?_; rintro e w1 ⟨g', c', rfl, hr⟩; have HR := Lib.hid hr; have B2 := Lib.hid (B0.out.1.drew.below hr.below); have B3 : Hid (Below w.heap.size w w1) := Lib.hid (past B0.out.2.drew hr.below); clear hr; have d0 : w1.cell? ⟨w.heap.size, 0, none⟩ = some (.int .i64 t) := B2.out.at 0 rfl; have d1 : w1.cell? ⟨w.heap.size, 1, none⟩ = some (.int .i64 n) := B2.out.at 1 rfl))
  all_goals
    go_wp2
    go_returns
    have hlt := HR.out.row.lt
    have hg := HR.out.g0
    simp at hg
    exact ⟨_, g', c', rfl, newGi B3.out rfl, HR.out.row.below ((Below.refl _ _).alloc (Nat.le_refl _) _), by omega, by omega, HR.out.c0, HR.out.c1⟩
set_option maxHeartbeats 1000000 in
theorem back_none (w : World) (t n : Int) :
    Calls Try.prog 54 #[.agg #[.int .i64 t, .int .i64 n], .slice none 0 0] w fun e w' => ∃ C, e = .returned (.pointer (some ⟨C, 0, none⟩)) ∧ NewGi w C t n (.slice none 0 0) w' := by
  have B0 : Hid (Box (w.alloc (.cells #[.int .i64 t, .int .i64 n] 28)) w.heap.size #[.int .i64 t, .int .i64 n] 28 ∧ Below w.heap.size w (w.alloc (.cells #[.int .i64 t, .int .i64 n] 28))) := Lib.hid ⟨Box.new _ _ _, (Below.refl _ _).alloc (Nat.le_refl _) _⟩
  go_enter Try.func54, Try.ntmps54
  go_wp2
  go_region_held3 (fun wx => wx.cell? ⟨w.heap.size, 0, none⟩ = some (.int .i64 t) ∧ wx.cell? ⟨w.heap.size, 1, none⟩ = some (.int .i64 n)) (first | go_keep | exact ⟨(B0.out.1.drew.alloc _).at 0 rfl, (B0.out.1.drew.alloc _).at 1 rfl⟩) (first
    | (go_at_call 35; refine (clone_ints_nil _).mono ?_; rintro e w1 ⟨rfl, rfl⟩))
  all_goals
    go_wp2
    go_returns
    exact ⟨_, rfl, (newGi B0.out.2 (by simp)).drew⟩

/-- An entry is struck. -/
theorem Seen.del {w : World} {r c : Nat} {f : Int → Bool} (h : Seen w r c f) {a : Int} (h0 : -9223372036854775808 ≤ a) (h1 : a ≤ 9223372036854775807) (ty : TypeId) :
    ∃ w', (Builtin.delete_ #[31, 3] ty #[.map (some r), .int .i64 a]).run Try.prog w = .ok (.tuple #[]) w' ∧ Seen w' r c (fun x => if x = a then false else f x) ∧ w.grownBy w' (some r) := by
  obtain ⟨D, ho, hm, hd⟩ := h
  obtain ⟨w', hrun, ho', hg⟩ := ho.drop key_law Try.underlying31 (key_of h0 h1) ty
  refine ⟨w', hrun, ⟨_, ho', hm.del _, fun x => ?_⟩, hg.grown⟩
  by_cases hx : x = a
  · subst hx
    rw [Maps.atKey_del_same]
    simp
  · rw [Maps.atKey_del_other (by simpa using hx), hd x]
    simp [hx]
end Go.Proofs.Ytnphnhafifaaoaa.life
