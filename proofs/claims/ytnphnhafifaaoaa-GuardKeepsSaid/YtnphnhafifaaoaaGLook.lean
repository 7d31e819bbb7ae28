/- A machine that scans looks into the next slot. -/
import Derived.Test.YtnphnhafifaaoaaGScan
namespace Go.Proofs.Ytnphnhafifaaoaa.guard
open Go.RowKit mem life

/-- What a look leaves: one slot more was told. -/
def Looked (W : World) (X Y C : Nat) (t n : Int) (zs : List Int) (nv : Value) (ws : List Int) (e : Ending) (w' : World) : Prop :=
  e = .returned (.tuple #[]) ∧ ∃ r, W.heap.size ≤ r ∧ Sc W w' X Y C t n zs (.slice none 0 0) (.slice none 0 0) nv ((ws.length : Int) + 1) (.map (some r)) (.pointer none) ∧ Cnt w' r (ws ++ [slotW n zs ws.length])

theorem Cnt_apart {w : World} {X Y C r : Nat} {t n : Int} {zs ws : List Int} {cs : Array Value} {T : TypeId} (hm : MemS w X Y t n zs) (hb : Box w C cs T) (hc : Cnt w r ws) : r ≠ X ∧ r ≠ Y ∧ C ≠ r := by
  obtain ⟨k, l, hm⟩ := hm
  obtain ⟨c, hx⟩ := hm.head
  obtain ⟨ex, hy⟩ := hm.body
  exact ⟨Ne.symm (hc.unlike hx), Ne.symm (hc.unlike hy), hc.unlike hb⟩
section
variable {W w : World} {X Y C : Nat} {t n : Int} {zs : List Int} {nv : Value}
set_option maxHeartbeats 2000000 in
theorem look_more (hs : Sound t n zs) (r : Nat) (ws : List Int) (hr : W.heap.size ≤ r) (h : Sc W w X Y C t n zs (.slice none 0 0) (.slice none 0 0) nv ws.length (.map (some r)) (.pointer none)) (hc : Cnt w r ws) (hw : (ws.length : Int) < 2 * t) :
    Calls Try.prog 39 #[.pointer (some ⟨C, 0, none⟩), .pointer (some ⟨X, 0, none⟩)] w (Looked W X Y C t n zs nv ws) := by
  obtain ⟨z, hz⟩ : ∃ z, z = slotW n zs ws.length := ⟨_, rfl⟩
  have hzr : 0 ≤ z ∧ z < 18446744073709551616 := by rw [hz]; exact hs.word _
  obtain ⟨s, hsl⟩ : ∃ s : Int, s = (ws.length : Int) := ⟨_, rfl⟩
  obtain ⟨q, hq⟩ : ∃ q : Int, q = (ws.count z : Int) := ⟨_, rfl⟩
  have hq0 : 0 ≤ q ∧ q ≤ 1000 := by have := List.count_le_length (a := z) (l := ws); have := hs.t1; omega
  have hsr : 0 ≤ s ∧ s ≤ 16 := by have := hs.t1; omega
  have n0 := hs.n0
  have n1 := hs.n1
  unfold Looked
  rw [← hz]
  rw [← hsl] at h hz
  rw [← hsl]
  obtain ⟨c0, c1, c2, c3, c4, c5, c6, c7, fz⟩ := row8 h.box
  have HZ := Lib.hid hz
  have HSL := Lib.hid hsl
  have HQ := Lib.hid hq
  have HH := Lib.hid h
  have HC := Lib.hid hc
  have HR := Lib.hid hr
  have HZR := Lib.hid hzr
  have hwl : Hid (ws.length ≤ 1000) := by show _ ≤ _; have := hs.t1; omega
  have RX : Hid (r ≠ X ∧ r ≠ Y ∧ C ≠ r) := Lib.hid (Cnt_apart h.mem h.box hc)
  have hqw : IntKind.i64.wrap (q + 1) = q + 1 := IntWalk.i64_in _ (by omega)
  obtain ⟨q0, q1⟩ := hq0
  obtain ⟨s0, s1⟩ := hsr
  clear hz hsl hq h hc hr hzr c2 c3 c4 c7 hs hw
  go_enter Try.func39, Try.ntmps39
  have hmn : ∀ (w : World) (r : Nat), (binOp .eql 46 (.map (some r)) (.map none)).run Try.prog w = .ok (.bool false) w := fun w r => by kernel_rfl
  go_wp2
  go_region_held3 (fun wx => wx.cell? ⟨C, 0, none⟩ = some (.int .i64 t) ∧ wx.cell? ⟨C, 1, none⟩ = some (.int .i64 n) ∧ wx.cell? ⟨C, 5, none⟩ = some (.int .i64 s) ∧ wx.cell? ⟨C, 6, none⟩ = some (.map (some r)) ) (first | exact ⟨H3.out.box.at 0 rfl, H3.out.box.at 1 rfl, H3.out.box.at 5 rfl, H3.out.box.at 6 rfl⟩ | exact ⟨H2.out.box.at 0 rfl, H2.out.box.at 1 rfl, H2.out.box.at 5 rfl, H2.out.box.at 6 rfl⟩ | exact ⟨H1.out.box.at 0 rfl, H1.out.box.at 1 rfl, H1.out.box.at 5 rfl, H1.out.box.at 6 rfl⟩ | go_keep) (first
    | (go_at_call 51; refine (Load_s H1.out.mem (slotA n s) z HZ.out.symm).mono ?_; rintro e w2 ⟨rfl, hm2, ha2⟩; have H2 := Lib.hid (H1.out.act hm2 ha2); have C2 : Hid (Cnt w2 r ws) := Lib.hid (C1.out.moved (ha2.block r C1.out.lt RX.out.1 RX.out.2.1)); clear hm2 ha2; have hl2 : (Instr.lookup 46 (.map (some r)) (.int .u64 z) false).run Try.prog w2 = .ok (.int .i64 q) w2 := (by rw [HQ.out]; exact C2.out.look HZR.out.1 HZR.out.2); obtain ⟨w3, hrun, hc3, hg3⟩ := C2.out.put hwl.out HZR.out.1 HZR.out.2; rw [← HQ.out] at hrun; have C3 := Lib.hid hc3; have H3 := Lib.hid (H2.out.grown hg3 HR.out (Ne.symm RX.out.1) (Ne.symm RX.out.2.1) RX.out.2.2); clear hc3 hg3)
    | (go_at_call 32; refine (slotAt_any _ t n s (by omega) (by omega) (by omega) (by omega)).mono ?_; rintro e w1 ⟨rfl, hb1⟩; have H1 := Lib.hid (HH.out.drew.next hb1); have C1 := Lib.hid ((HC.out.below (w' := w.drew) ((Below.refl _ _).drew)).below hb1); clear hb1))
  all_goals
    have d5 : w3.cell? ⟨C, 5, none⟩ = some (.int .i64 s) := H3.out.box.at 5 rfl
    have df := H3.out.box.free
    clear hrun hmn
    go_wp2
    go_returns
    refine ⟨rfl, r, HR.out, H3.out.put 5 _ rfl, ?_⟩
    rw [← HSL.out] at *
    exact C3.out.moved (Below.heap_setCell _ _ _ _ (Ne.symm RX.out.2.2))
set_option maxHeartbeats 2000000 in
theorem look_first (hs : Sound t n zs) (h : Sc W w X Y C t n zs (.slice none 0 0) (.slice none 0 0) nv 0 (.map none) (.pointer none)) :
    Calls Try.prog 39 #[.pointer (some ⟨C, 0, none⟩), .pointer (some ⟨X, 0, none⟩)] w (Looked W X Y C t n zs nv []) := by
  obtain ⟨z, hz⟩ : ∃ z, z = slotW n zs 0 := ⟨_, rfl⟩
  have hzr : 0 ≤ z ∧ z < 18446744073709551616 := by rw [hz]; exact hs.word _
  have n0 := hs.n0
  have n1 := hs.n1
  unfold Looked
  simp only [List.length_nil, Int.natCast_zero]
  rw [← hz]
  obtain ⟨c0, c1, c2, c3, c4, c5, c6, c7, fz⟩ := row8 h.box
  have HZ := Lib.hid hz
  have HZR := Lib.hid hzr
  have HR : Hid (W.heap.size ≤ w.heap.size) := Lib.hid h.apart.size
  have hU : Sc W ((w.alloc (.map #[] 0)).setCell ⟨C, 6, none⟩ (.map (some w.heap.size))) X Y C t n zs (.slice none 0 0) (.slice none 0 0) nv 0 (.map (some w.heap.size)) (.pointer none) := (h.alloc _).put 6 _ rfl
  have hC : Cnt ((w.alloc (.map #[] 0)).setCell ⟨C, 6, none⟩ (.map (some w.heap.size))) w.heap.size [] := (Cnt.new w rfl).moved (Below.heap_setCell _ _ _ _ (by have := h.box.lt; show w.heap.size ≠ C; omega))
  have f6 : (w.alloc (.map #[] 0)).frozen? ⟨C, 6, none⟩ = false := (h.alloc _).box.free 6
  have k6 : (w.alloc (.map #[] 0)).cell? ⟨C, 6, none⟩ = some (.map none) := (h.alloc _).box.at 6 rfl
  have HU := Lib.hid hU
  have HCN := Lib.hid hC
  have RX : Hid (w.heap.size ≠ X ∧ w.heap.size ≠ Y ∧ C ≠ w.heap.size) := Lib.hid (Cnt_apart hU.mem hU.box hC)
  have hne : C ≠ w.heap.size := RX.out.2.2
  clear hU hC hz h hzr c2 c3 c4 c7 hs
  have hqw : IntKind.i64.wrap 1 = 1 := by decide
  go_enter Try.func39, Try.ntmps39
  have hmn : ∀ (w : World), (binOp .eql 46 (.map none) (.map none)).run Try.prog w = .ok (.bool true) w := fun w => by kernel_rfl
  have hmm := @run_makeMap Try.prog
  go_wp2
  clear hmm hmn f6 k6
  generalize hu : (w.alloc (.map #[] 0)).setCell ⟨C, 6, none⟩ (.map (some w.heap.size)) = u at *
  generalize hr : w.heap.size = r at *
  clear hu c0 c1 c5 c6 fz
  have c0 : u.cell? ⟨C, 0, none⟩ = some (.int .i64 t) := HU.out.box.at 0 rfl
  have c1 : u.cell? ⟨C, 1, none⟩ = some (.int .i64 n) := HU.out.box.at 1 rfl
  have c5 : u.cell? ⟨C, 5, none⟩ = some (.int .i64 0) := HU.out.box.at 5 rfl
  have c6 : u.cell? ⟨C, 6, none⟩ = some (.map (some r)) := HU.out.box.at 6 rfl
  go_region_held3 (fun wx => wx.cell? ⟨C, 0, none⟩ = some (.int .i64 t) ∧ wx.cell? ⟨C, 1, none⟩ = some (.int .i64 n) ∧ wx.cell? ⟨C, 5, none⟩ = some (.int .i64 0) ∧ wx.cell? ⟨C, 6, none⟩ = some (.map (some r))) (first | exact ⟨H3.out.box.at 0 rfl, H3.out.box.at 1 rfl, H3.out.box.at 5 rfl, H3.out.box.at 6 rfl⟩ | exact ⟨H2.out.box.at 0 rfl, H2.out.box.at 1 rfl, H2.out.box.at 5 rfl, H2.out.box.at 6 rfl⟩ | exact ⟨H1.out.box.at 0 rfl, H1.out.box.at 1 rfl, H1.out.box.at 5 rfl, H1.out.box.at 6 rfl⟩ | go_keep) (first
    | (go_at_call 51; refine (Load_s H1.out.mem (slotA n 0) z HZ.out.symm).mono ?_; rintro e w2 ⟨rfl, hm2, ha2⟩; have H2 := Lib.hid (H1.out.act hm2 ha2); have C2 : Hid (Cnt w2 r []) := Lib.hid (C1.out.moved (ha2.block r C1.out.lt RX.out.1 RX.out.2.1)); clear hm2 ha2; have hl2 : (Instr.lookup 46 (.map (some r)) (.int .u64 z) false).run Try.prog w2 = .ok (.int .i64 0) w2 := C2.out.look HZR.out.1 HZR.out.2; obtain ⟨w3, hrun, hc3, hg3⟩ := C2.out.put (by simp) HZR.out.1 HZR.out.2; have C3 := Lib.hid hc3; have H3 := Lib.hid (H2.out.grown hg3 HR.out (Ne.symm RX.out.1) (Ne.symm RX.out.2.1) RX.out.2.2); clear hc3 hg3; simp only [List.count_nil, Int.natCast_zero, Int.zero_add] at hrun)
    | (go_at_call 32; refine (slotAt_any _ t n 0 (by omega) (by omega) (by omega) (by omega)).mono ?_; rintro e w1 ⟨rfl, hb1⟩; have H1 := Lib.hid (HU.out.drew.next hb1); have C1 := Lib.hid ((HCN.out.below (w' := u.drew) ((Below.refl _ _).drew)).below hb1); clear hb1))
  all_goals
    have d5 : w3.cell? ⟨C, 5, none⟩ = some (.int .i64 0) := H3.out.box.at 5 rfl
    have df := H3.out.box.free
    clear hrun
    go_wp2
    go_returns
    refine ⟨rfl, r, HR.out, H3.out.put 5 _ rfl, ?_⟩
    exact C3.out.moved (Below.heap_setCell _ _ _ _ (Ne.symm RX.out.2.2))
theorem look_any (hs : Sound t n zs) (tv : Value) (ws : List Int) (h : Sc W w X Y C t n zs (.slice none 0 0) (.slice none 0 0) nv ws.length tv (.pointer none)) (hT : Told w W.heap.size tv ws) (hw : (ws.length : Int) < 2 * t) :
    Calls Try.prog 39 #[.pointer (some ⟨C, 0, none⟩), .pointer (some ⟨X, 0, none⟩)] w (Looked W X Y C t n zs nv ws) := by
  rcases hT with ⟨rfl, rfl⟩ | ⟨r, rfl, hr, hc⟩
  · exact look_first hs h
  · exact look_more hs r ws hr h hc hw
end
end Go.Proofs.Ytnphnhafifaaoaa.guard
