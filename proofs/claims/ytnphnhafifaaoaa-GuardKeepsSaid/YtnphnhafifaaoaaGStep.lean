/- A scan's step: what it returns and leaves, in each of its phases. -/
import Derived.Test.YtnphnhafifaaoaaGEnd
import Derived.Test.YtnphnhafifaaoaaGLook
namespace Go.Proofs.Ytnphnhafifaaoaa.guard
open Go.RowKit mem life

section
variable {W w w' : World} {X Y C r lo : Nat} {t n s : Int} {zs zs' ws L : List Int} {nv gv kv fv tv : Value} {j : Nat}
theorem untold_any (h : Sc W w X Y C t n zs kv fv nv s (.map (some r)) gv) (hc : Cnt w r ws) (hn : Nums w lo nv L) (hl : L.length ≤ 1000) (hL : ∀ x ∈ L, 0 ≤ x ∧ x ≤ 1000) :
    Calls Try.prog 40 #[.pointer (some ⟨C, 0, none⟩)] w (Untold w (untold ws L)) := by
  rcases hn with ⟨rfl, rfl⟩ | ⟨h0, g, c, rfl, _, hrow, hc0, hc1⟩
  · exact untold_none w C ws (h.box.at 4 rfl)
  · exact untold_some w C r g _ c ws L ⟨h.box.at 6 rfl, hc⟩ ⟨_, _, h.box⟩ (h.box.at 4 rfl) hrow rfl h0 hl hL
theorem end_any (h : Sc W w X Y C t n zs (.slice none 0 0) (.slice none 0 0) nv s (.map (some r)) gv) (hc : Cnt w r ws) (hn : Nums w lo nv L) (hl : L.length ≤ 1000) (hL : ∀ x ∈ L, 0 ≤ x ∧ x ≤ 1000) :
    Calls Try.prog 43 #[.pointer (some ⟨C, 0, none⟩)] w fun e w' => e = .returned (.tuple #[]) ∧ Done W X Y C t n zs s gv (told ws L) (untold ws L) w' := by
  rcases hn with ⟨rfl, rfl⟩ | ⟨h0, g, c, rfl, _, hrow, hc0, hc1⟩
  · exact end_none h
  · exact end_some _ c h hc hrow rfl hl hL

/-- No row of numbers is one of these blocks. -/
def Ints (W : World) (X Y C : Nat) : Prop := ∀ g cs, W.heap[g]? = some (.cells cs 3 (0, 0)) → g ≠ X ∧ g ≠ Y ∧ g ≠ C
theorem ints_of (h : Sc W w X Y C t n zs kv fv nv s tv gv) : Ints w X Y C := fun _ _ hg => ⟨(MemS_unlike h.mem hg (by decide) (by decide)).1, (MemS_unlike h.mem hg (by decide) (by decide)).2, unlikeT hg h.box (by decide)⟩
theorem nums_now {lo : Nat} {v : Value} (hi : Ints W X Y C) (h : Sc W w X Y C t n zs kv fv nv s tv gv) (hn : Nums W lo v L) : Nums w lo v L :=
  hn.moved fun g cs _ hg => h.apart.block g (Array.getElem?_eq_some_iff.1 hg).1 (hi g cs hg).1 (hi g cs hg).2.1 (hi g cs hg).2.2
/-- So many slots were looked into. -/
def Looking (W : World) (X Y C : Nat) (t n : Int) (zs L ws : List Int) (w : World) : Prop :=
  ∃ nv tv, Ints W X Y C ∧ Sc W w X Y C t n zs (.slice none 0 0) (.slice none 0 0) nv ws.length tv (.pointer none) ∧ Nums W 0 nv L ∧ Told w W.heap.size tv ws
/-- All were; some of the list are given back, others not yet. -/
def Giving (W : World) (X Y C : Nat) (t n : Int) (zs L ws : List Int) (j D : Nat) (w : World) : Prop :=
  ∃ nv r g c, Ints W X Y C ∧ Sc W w X Y C t n zs (.slice none 0 0) (.slice none 0 0) nv (2 * t) (.map (some r)) (.pointer (some ⟨D, 0, none⟩)) ∧ Nums W 0 nv L ∧ Cnt w r ws ∧ W.heap.size ≤ D ∧
    Box w D (giCells t n (.slice (some ⟨g, j, none⟩) ((untold ws L).length - j) c)) 89 ∧ IntRow w g (untold ws L) ∧ (untold ws L).length - j ≤ c ∧ c ≤ maxLen
/-- The scan has ended. -/
def Over (W : World) (X Y C : Nat) (t n : Int) (zs L ws : List Int) (w : World) : Prop := ∃ gv, Done W X Y C t n zs (2 * t) gv (told ws L) (untold ws L) w

theorem Nums.scan {lo : Nat} {v : Value} (h : Nums w lo v L) (hm : MemS w X Y t n zs) (ha : Apart X Y w w') : Nums w' lo v L := by
  refine h.moved fun g cs _ hg => ?_
  have h1 := MemS_unlike hm hg (by decide) (by decide)
  exact ha.block g (Array.getElem?_eq_some_iff.1 hg).1 h1.1 h1.2
theorem Cnt.scan (h : Cnt w r ws) (hm : MemS w X Y t n zs) (ha : Apart X Y w w') : Cnt w' r ws := by
  obtain ⟨k, l, hm⟩ := hm
  obtain ⟨c, hx⟩ := hm.head
  obtain ⟨ex, hy⟩ := hm.body
  exact h.moved (ha.block r h.lt (Ne.symm (h.unlike hx)) (Ne.symm (h.unlike hy)))
/-- Another's actions. -/
theorem Looking.act (h : Looking W X Y C t n zs L ws w) (hm : MemS w' X Y t n zs') (ha : Apart X Y w w') : Looking W X Y C t n zs' L ws w' := by
  obtain ⟨nv, tv, hi, hsc, hn, ht⟩ := h
  refine ⟨nv, tv, hi, hsc.act hm ha, hn, ?_⟩
  rcases ht with ht | ⟨r, h1, h2, h3⟩
  · exact Or.inl ht
  · exact Or.inr ⟨r, h1, h2, h3.scan hsc.mem ha⟩
theorem IntRow.scan {g : Nat} {U : List Int} (h : IntRow w g U) (hm : MemS w X Y t n zs) (ha : Apart X Y w w') : IntRow w' g U := by
  have hlt := h.lt
  obtain ⟨ex, hb⟩ := h
  have h1 := MemS_unlike hm hb (by decide) (by decide)
  exact ⟨ex, (ha.block g hlt h1.1 h1.2).trans hb⟩
theorem Giving.act {D : Nat} (h : Giving W X Y C t n zs L ws j D w) (hm : MemS w' X Y t n zs') (ha : Apart X Y w w') : Giving W X Y C t n zs' L ws j D w' := by
  obtain ⟨nv, r, g, c, hi, hsc, hn, ht, hD, hb, hrow, h1, h2⟩ := h
  have hd := MemS_unlike hsc.mem hb (by decide) (by decide)
  exact ⟨nv, r, g, c, hi, hsc.act hm ha, hn, ht.scan hsc.mem ha, hD, hb.apart ha hd.1 hd.2, IntRow.scan hrow hsc.mem ha, h1, h2⟩
theorem Over.act (h : Over W X Y C t n zs L ws w) (hm : MemS w' X Y t n zs') (ha : Apart X Y w w') : Over W X Y C t n zs' L ws w' := by
  obtain ⟨gv, kv, fv, hsc, h1, h2⟩ := h
  exact ⟨gv, kv, fv, hsc.act hm ha, h1.scan hsc.mem ha, h2.scan hsc.mem ha⟩

set_option maxHeartbeats 2000000 in
/-- A slot, and others are left. -/
theorem step_look (hs : Sound t n zs) (h : Looking W X Y C t n zs L ws w) (hw : (ws.length : Int) + 1 < 2 * t) :
    Calls Try.prog 22 #[.pointer (some ⟨C, 0, none⟩), .pointer (some ⟨X, 0, none⟩)] w fun e w' => e = .returned (.bool false) ∧ Looking W X Y C t n zs L (ws ++ [slotW n zs ws.length]) w' := by
  obtain ⟨nv, tv, hi, hsc, hn, ht⟩ := h
  have HI := Lib.hid hi
  have HS := Lib.hid hs
  have H0 := Lib.hid hsc
  have HN := Lib.hid hn
  have HT := Lib.hid ht
  have d1 : decide ((ws.length : Int) < 2 * t) = true := decide_eq_true (by omega)
  have d2 : decide ((ws.length : Int) + 1 < 2 * t) = true := decide_eq_true hw
  have HW : Hid ((ws.length : Int) < 2 * t) := Lib.hid (by omega)
  have hlen : ((ws ++ [slotW n zs ws.length]).length : Int) = (ws.length : Int) + 1 := by simp
  have HLN := Lib.hid hlen
  clear hi hs hsc hn ht hw hlen
  go_enter Try.func22, Try.ntmps22
  go_wp2_with (first
    | (go_at_call 38; refine (looks_any W _ X Y C t n _ zs _ _ _ _ _ HS.out H2.out).mono ?_; rintro e w3 ⟨rfl, hb⟩; rw [d2]; have H3 := Lib.hid (H2.out.next hb); have C3 := Lib.hid (C2.out.below hb); clear hb)
    | (go_at_call 39; refine (look_any HS.out tv ws H1.out T1.out HW.out).mono ?_; rintro e w2 ⟨rfl, r, hr, hsc2, hc2⟩; have H2 := Lib.hid hsc2; have C2 := Lib.hid hc2; have HR := Lib.hid hr; clear hsc2 hc2 hr)
    | (go_at_call 38; refine (looks_any W _ X Y C t n _ zs _ _ _ _ _ HS.out H0.out).mono ?_; rintro e w1 ⟨rfl, hb⟩; rw [d1]; have H1 := Lib.hid (H0.out.next hb); have T1 := Lib.hid (HT.out.below hb); clear hb))
  go_returns
  exact ⟨rfl, nv, _, HI.out, by rw [HLN.out]; exact H3.out, HN.out, Or.inr ⟨r, rfl, HR.out, C3.out⟩⟩

set_option maxHeartbeats 2000000 in
/-- The last slot, and there is something to give back. -/
theorem step_last (hs : Sound t n zs) (hl : L.length ≤ 1000) (hL : ∀ x ∈ L, 0 ≤ x ∧ x ≤ 1000) (h : Looking W X Y C t n zs L ws w) (hw : (ws.length : Int) + 1 = 2 * t) (hU : 0 < (untold (ws ++ [slotW n zs ws.length]) L).length) :
    Calls Try.prog 22 #[.pointer (some ⟨C, 0, none⟩), .pointer (some ⟨X, 0, none⟩)] w fun e w' => e = .returned (.bool false) ∧ Looking W X Y C t n zs L (ws ++ [slotW n zs ws.length]) w' := by
  obtain ⟨nv, tv, hi, hsc, hn, ht⟩ := h
  have HI := Lib.hid hi
  have HS := Lib.hid hs
  have H0 := Lib.hid hsc
  have HN := Lib.hid hn
  have HT := Lib.hid ht
  have d1 : decide ((ws.length : Int) < 2 * t) = true := decide_eq_true (by omega)
  have d2 : decide ((ws.length : Int) + 1 < 2 * t) = false := decide_eq_false (by omega)
  have HW : Hid ((ws.length : Int) < 2 * t) := Lib.hid (by omega)
  have hlen : ((ws ++ [slotW n zs ws.length]).length : Int) = (ws.length : Int) + 1 := by simp
  have HLN := Lib.hid hlen
  have HLL : Hid (L.length ≤ 1000 ∧ ∀ x ∈ L, 0 ≤ x ∧ x ≤ 1000) := Lib.hid ⟨hl, hL⟩
  have hUi : (0 : Int) < ((untold (ws ++ [slotW n zs ws.length]) L).length : Int) := by omega
  clear hi hs hsc hn ht hw hlen hl hL
  go_enter Try.func22, Try.ntmps22
  go_wp2_with (first
    | (go_at_call 40; refine (untold_any H3.out C3.out (nums_now HI.out H3.out HN.out) HLL.out.1 HLL.out.2).mono ?_; rintro e w4 ⟨v4, rfl, ⟨a4, c4, rfl, _⟩, hb⟩; have H4 := Lib.hid (H3.out.next hb); have C4 := Lib.hid (C3.out.below hb); clear hb)
    | (go_at_call 38; refine (looks_any W _ X Y C t n _ zs _ _ _ _ _ HS.out H2.out).mono ?_; rintro e w3 ⟨rfl, hb⟩; rw [d2]; have H3 := Lib.hid (H2.out.next hb); have C3 := Lib.hid (C2.out.below hb); clear hb)
    | (go_at_call 39; refine (look_any HS.out tv ws H1.out T1.out HW.out).mono ?_; rintro e w2 ⟨rfl, r, hr, hsc2, hc2⟩; have H2 := Lib.hid hsc2; have C2 := Lib.hid hc2; have HR := Lib.hid hr; clear hsc2 hc2 hr)
    | (go_at_call 38; refine (looks_any W _ X Y C t n _ zs _ _ _ _ _ HS.out H0.out).mono ?_; rintro e w1 ⟨rfl, hb⟩; rw [d1]; have H1 := Lib.hid (H0.out.next hb); have T1 := Lib.hid (HT.out.below hb); clear hb))
  go_returns
  exact ⟨rfl, nv, _, HI.out, by rw [HLN.out]; exact H4.out, HN.out, Or.inr ⟨r, rfl, HR.out, C4.out⟩⟩

set_option maxHeartbeats 2000000 in
/-- The last slot, and there is nothing to give back. -/
theorem step_end (hs : Sound t n zs) (hl : L.length ≤ 1000) (hL : ∀ x ∈ L, 0 ≤ x ∧ x ≤ 1000) (h : Looking W X Y C t n zs L ws w) (hw : (ws.length : Int) + 1 = 2 * t) (hU : (untold (ws ++ [slotW n zs ws.length]) L).length = 0) :
    Calls Try.prog 22 #[.pointer (some ⟨C, 0, none⟩), .pointer (some ⟨X, 0, none⟩)] w fun e w' => e = .returned (.bool true) ∧ Over W X Y C t n zs L (ws ++ [slotW n zs ws.length]) w' := by
  obtain ⟨nv, tv, hi, hsc, hn, ht⟩ := h
  have HI := Lib.hid hi
  have HS := Lib.hid hs
  have H0 := Lib.hid hsc
  have HN := Lib.hid hn
  have HT := Lib.hid ht
  have d1 : decide ((ws.length : Int) < 2 * t) = true := decide_eq_true (by omega)
  have d2 : decide ((ws.length : Int) + 1 < 2 * t) = false := decide_eq_false (by omega)
  have HW : Hid ((ws.length : Int) < 2 * t) := Lib.hid (by omega)
  have HLL : Hid (L.length ≤ 1000 ∧ ∀ x ∈ L, 0 ≤ x ∧ x ≤ 1000) := Lib.hid ⟨hl, hL⟩
  have HWE := Lib.hid hw
  clear hi hs hsc hn ht hw hl hL
  go_enter Try.func22, Try.ntmps22
  go_wp2_with (first
    | (go_at_call 43; refine (end_any H4.out C4.out (nums_now HI.out H4.out HN.out) HLL.out.1 HLL.out.2).mono ?_; rintro e w5 ⟨rfl, hd⟩; rw [HWE.out] at hd; have H5 := Lib.hid hd; clear hd)
    | (go_at_call 40; refine (untold_any H3.out C3.out (nums_now HI.out H3.out HN.out) HLL.out.1 HLL.out.2).mono ?_; rintro e w4 ⟨v4, rfl, ⟨a4, c4, rfl, _⟩, hb⟩; rw [hU]; have H4 := Lib.hid (H3.out.next hb); have C4 := Lib.hid (C3.out.below hb); clear hb)
    | (go_at_call 38; refine (looks_any W _ X Y C t n _ zs _ _ _ _ _ HS.out H2.out).mono ?_; rintro e w3 ⟨rfl, hb⟩; rw [d2]; have H3 := Lib.hid (H2.out.next hb); have C3 := Lib.hid (C2.out.below hb); clear hb)
    | (go_at_call 39; refine (look_any HS.out tv ws H1.out T1.out HW.out).mono ?_; rintro e w2 ⟨rfl, r, hr, hsc2, hc2⟩; have H2 := Lib.hid hsc2; have C2 := Lib.hid hc2; have HR := Lib.hid hr; clear hsc2 hc2 hr)
    | (go_at_call 38; refine (looks_any W _ X Y C t n _ zs _ _ _ _ _ HS.out H0.out).mono ?_; rintro e w1 ⟨rfl, hb⟩; rw [d1]; have H1 := Lib.hid (H0.out.next hb); have T1 := Lib.hid (HT.out.below hb); clear hb))
  go_returns
  exact ⟨rfl, _, H5.out⟩
end
end Go.Proofs.Ytnphnhafifaaoaa.guard
