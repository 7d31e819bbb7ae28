/- A machine that takes a node: its step. -/
import Derived.Test.YtglkpajnhdamkaaLOver
import Derived.Test.YtglkpajnhdamkaaMSome
import Derived.Deep.RegionHeld3
namespace Go.Proofs.Ytglkpajnhdamkaa.life
open Go.RowKit mem

/-- What a step leaves. -/
structure Did (w : World) (X Y C : Nat) (t n : Int) (zs : List Int) (a : Al) (w' : World) : Prop where
  mem : MemS w' X Y t n zs
  box : Box w' C (alCells t n a) 39
  apart : Apart3 X Y C w w'
theorem Apart3.ofC {w w' : World} {X Y C : Nat} (h : Apart C C w w') : Apart3 X Y C w w' := ⟨h.os, h.tape, h.output, h.size, fun b hb _ _ hc => h.block b hb hc hc⟩
theorem keptC {w w' : World} {X Y C : Nat} {t n : Int} {zs : List Int} (h : MemS w X Y t n zs) (ha : Apart C C w w') (hx : C ≠ X) (hy : C ≠ Y) : MemS w' X Y t n zs :=
  h.moved (ha.block X h.ltX (Ne.symm hx) (Ne.symm hx)) (ha.block Y h.ltY (Ne.symm hy) (Ne.symm hy))
section
variable {w : World} {X Y C : Nat} {t n got node left life : Int} {free : Bool} {zs : List Int}
set_option maxHeartbeats 1000000 in
theorem step_over (hm : MemS w X Y t n zs) (hb : Box w C (alCells t n ⟨got, node, left, free, life⟩) 39) (cx : C ≠ X) (cy : C ≠ Y) (l0 : left ≤ 0) :
    Calls Try.prog 19 #[.pointer (some ⟨C, 0, none⟩), .pointer (some ⟨X, 0, none⟩)] w fun e w' => e = .returned (.bool true) ∧ Did w X Y C t n zs ⟨got, node, left, free, life⟩ w' := by
  obtain ⟨c0, c1, c2, c3, c4, c5, c6, f⟩ := row7 hb
  have HM := Lib.hid hm
  have HB := Lib.hid hb
  clear hm hb
  go_enter Try.func19, Try.ntmps19
  go_wp2_with (go_at_call 33; refine (Load_s HM.out 0 _ rfl).mono ?_; rintro e w1 ⟨rfl, hm1, ha1⟩; have M1 := Lib.hid hm1; have A1 := Lib.hid ha1; clear hm1 ha1)
  go_returns
  exact ⟨rfl, M1.out, HB.out.apart A1.out cx cy, Apart3.of A1.out⟩

set_option maxHeartbeats 1000000 in
theorem take_hit (hm : MemS w X Y t n zs) (hb : Box w C (alCells t n ⟨got, node, left, free, life⟩) 39) (cx : C ≠ X) (cy : C ≠ Y) (h0 : 1 ≤ node) (h1 : node ≤ n) (h2 : n ≤ 300) (hi : inB zs (n + 4 + node) = true) (hl : wordAt zs (n + 4 + node) = life) :
    Calls Try.prog 34 #[.pointer (some ⟨C, 0, none⟩), .pointer (some ⟨X, 0, none⟩)] w fun e w' => e = .returned (.bool true) ∧ Did w X Y C t n (setAt zs (n + 4 + node) (IntKind.u64.wrap (life + 1))) ⟨node, node, 0, free, life⟩ w' := by
  obtain ⟨c0, c1, c2, c3, c4, c5, c6, f⟩ := row7 hb
  have HM := Lib.hid hm
  have HB := Lib.hid hb
  have HI := Lib.hid hi
  have HL := Lib.hid hl
  clear hm hb hi hl
  go_enter Try.func34, Try.ntmps34
  go_wp2
  go_region_held3 (fun wx => wx.cell? ⟨C, 0, none⟩ = some (.int .i64 t) ∧ wx.cell? ⟨C, 1, none⟩ = some (.int .i64 n) ∧ wx.cell? ⟨C, 3, none⟩ = some (.int .i64 node) ∧ wx.cell? ⟨C, 6, none⟩ = some (.int .u64 life)) (go_keep) (first
    | (go_at_call 11; refine (Life_any _ t n node (by omega) h2 (by omega) (by omega)).mono ?_; rintro e w1 ⟨rfl, hb1⟩; have M1 := Lib.hid (HM.out.drew.below hb1); have B1 := Lib.hid (HB.out.drew.below hb1); have A1 : Hid (Apart3 X Y C w w1) := Lib.hid (Apart3.of ((Apart.refl w).drew.trans (Apart.ofBelow hb1))); clear hb1; obtain ⟨d0, d1, d2, d3, d4, d5, d6, f1⟩ := row7 B1.out)
    | (go_at_call 44; refine (hit_s M1.out (n + 4 + node) life _ HI.out HL.out).mono ?_; rintro e w2 ⟨rfl, hm2, ha2⟩; have M2 := Lib.hid hm2; have B2 := Lib.hid (B1.out.apart ha2 cx cy); have A2 : Hid (Apart3 X Y C w w2) := Lib.hid (A1.out.trans (Apart3.of ha2)); clear hm2 ha2; obtain ⟨e0, e1, e2, e3, e4, e5, e6, f2⟩ := row7 B2.out))
  all_goals
    go_wp2
    go_returns
    exact ⟨rfl, (M2.out.other cx cy _ _).other cx cy _ _, (B2.out.put 2 _).put 4 _, (A2.out.put 2 _).put 4 _⟩

set_option maxHeartbeats 1000000 in
theorem take_miss (hm : MemS w X Y t n zs) (hb : Box w C (alCells t n ⟨got, node, left, free, life⟩) 39) (cx : C ≠ X) (cy : C ≠ Y) (h0 : 1 ≤ node) (h1 : node ≤ n) (h2 : n ≤ 300) (l0 : 0 < left) (l1 : left ≤ 300) (hl : wordAt zs (n + 4 + node) ≠ life) :
    Calls Try.prog 34 #[.pointer (some ⟨C, 0, none⟩), .pointer (some ⟨X, 0, none⟩)] w fun e w' => e = .returned (.bool (left - 1 == 0)) ∧ Did w X Y C t n zs ⟨got, nextNode n node, left - 1, false, life⟩ w' := by
  obtain ⟨c0, c1, c2, c3, c4, c5, c6, f⟩ := row7 hb
  have HM := Lib.hid hm
  have HB := Lib.hid hb
  have HL := Lib.hid hl
  clear hm hb hl
  go_enter Try.func34, Try.ntmps34
  go_wp2
  go_region_held3 (fun wx => wx.cell? ⟨C, 0, none⟩ = some (.int .i64 t) ∧ wx.cell? ⟨C, 1, none⟩ = some (.int .i64 n) ∧ wx.cell? ⟨C, 3, none⟩ = some (.int .i64 node) ∧ wx.cell? ⟨C, 6, none⟩ = some (.int .u64 life)) (go_keep) (first
    | (go_at_call 11; refine (Life_any _ t n node (by omega) h2 (by omega) (by omega)).mono ?_; rintro e w1 ⟨rfl, hb1⟩; have M1 := Lib.hid (HM.out.drew.below hb1); have B1 := Lib.hid (HB.out.drew.below hb1); have A1 : Hid (Apart3 X Y C w w1) := Lib.hid (Apart3.of ((Apart.refl w).drew.trans (Apart.ofBelow hb1))); clear hb1; obtain ⟨d0, d1, d2, d3, d4, d5, d6, f1⟩ := row7 B1.out)
    | (go_at_call 44; refine (miss_s M1.out (n + 4 + node) life _ HL.out).mono ?_; rintro e w2 ⟨rfl, hm2, ha2⟩; have M2 := Lib.hid hm2; have B2 := Lib.hid (B1.out.apart ha2 cx cy); have A2 : Hid (Apart3 X Y C w w2) := Lib.hid (A1.out.trans (Apart3.of ha2)); clear hm2 ha2; obtain ⟨e0, e1, e2, e3, e4, e5, e6, f2⟩ := row7 B2.out))
  all_goals
    go_wp2_with (go_at_call 36; refine (goOver_any B2.out h0 h1 h2 l0 l1).mono ?_; rintro e w3 ⟨rfl, hb3, ha3⟩; have B3 := Lib.hid hb3; have M3 := Lib.hid (keptC M2.out ha3 cx cy); have A3 : Hid (Apart3 X Y C w w3) := Lib.hid (A2.out.trans (Apart3.ofC ha3)); clear hb3 ha3)
    go_returns
    exact ⟨rfl, M3.out, B3.out, A3.out⟩

set_option maxHeartbeats 1000000 in
theorem step_hit (hm : MemS w X Y t n zs) (hb : Box w C (alCells t n ⟨got, node, left, true, life⟩) 39) (cx : C ≠ X) (cy : C ≠ Y) (h0 : 1 ≤ node) (h1 : node ≤ n) (h2 : n ≤ 300) (l0 : 0 < left) (hi : inB zs (n + 4 + node) = true) (hl : wordAt zs (n + 4 + node) = life) :
    Calls Try.prog 19 #[.pointer (some ⟨C, 0, none⟩), .pointer (some ⟨X, 0, none⟩)] w fun e w' => e = .returned (.bool true) ∧ Did w X Y C t n (setAt zs (n + 4 + node) (IntKind.u64.wrap (life + 1))) ⟨node, node, 0, true, life⟩ w' := by
  obtain ⟨c0, c1, c2, c3, c4, c5, c6, f⟩ := row7 hb
  have HM := Lib.hid hm
  have HB := Lib.hid hb
  have HI := Lib.hid hi
  have HL := Lib.hid hl
  clear hm hb hi hl
  go_enter Try.func19, Try.ntmps19
  go_wp2_with (go_at_call 34; refine (take_hit HM.out HB.out cx cy h0 h1 h2 HI.out HL.out).mono ?_; rintro e w1 ⟨rfl, hd⟩; have HD := Lib.hid hd; clear hd)
  go_returns
  exact ⟨rfl, HD.out⟩
set_option maxHeartbeats 1000000 in
theorem step_miss (hm : MemS w X Y t n zs) (hb : Box w C (alCells t n ⟨got, node, left, true, life⟩) 39) (cx : C ≠ X) (cy : C ≠ Y) (h0 : 1 ≤ node) (h1 : node ≤ n) (h2 : n ≤ 300) (l0 : 0 < left) (l1 : left ≤ 300) (hl : wordAt zs (n + 4 + node) ≠ life) :
    Calls Try.prog 19 #[.pointer (some ⟨C, 0, none⟩), .pointer (some ⟨X, 0, none⟩)] w fun e w' => e = .returned (.bool (left - 1 == 0)) ∧ Did w X Y C t n zs ⟨got, nextNode n node, left - 1, false, life⟩ w' := by
  obtain ⟨c0, c1, c2, c3, c4, c5, c6, f⟩ := row7 hb
  have HM := Lib.hid hm
  have HB := Lib.hid hb
  have HL := Lib.hid hl
  clear hm hb hl
  go_enter Try.func19, Try.ntmps19
  go_wp2_with (go_at_call 34; refine (take_miss HM.out HB.out cx cy h0 h1 h2 l0 l1 HL.out).mono ?_; rintro e w1 ⟨rfl, hd⟩; have HD := Lib.hid hd; clear hd)
  go_returns
  exact ⟨rfl, HD.out⟩

set_option maxHeartbeats 1000000 in
theorem step_odd (hm : MemS w X Y t n zs) (hb : Box w C (alCells t n ⟨got, node, left, false, life⟩) 39) (cx : C ≠ X) (cy : C ≠ Y) (h0 : 1 ≤ node) (h1 : node ≤ n) (h2 : n ≤ 300) (l0 : 0 < left) (l1 : left ≤ 300) (z : Int) (z0 : 0 ≤ z) (hz : wordAt zs (n + 4 + node) = z) (ho : (z % 2 == 1) = true) :
    Calls Try.prog 19 #[.pointer (some ⟨C, 0, none⟩), .pointer (some ⟨X, 0, none⟩)] w fun e w' => e = .returned (.bool (left - 1 == 0)) ∧ Did w X Y C t n zs ⟨got, nextNode n node, left - 1, false, z⟩ w' := by
  obtain ⟨c0, c1, c2, c3, c4, c5, c6, f⟩ := row7 hb
  have HM := Lib.hid hm
  have HB := Lib.hid hb
  have HZ := Lib.hid hz
  have HO := Lib.hid ho
  clear hm hb hz ho
  go_enter Try.func19, Try.ntmps19
  go_wp2
  go_region_held3 (fun wx => wx.cell? ⟨C, 0, none⟩ = some (.int .i64 t) ∧ wx.cell? ⟨C, 1, none⟩ = some (.int .i64 n) ∧ wx.cell? ⟨C, 3, none⟩ = some (.int .i64 node)) (first | go_keep | exact ⟨(row7 (t := t) (n := n) (got := got) (node := node) (left := left) (free := false) (life := z) (B2.out.put 6 _)).c0, (row7 (t := t) (n := n) (got := got) (node := node) (left := left) (free := false) (life := z) (B2.out.put 6 _)).c1, (row7 (t := t) (n := n) (got := got) (node := node) (left := left) (free := false) (life := z) (B2.out.put 6 _)).c3⟩) (first
    | (go_at_call 11; refine (Life_any _ t n node (by omega) h2 (by omega) (by omega)).mono ?_; rintro e w1 ⟨rfl, hb1⟩; have M1 := Lib.hid (HM.out.drew.below hb1); have B1 := Lib.hid (HB.out.drew.below hb1); have A1 : Hid (Apart3 X Y C w w1) := Lib.hid (Apart3.of ((Apart.refl w).drew.trans (Apart.ofBelow hb1))); clear hb1; obtain ⟨d0, d1, d2, d3, d4, d5, d6, f1⟩ := row7 B1.out)
    | (go_at_call 33; refine (Load_s M1.out (n + 4 + node) z HZ.out).mono ?_; rintro e w2 ⟨rfl, hm2, ha2⟩; have M2 := Lib.hid hm2; have B2 := Lib.hid (B1.out.apart ha2 cx cy); have A2 : Hid (Apart3 X Y C w w2) := Lib.hid (A1.out.trans (Apart3.of ha2)); clear hm2 ha2; obtain ⟨e0, e1, e2, e3, e4, e5, e6, f2⟩ := row7 B2.out))
  all_goals
    go_wp2_with (first
      | (go_at_call 35; refine (odd_any _ z z0).mono ?_; rintro e w3 ⟨rfl, rfl⟩; rw [HO.out])
      | (go_at_call 36; refine (goOver_any (got := got) (node := node) (left := left) (free := false) (life := z) (B2.out.put 6 (.int .u64 z)) h0 h1 h2 l0 l1).mono ?_; rintro e w3 ⟨rfl, hb3, ha3⟩; have B3 := Lib.hid hb3; have M3 := Lib.hid (keptC (M2.out.other cx cy _ _) ha3 cx cy); have A3 : Hid (Apart3 X Y C w w3) := Lib.hid ((A2.out.put 6 _).trans (Apart3.ofC ha3)); clear hb3 ha3))
    go_returns
    exact ⟨rfl, M3.out, B3.out, A3.out⟩

set_option maxHeartbeats 1000000 in
theorem step_even (hm : MemS w X Y t n zs) (hb : Box w C (alCells t n ⟨got, node, left, false, life⟩) 39) (cx : C ≠ X) (cy : C ≠ Y) (h0 : 1 ≤ node) (h1 : node ≤ n) (h2 : n ≤ 300) (l0 : 0 < left) (z : Int) (z0 : 0 ≤ z) (hz : wordAt zs (n + 4 + node) = z) (ho : (z % 2 == 1) = false) :
    Calls Try.prog 19 #[.pointer (some ⟨C, 0, none⟩), .pointer (some ⟨X, 0, none⟩)] w fun e w' => e = .returned (.bool false) ∧ Did w X Y C t n zs ⟨got, node, left, true, z⟩ w' := by
  obtain ⟨c0, c1, c2, c3, c4, c5, c6, f⟩ := row7 hb
  have HM := Lib.hid hm
  have HB := Lib.hid hb
  have HZ := Lib.hid hz
  have HO := Lib.hid ho
  clear hm hb hz ho
  go_enter Try.func19, Try.ntmps19
  go_wp2
  go_region_held3 (fun wx => wx.cell? ⟨C, 0, none⟩ = some (.int .i64 t) ∧ wx.cell? ⟨C, 1, none⟩ = some (.int .i64 n) ∧ wx.cell? ⟨C, 3, none⟩ = some (.int .i64 node)) (first | go_keep | exact ⟨(row7 (t := t) (n := n) (got := got) (node := node) (left := left) (free := false) (life := z) (B2.out.put 6 _)).c0, (row7 (t := t) (n := n) (got := got) (node := node) (left := left) (free := false) (life := z) (B2.out.put 6 _)).c1, (row7 (t := t) (n := n) (got := got) (node := node) (left := left) (free := false) (life := z) (B2.out.put 6 _)).c3⟩) (first
    | (go_at_call 11; refine (Life_any _ t n node (by omega) h2 (by omega) (by omega)).mono ?_; rintro e w1 ⟨rfl, hb1⟩; have M1 := Lib.hid (HM.out.drew.below hb1); have B1 := Lib.hid (HB.out.drew.below hb1); have A1 : Hid (Apart3 X Y C w w1) := Lib.hid (Apart3.of ((Apart.refl w).drew.trans (Apart.ofBelow hb1))); clear hb1; obtain ⟨d0, d1, d2, d3, d4, d5, d6, f1⟩ := row7 B1.out)
    | (go_at_call 33; refine (Load_s M1.out (n + 4 + node) z HZ.out).mono ?_; rintro e w2 ⟨rfl, hm2, ha2⟩; have M2 := Lib.hid hm2; have B2 := Lib.hid (B1.out.apart ha2 cx cy); have A2 : Hid (Apart3 X Y C w w2) := Lib.hid (A1.out.trans (Apart3.of ha2)); clear hm2 ha2; obtain ⟨e0, e1, e2, e3, e4, e5, e6, f2⟩ := row7 B2.out))
  all_goals
    go_wp2_with (go_at_call 35; refine (odd_any _ z z0).mono ?_; rintro e w3 ⟨rfl, rfl⟩; rw [HO.out])
    go_returns
    exact ⟨rfl, (M2.out.other cx cy _ _).other cx cy _ _, (B2.out.put 6 _).put 5 _, (A2.out.put 6 _).put 5 _⟩
end
end Go.Proofs.Ytglkpajnhdamkaa.life
