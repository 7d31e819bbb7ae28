/- The law's helper: a history's calls are those of these events. -/
import Derived.Test.YtfacojlheeoppaaHSame
namespace Go.Proofs.Ytfacojlheeoppaa.hist
open Go.RowKit

/-- Two blocks: a call as the document has it, and the history's. -/
structure Blk8 (w : World) (B : Nat) (c : ClV) : Prop where
  box : w.heap[B]? = some (.cells #[.int .i64 c.T, .int .i64 c.B, .int .i64 c.D, .int .i64 c.K, .int .i64 c.Y, .int .i64 c.C, .bool c.O, .int .i64 c.V] 65 (0, 0))
theorem Blk8.lt {w : World} {B : Nat} {c : ClV} (h : Blk8 w B c) : B < w.heap.size := (Array.getElem?_eq_some_iff.1 h.box).1
theorem Blk8.below {w w' : World} {B : Nat} {c : ClV} (h : Blk8 w B c) (hb : Below w.heap.size w w') : Blk8 w' B c := ⟨(hb.block B h.lt).trans h.box⟩
theorem Blk8.cells {w : World} {B : Nat} {c : ClV} (h : Blk8 w B c) : w.cell? ⟨B, 0, none⟩ = some (.int .i64 c.T) ∧ w.cell? ⟨B, 1, none⟩ = some (.int .i64 c.B) ∧ w.cell? ⟨B, 2, none⟩ = some (.int .i64 c.D) ∧ w.cell? ⟨B, 3, none⟩ = some (.int .i64 c.K) ∧ w.cell? ⟨B, 4, none⟩ = some (.int .i64 c.Y)
    ∧ w.cell? ⟨B, 5, none⟩ = some (.int .i64 c.C) ∧ w.cell? ⟨B, 6, none⟩ = some (.bool c.O) ∧ w.cell? ⟨B, 7, none⟩ = some (.int .i64 c.V) := by
  have hb := h.box
  refine ⟨?_, ?_, ?_, ?_, ?_, ?_, ?_, ?_⟩ <;> (rw [Joins.cell_of_block hb]; rfl)
structure Blk9 (w : World) (B k : Nat) (c : ClV) : Prop where
  box : w.heap[B]? = some (.cells #[.int .i64 c.B, .int .i64 c.D, .int .i64 (k : Int), .int .i64 c.T, .int .i64 c.K, .int .i64 c.Y, .int .i64 c.C, .bool c.O, .int .i64 c.V] 51 (0, 0))
theorem Blk9.lt {w : World} {B k : Nat} {c : ClV} (h : Blk9 w B k c) : B < w.heap.size := (Array.getElem?_eq_some_iff.1 h.box).1
theorem Blk9.below {w w' : World} {B k : Nat} {c : ClV} (h : Blk9 w B k c) (hb : Below w.heap.size w w') : Blk9 w' B k c := ⟨(hb.block B h.lt).trans h.box⟩
theorem Blk9.cells {w : World} {B k : Nat} {c : ClV} (h : Blk9 w B k c) : w.cell? ⟨B, 0, none⟩ = some (.int .i64 c.B) ∧ w.cell? ⟨B, 1, none⟩ = some (.int .i64 c.D) ∧ w.cell? ⟨B, 2, none⟩ = some (.int .i64 (k : Int)) ∧ w.cell? ⟨B, 3, none⟩ = some (.int .i64 c.T) ∧ w.cell? ⟨B, 4, none⟩ = some (.int .i64 c.K)
    ∧ w.cell? ⟨B, 5, none⟩ = some (.int .i64 c.Y) ∧ w.cell? ⟨B, 6, none⟩ = some (.int .i64 c.C) ∧ w.cell? ⟨B, 7, none⟩ = some (.bool c.O) ∧ w.cell? ⟨B, 8, none⟩ = some (.int .i64 c.V) := by
  have hb := h.box
  refine ⟨?_, ?_, ?_, ?_, ?_, ?_, ?_, ?_, ?_⟩ <;> (rw [Joins.cell_of_block hb]; rfl)
theorem both17 {w : World} {P Q k : Nat} {c : ClV} (h8 : Blk8 w P c) (h9 : Blk9 w Q k c) : w.cell? ⟨P, 0, none⟩ = some (.int .i64 c.T) ∧ w.cell? ⟨P, 1, none⟩ = some (.int .i64 c.B) ∧ w.cell? ⟨P, 2, none⟩ = some (.int .i64 c.D) ∧ w.cell? ⟨P, 3, none⟩ = some (.int .i64 c.K) ∧ w.cell? ⟨P, 4, none⟩ = some (.int .i64 c.Y) ∧ w.cell? ⟨P, 5, none⟩ = some (.int .i64 c.C) ∧ w.cell? ⟨P, 6, none⟩ = some (.bool c.O) ∧ w.cell? ⟨P, 7, none⟩ = some (.int .i64 c.V) ∧ w.cell? ⟨Q, 0, none⟩ = some (.int .i64 c.B) ∧ w.cell? ⟨Q, 1, none⟩ = some (.int .i64 c.D) ∧ w.cell? ⟨Q, 2, none⟩ = some (.int .i64 (k : Int)) ∧ w.cell? ⟨Q, 3, none⟩ = some (.int .i64 c.T) ∧ w.cell? ⟨Q, 4, none⟩ = some (.int .i64 c.K) ∧ w.cell? ⟨Q, 5, none⟩ = some (.int .i64 c.Y) ∧ w.cell? ⟨Q, 6, none⟩ = some (.int .i64 c.C) ∧ w.cell? ⟨Q, 7, none⟩ = some (.bool c.O) ∧ w.cell? ⟨Q, 8, none⟩ = some (.int .i64 c.V) := by
  obtain ⟨a0, a1, a2, a3, a4, a5, a6, a7⟩ := h8.cells
  obtain ⟨b0, b1, b2, b3, b4, b5, b6, b7, b8⟩ := h9.cells
  exact ⟨a0, a1, a2, a3, a4, a5, a6, a7, b0, b1, b2, b3, b4, b5, b6, b7, b8⟩
theorem all20 {w : World} {P Q R k j : Nat} {c d : ClV} {b' : Addr} (h8 : Blk8 w P c) (h9 : Blk9 w Q k c) (hd : Blk8 w R d) (r0 : w.cell? (b'.add (j * 9)) = some (.int .i64 d.B)) (r1 : w.cell? ⟨(b'.add (j * 9)).block, (b'.add (j * 9)).off + 1, none⟩ = some (.int .i64 d.D)) : w.cell? ⟨P, 0, none⟩ = some (.int .i64 c.T) ∧ w.cell? ⟨P, 1, none⟩ = some (.int .i64 c.B) ∧ w.cell? ⟨P, 2, none⟩ = some (.int .i64 c.D) ∧ w.cell? ⟨P, 3, none⟩ = some (.int .i64 c.K) ∧ w.cell? ⟨P, 4, none⟩ = some (.int .i64 c.Y) ∧ w.cell? ⟨P, 5, none⟩ = some (.int .i64 c.C) ∧ w.cell? ⟨P, 6, none⟩ = some (.bool c.O) ∧ w.cell? ⟨P, 7, none⟩ = some (.int .i64 c.V) ∧ w.cell? ⟨Q, 0, none⟩ = some (.int .i64 c.B) ∧ w.cell? ⟨Q, 1, none⟩ = some (.int .i64 c.D) ∧ w.cell? ⟨R, 0, none⟩ = some (.int .i64 d.T) ∧ w.cell? ⟨R, 1, none⟩ = some (.int .i64 d.B) ∧ w.cell? ⟨R, 2, none⟩ = some (.int .i64 d.D) ∧ w.cell? ⟨R, 3, none⟩ = some (.int .i64 d.K) ∧ w.cell? ⟨R, 4, none⟩ = some (.int .i64 d.Y) ∧ w.cell? ⟨R, 5, none⟩ = some (.int .i64 d.C) ∧ w.cell? ⟨R, 6, none⟩ = some (.bool d.O) ∧ w.cell? ⟨R, 7, none⟩ = some (.int .i64 d.V) ∧ w.cell? (b'.add (j * 9)) = some (.int .i64 d.B) ∧ w.cell? ⟨(b'.add (j * 9)).block, (b'.add (j * 9)).off + 1, none⟩ = some (.int .i64 d.D) := by
  obtain ⟨a0, a1, a2, a3, a4, a5, a6, a7⟩ := h8.cells
  obtain ⟨b0, b1, -⟩ := h9.cells
  obtain ⟨d0, d1, d2, d3, d4, d5, d6, d7⟩ := hd.cells
  exact ⟨a0, a1, a2, a3, a4, a5, a6, a7, b0, b1, d0, d1, d2, d3, d4, d5, d6, d7, r0, r1⟩
theorem drew_below (w : World) : Below w.heap.size w w.drew := (Below.refl _ _).drew

attribute [local go_sem] eq_op eq_res eq_span
set_option maxRecDepth 100000 in
set_option maxHeartbeats 8000000 in
theorem callsAre_any (w : World) (X : Nat) (f : Nat → Prop) (l : List EvV) (h : Hst w X f l) (a : Option Addr) (N cap : Nat) (hN : l.length = N) (hl : N ≤ 1000) (hx : At cells7 7 w a l) :
    Calls Try.prog 17 #[.pointer (some ⟨X, 0, none⟩), .slice a N cap] w fun e w' => e = .returned (.bool true) ∧ Below w.heap.size w w' := by
  have HX := Lib.hid hx
  have HN := Lib.hid hN
  have HH := Lib.hid h
  have hl0 : (N : Int) ≤ 1000 := by omega
  have HL : Hid (l.length ≤ 1000) := by show _ ≤ _; omega
  have hml := calls_le h.valid
  generalize hM : (callsE l).length = m at *
  have hm0 : (m : Int) ≤ 1000 := by omega
  have HM := Lib.hid hM
  clear hx hN h hM hml
  go_enter Try.func17, Try.ntmps17
  go_wp2_with (first
    | (go_at_call 21; have _t := G1.out; go_loud (refine (calls_any _ X f l (HH.out.below G1.out.below) HL.out).mono ?_; rintro e w2 ⟨v2, rfl, hg⟩; obtain ⟨A9, c9, rfl, -, -, ha⟩ := hg.told len9; have G2 := Lib.hid hg; have R9 := Lib.hid ha; have R8b := Lib.hid (R8.out.later hg.below); rw [HM.out]; clear hg ha))
    | (go_at_call 27; go_loud (refine (refCalls_any _ a l N cap HN.out hl HX.out).mono ?_; rintro e w1 ⟨v1, rfl, hg⟩; obtain ⟨A8, c8, rfl, -, -, ha⟩ := hg.told len8; have G1 := Lib.hid hg; have R8 := Lib.hid ha; rw [HM.out]; clear hg ha)))
  go_loopw [23] (fun i wr => ∃ k : Nat, k ≤ m ∧ i = .int .i64 (k : Int) ∧ Below w2.heap.size w2 wr) (fun i _ => m - (intOf i).toNat)
  case atStart => exact ⟨0, Nat.zero_le _, rfl, Below.refl _ _⟩
  case round =>
    obtain ⟨k, hk, rfl, hb⟩ := hrel
    have HW := Lib.hid hb
    clear hb
    by_cases hlt : k < m
    · have hkl : k < (callsE l).length := by rw [HM.out]; exact hlt
      have hki : (k : Int) < (m : Int) := by omega
      obtain ⟨b, rfl, p0, p1, p2, p3, p4, p5, p6, p7⟩ := (R8b.out.later HW.out).cl k hkl
      obtain ⟨b', rfl, q0, q1, q2, q3, q4, q5, q6, q7, q8⟩ := (R9.out.later HW.out).ca k hkl
      have hbl := World.block_lt_of_cell? wr _ q0
      generalize (callsE l)[k] = c at *
      have BW : Hid (Below wr.heap.size wr ((wr.alloc (.cells #[.int .i64 c.T, .int .i64 c.B, .int .i64 c.D, .int .i64 c.K, .int .i64 c.Y, .int .i64 c.C, .bool c.O, .int .i64 c.V] 65)).alloc (.cells #[.int .i64 c.B, .int .i64 c.D, .int .i64 (k : Int), .int .i64 c.T, .int .i64 c.K, .int .i64 c.Y, .int .i64 c.C, .bool c.O, .int .i64 c.V] 51))) := Lib.hid (((Below.refl _ _).alloc (Nat.le_refl _) _).alloc (by simp) _)
      have B8 : Hid (Blk8 ((wr.alloc (.cells #[.int .i64 c.T, .int .i64 c.B, .int .i64 c.D, .int .i64 c.K, .int .i64 c.Y, .int .i64 c.C, .bool c.O, .int .i64 c.V] 65)).alloc (.cells #[.int .i64 c.B, .int .i64 c.D, .int .i64 (k : Int), .int .i64 c.T, .int .i64 c.K, .int .i64 c.Y, .int .i64 c.C, .bool c.O, .int .i64 c.V] 51)) wr.heap.size c) := Lib.hid (Blk8.below ⟨new_block _ _ _⟩ ((Below.refl _ _).alloc (Nat.le_refl _) _))
      have B9 : Hid (Blk9 ((wr.alloc (.cells #[.int .i64 c.T, .int .i64 c.B, .int .i64 c.D, .int .i64 c.K, .int .i64 c.Y, .int .i64 c.C, .bool c.O, .int .i64 c.V] 65)).alloc (.cells #[.int .i64 c.B, .int .i64 c.D, .int .i64 (k : Int), .int .i64 c.T, .int .i64 c.K, .int .i64 c.Y, .int .i64 c.C, .bool c.O, .int .i64 c.V] 51)) (wr.heap.size + 1) k c) := Lib.hid ⟨(by have h := new_block (wr.alloc (.cells #[.int .i64 c.T, .int .i64 c.B, .int .i64 c.D, .int .i64 c.K, .int .i64 c.Y, .int .i64 c.C, .bool c.O, .int .i64 c.V] 65)) #[.int .i64 c.B, .int .i64 c.D, .int .i64 (k : Int), .int .i64 c.T, .int .i64 c.K, .int .i64 c.Y, .int .i64 c.C, .bool c.O, .int .i64 c.V] 51; rw [show (wr.alloc (.cells #[.int .i64 c.T, .int .i64 c.B, .int .i64 c.D, .int .i64 c.K, .int .i64 c.Y, .int .i64 c.C, .bool c.O, .int .i64 c.V] 65)).heap.size = wr.heap.size + 1 by simp] at h; exact h)⟩
      go_wp2
      generalize ((wr.alloc (.cells #[.int .i64 c.T, .int .i64 c.B, .int .i64 c.D, .int .i64 c.K, .int .i64 c.Y, .int .i64 c.C, .bool c.O, .int .i64 c.V] 65)).alloc (.cells #[.int .i64 c.B, .int .i64 c.D, .int .i64 (k : Int), .int .i64 c.T, .int .i64 c.K, .int .i64 c.Y, .int .i64 c.C, .bool c.O, .int .i64 c.V] 51)) = wa at *
      have HWA := Lib.hid (past HW.out BW.out)
      clear p0 p1 p2 p3 p4 p5 p6 p7 q0 q1 q2 q3 q4 q5 q6 q7 q8 hbl BW
      generalize wr.heap.size = P at *
      obtain ⟨a0, a1, a2, a3, a4, a5, a6, a7⟩ := B8.out.cells
      obtain ⟨e0, e1, e2, e3, e4, e5, e6, e7, e8⟩ := B9.out.cells
      go_region_held3 (fun wx => wx.cell? ⟨P, 0, none⟩ = some (.int .i64 c.T) ∧ wx.cell? ⟨P, 1, none⟩ = some (.int .i64 c.B) ∧ wx.cell? ⟨P, 2, none⟩ = some (.int .i64 c.D) ∧ wx.cell? ⟨P, 3, none⟩ = some (.int .i64 c.K) ∧ wx.cell? ⟨P, 4, none⟩ = some (.int .i64 c.Y) ∧ wx.cell? ⟨P, 5, none⟩ = some (.int .i64 c.C) ∧ wx.cell? ⟨P, 6, none⟩ = some (.bool c.O) ∧ wx.cell? ⟨P, 7, none⟩ = some (.int .i64 c.V) ∧ wx.cell? ⟨P + 1, 0, none⟩ = some (.int .i64 c.B) ∧ wx.cell? ⟨P + 1, 1, none⟩ = some (.int .i64 c.D) ∧ wx.cell? ⟨P + 1, 2, none⟩ = some (.int .i64 (k : Int)) ∧ wx.cell? ⟨P + 1, 3, none⟩ = some (.int .i64 c.T) ∧ wx.cell? ⟨P + 1, 4, none⟩ = some (.int .i64 c.K) ∧ wx.cell? ⟨P + 1, 5, none⟩ = some (.int .i64 c.Y) ∧ wx.cell? ⟨P + 1, 6, none⟩ = some (.int .i64 c.C) ∧ wx.cell? ⟨P + 1, 7, none⟩ = some (.bool c.O) ∧ wx.cell? ⟨P + 1, 8, none⟩ = some (.int .i64 c.V)) (first | exact both17 B8c.out B9c.out | go_keep)
        ((go_at_call 23; go_loud (refine (spanPend_any _ _ _).mono ?_; rintro e w3 ⟨rfl, hb⟩; have B3 := Lib.hid (past HWA.out (past (drew_below wa) hb)); have B8c := Lib.hid (B8.out.below (past (drew_below wa) hb)); have B9c := Lib.hid (B9.out.below (past (drew_below wa) hb)); clear hb)))
      clear a0 a1 a2 a3 a4 a5 a6 a7 e0 e1 e2 e3 e4 e5 e6 e7 e8 B8 B9 HWA
      go_wp2
      go_loopw [84] (fun i wi => ∃ j : Nat, j ≤ m ∧ i = .int .i64 (j : Int) ∧ Below w3.heap.size w3 wi) (fun i _ => m - (intOf i).toNat)
      case atStart => exact ⟨0, Nat.zero_le _, rfl, Below.refl _ _⟩
      case round =>
        obtain ⟨j, hj, rfl, hb⟩ := hrel
        have HV := Lib.hid hb
        clear hb
        generalize wr = wi at *
        by_cases hjlt : j < m
        · have hjl : j < (callsE l).length := by rw [HM.out]; exact hjlt
          have hji : (j : Int) < (m : Int) := by omega
          obtain ⟨b2, hb2, p0, p1, p2, p3, p4, p5, p6, p7⟩ := (R8b.out.later (past B3.out HV.out)).cl j hjl
          obtain rfl := Option.some.inj hb2
          have Q9 := Lib.hid (R9.out.later (past B3.out HV.out))
          have HJ : Hid (∀ w', Below wi.heap.size wi w' → w'.cell? (b'.add (j * 9)) = some (.int .i64 (callsE l)[j].B) ∧ w'.cell? ⟨(b'.add (j * 9)).block, (b'.add (j * 9)).off + 1, none⟩ = some (.int .i64 (callsE l)[j].D)) := Lib.hid fun w' hb => by
            obtain ⟨b3, hb3, h0, h1, -⟩ := (Q9.out.later hb).ca j hjl
            obtain rfl := Option.some.inj hb3
            exact ⟨h0, h1⟩
          clear hb2
          generalize (callsE l)[j] = d at *
          have C8 := Lib.hid (B8c.out.below HV.out)
          have C9 := Lib.hid (B9c.out.below HV.out)
          have CW : Hid (Below wi.heap.size wi (wi.alloc (.cells #[.int .i64 d.T, .int .i64 d.B, .int .i64 d.D, .int .i64 d.K, .int .i64 d.Y, .int .i64 d.C, .bool d.O, .int .i64 d.V] 65))) := Lib.hid ((Below.refl _ _).alloc (Nat.le_refl _) _)
          have CD : Hid (Blk8 (wi.alloc (.cells #[.int .i64 d.T, .int .i64 d.B, .int .i64 d.D, .int .i64 d.K, .int .i64 d.Y, .int .i64 d.C, .bool d.O, .int .i64 d.V] 65)) wi.heap.size d) := Lib.hid ⟨new_block _ _ _⟩
          go_wp2
          generalize (wi.alloc (.cells #[.int .i64 d.T, .int .i64 d.B, .int .i64 d.D, .int .i64 d.K, .int .i64 d.Y, .int .i64 d.C, .bool d.O, .int .i64 d.V] 65)) = wd at *
          have D8 := Lib.hid (C8.out.below CW.out)
          have D9 := Lib.hid (C9.out.below CW.out)
          clear p0 p1 p2 p3 p4 p5 p6 p7 C8 C9
          have HR : Hid (w3.heap.size ≤ wi.heap.size) := HV.out.size
          generalize hRE : wi.heap.size = R at *
          have HRE := Lib.hid hRE
          clear hRE
          obtain ⟨a0, a1, a2, a3, a4, a5, a6, a7⟩ := D8.out.cells
          obtain ⟨e0, e1, -⟩ := D9.out.cells
          obtain ⟨g0, g1, g2, g3, g4, g5, g6, g7⟩ := CD.out.cells
          obtain ⟨r0, r1⟩ := HJ.out _ CW.out
          go_region_held3 (fun wx => wx.cell? ⟨P, 0, none⟩ = some (.int .i64 c.T) ∧ wx.cell? ⟨P, 1, none⟩ = some (.int .i64 c.B) ∧ wx.cell? ⟨P, 2, none⟩ = some (.int .i64 c.D) ∧ wx.cell? ⟨P, 3, none⟩ = some (.int .i64 c.K) ∧ wx.cell? ⟨P, 4, none⟩ = some (.int .i64 c.Y) ∧ wx.cell? ⟨P, 5, none⟩ = some (.int .i64 c.C) ∧ wx.cell? ⟨P, 6, none⟩ = some (.bool c.O) ∧ wx.cell? ⟨P, 7, none⟩ = some (.int .i64 c.V) ∧ wx.cell? ⟨P + 1, 0, none⟩ = some (.int .i64 c.B) ∧ wx.cell? ⟨P + 1, 1, none⟩ = some (.int .i64 c.D) ∧ wx.cell? ⟨R, 0, none⟩ = some (.int .i64 d.T) ∧ wx.cell? ⟨R, 1, none⟩ = some (.int .i64 d.B) ∧ wx.cell? ⟨R, 2, none⟩ = some (.int .i64 d.D) ∧ wx.cell? ⟨R, 3, none⟩ = some (.int .i64 d.K) ∧ wx.cell? ⟨R, 4, none⟩ = some (.int .i64 d.Y) ∧ wx.cell? ⟨R, 5, none⟩ = some (.int .i64 d.C) ∧ wx.cell? ⟨R, 6, none⟩ = some (.bool d.O) ∧ wx.cell? ⟨R, 7, none⟩ = some (.int .i64 d.V) ∧ wx.cell? (b'.add (j * 9)) = some (.int .i64 d.B) ∧ wx.cell? ⟨(b'.add (j * 9)).block, (b'.add (j * 9)).off + 1, none⟩ = some (.int .i64 d.D)) (first | exact all20 D8z.out D9z.out CDz.out s0 s1 | exact all20 D8y.out D9y.out CDy.out t0 t1 | go_keep)
            (first
              | (go_at_call 28; have _t := D8y.out; go_loud (refine (refBefore_any w4 c d).mono ?_; rintro e w5 ⟨rfl, hb⟩; have B5 := Lib.hid (B4.out.trans (hb.mono (by rw [← HRE.out]; exact B4.out.size))); have D8z := Lib.hid (D8y.out.below hb); have D9z := Lib.hid (D9y.out.below hb); have CDz := Lib.hid (CDy.out.below hb); obtain ⟨s0, s1⟩ := HJ.out _ B5.out; clear hb))
              | (go_at_call 22; go_loud (refine (before_any _ _ _ _ _).mono ?_; rintro e w4 ⟨rfl, hb⟩; have BX := Lib.hid (past (drew_below wd) hb); have B4 := Lib.hid (CW.out.trans (BX.out.mono (by rw [← HRE.out]; exact CW.out.size))); have D8y := Lib.hid (D8.out.below BX.out); have D9y := Lib.hid (D9.out.below BX.out); have CDy := Lib.hid (CD.out.below BX.out); obtain ⟨t0, t1⟩ := HJ.out _ B4.out; clear hb)))
          go_wp2
          go_roundw
          case rel => exact ⟨j + 1, by omega, by go_num, HV.out.trans (B5.out.mono HR.out)⟩
          case measure => simp [intOf]; omega
        · obtain rfl : j = m := by omega
          go_wp2
          go_roundw
          case rel => exact ⟨k + 1, by omega, by go_num, past B3.out HV.out⟩
          case measure => simp [intOf]; omega
    · obtain rfl : k = m := by omega
      go_wp2
      go_returns
      exact ⟨rfl, past G1.out.below (past G2.out.below HW.out)⟩
end Go.Proofs.Ytfacojlheeoppaa.hist
