/- The law HistAlone answers true at every list of events. -/
import Derived.Test.YtfacojlheeoppaaHPlay
import Derived.Deep.Slices
namespace Go.Proofs.Ytfacojlheeoppaa.hist
open Go.RowKit

/-- A history whose calls are looked at, behind world W. -/
structure Sole (W w : World) (X : Nat) (f : Nat → Prop) (L : List EvV) : Prop where
  hst : Hst w X f L
  foot : ∀ b, f b → W.heap.size ≤ b
  below : Below W.heap.size W w
section
variable {W w w' : World} {X : Nat} {f f' : Nat → Prop} {L L' : List EvV}
theorem Sole.next (h : Sole W w X f L) (hb : Below w.heap.size w w') : Sole W w' X f L := ⟨h.hst.below hb, h.foot, past h.below hb⟩
theorem Sole.step (h : Sole W w X f L) (hm : Hst w' X f' L') (hw : Went f f' w w') : Sole W w' X f' L' := ⟨hm, hw.from h.below.size h.foot, hw.below h.below h.below.size h.foot⟩
end
/-- What stands behind the first n elements. -/
theorem At.drop {α : Type} {f : Nat → α → List Value} {k : Nat} {w : World} {b : Addr} {L : List α} (h : At f k w (some b) L) (n : Nat) (hn : n ≤ L.length) : At (fun i => f (n + i)) k w (some (b.add (n * k))) (L.drop n) := by
  intro i hi
  rw [List.length_drop] at hi
  obtain ⟨b', hb, hc⟩ := h (n + i) (by omega)
  obtain rfl := Option.some.inj hb
  refine ⟨_, rfl, fun j u hu => ?_⟩
  rw [List.getElem_drop] at hu
  have := hc j u hu
  rw [← add_spelled, Go.Deep.add_add]
  rw [← add_spelled, Nat.add_mul, Nat.add_assoc] at this
  exact this
theorem At.cb {n : Nat} {w : World} {a : Option Addr} {L : List ClV} (h : At (fun i => cells9 (n + i)) 9 w a L) (i : Nat) (hi : i < L.length) : ∃ b, a = some b ∧ w.cell? (b.add (i * 9)) = some (.int .i64 L[i].B) ∧ w.cell? ⟨(b.add (i * 9)).block, (b.add (i * 9)).off + 1, none⟩ = some (.int .i64 L[i].D)
    ∧ w.cell? ⟨(b.add (i * 9)).block, (b.add (i * 9)).off + 2, none⟩ = some (.int .i64 ((n + i : Nat) : Int)) ∧ w.cell? ⟨(b.add (i * 9)).block, (b.add (i * 9)).off + 3, none⟩ = some (.int .i64 L[i].T) ∧ w.cell? ⟨(b.add (i * 9)).block, (b.add (i * 9)).off + 4, none⟩ = some (.int .i64 L[i].K)
    ∧ w.cell? ⟨(b.add (i * 9)).block, (b.add (i * 9)).off + 5, none⟩ = some (.int .i64 L[i].Y) ∧ w.cell? ⟨(b.add (i * 9)).block, (b.add (i * 9)).off + 6, none⟩ = some (.int .i64 L[i].C) ∧ w.cell? ⟨(b.add (i * 9)).block, (b.add (i * 9)).off + 7, none⟩ = some (.bool L[i].O) ∧ w.cell? ⟨(b.add (i * 9)).block, (b.add (i * 9)).off + 8, none⟩ = some (.int .i64 L[i].V) := by
  obtain ⟨b, hb, hc⟩ := h i hi
  exact ⟨b, hb, hc 0 _ rfl, hc 1 _ rfl, hc 2 _ rfl, hc 3 _ rfl, hc 4 _ rfl, hc 5 _ rfl, hc 6 _ rfl, hc 7 _ rfl, hc 8 _ rfl⟩
theorem pendN_take {L : List ClV} {k : Nat} (hk : k < L.length) : pendN (L.take (k + 1)) = pendN (L.take k) + if L[k].D < 0 then 1 else 0 := by
  unfold pendN
  rw [List.take_succ_eq_append_getElem hk, List.filter_append, List.length_append]
  congr 1
  by_cases h : L[k].D < 0
  · rw [if_pos h, List.filter_cons, if_pos (by simpa using h)]
    rfl
  · rw [if_neg h, List.filter_cons, if_neg (by simpa using h)]
    rfl
theorem pendN_take_le (L : List ClV) (k : Nat) : pendN (L.take k) ≤ k := Nat.le_trans (pendN_le _) (by rw [List.length_take]; exact Nat.min_le_left _ _)
/-- Two calls of one thread: the first one has ended ahead of the second one's beginning. -/
theorem alone_two {l : List EvV} (hV : ValidE l) {i j : Nat} (hij : i < j) (hj : j < (callsE l).length) (ht : (callsE l)[i].T = (callsE l)[j].T) : befB (callsE l)[i].D (callsE l)[j].B = true := by
  have := List.pairwise_iff_getElem.1 (hold_of l hV).order i j (by omega) hj hij ht
  exact decide_eq_true this
theorem alone_pend {l : List EvV} {i : Nat} (hi : i < (callsE l).length) (hd : (callsE l)[i].D < 0) : pendE l (callsE l)[i].T = true := (pend_calls l _).2 ⟨_, List.getElem_mem hi, hd, rfl⟩

set_option maxRecDepth 100000 in
set_option maxHeartbeats 8000000 in
theorem alone_any (w : World) (a : Option Addr) (l : List EvV) (N cap : Nat) (hN : l.length = N) (hx : At cells7 7 w a l) :
    Calls Try.prog 7 #[.slice a N cap] w fun e w' => e = .returned (.bool true) ∧ Below w.heap.size w w' := by
  have HX := Lib.hid hx
  have HN := Lib.hid hN
  clear hx hN
  by_cases h60 : N ≤ 60
  · have hl0 : (N : Int) ≤ 60 := by omega
    go_enter Try.func7, Try.ntmps7
    go_wp2_with (first
      | (go_at_call 9; have _t := A1.out; go_loud (refine (new_any _).mono ?_; rintro e w2 ⟨X, f, rfl, hm, hn, hb⟩; have P0 : Hid (Sole w w2 X f []) := Lib.hid ⟨hm, fun b hb => Nat.le_trans A1.out.size (hn b hb), past A1.out hb⟩; clear hm hn hb))
      | (go_at_call 8; go_loud (refine (awake_any _).mono ?_; rintro e w1 ⟨rfl, hb⟩; have A1 := Lib.hid hb; clear hb)))
    go_loopw [20] (fun i wr => ∃ (k : Nat) (f' : Nat → Prop), k ≤ N ∧ i = .int .i64 (k : Int) ∧ Sole w wr X f' (tookE (l.take k))) (fun i _ => N - (intOf i).toNat)
    case atStart => exact ⟨0, f, Nat.zero_le _, rfl, P0.out⟩
    case round =>
      clear P0
      obtain ⟨k, f1, hk, rfl, hp⟩ := hrel
      have HP := Lib.hid hp
      clear hp
      by_cases hlt : k < N
      · have hkl : k < l.length := by rw [HN.out]; exact hlt
        have hki : (k : Int) < (N : Int) := by omega
        obtain ⟨b, rfl, p0, p1, p2, p3, p4, p5, p6⟩ := (HX.out.later HP.out.below).ev k hkl
        have hbl := World.block_lt_of_cell? wr _ p0
        have HT := Lib.hid (took_take hkl)
        have HL := Lib.hid (Nat.le_trans (took_take_len l k) hk)
        generalize tookE (l.take k) = L at *
        generalize l[k] = u at *
        obtain ⟨T, E, K, Y, C, O, V⟩ := u
        simp only at p0 p1 p2 p3 p4 p5 p6
        have HL0 : Hid (L.length ≤ 1000) := by have := HL.out; show _ ≤ _; omega
        cases E
        · have BA : Hid (Below wr.heap.size wr (wr.alloc (.cells #[.int .i64 T, .bool false, .int .i64 K, .int .i64 Y, .int .i64 C, .bool O, .int .i64 V] 32))) := Lib.hid ((Below.refl _ _).alloc (Nat.le_refl _) _)
          go_wp2_with (go_at_call 11; go_loud (refine (begin_step _ X f1 L (HP.out.next BA.out).hst HL0.out ⟨T, false, K, Y, C, O, V⟩ rfl).mono ?_; rintro e w3 ⟨f2, rfl, hm, hw⟩; have P3 := Lib.hid ((HP.out.next BA.out).step hm hw); clear hm hw))
          go_roundw
          case rel => exact ⟨k + 1, f2, by omega, by go_num, by rw [HT.out]; exact P3.out⟩
          case measure => simp [intOf]; omega
        · have BA : Hid (Below wr.heap.size wr (wr.alloc (.cells #[.int .i64 T, .bool true, .int .i64 K, .int .i64 Y, .int .i64 C, .bool O, .int .i64 V] 32))) := Lib.hid ((Below.refl _ _).alloc (Nat.le_refl _) _)
          go_wp2_with (go_at_call 10; go_loud (refine (end_step _ X f1 L (HP.out.next BA.out).hst HL0.out ⟨T, true, K, Y, C, O, V⟩ rfl).mono ?_; rintro e w3 ⟨f2, rfl, hm, hw⟩; have P3 := Lib.hid ((HP.out.next BA.out).step hm hw); clear hm hw))
          go_roundw
          case rel => exact ⟨k + 1, f2, by omega, by go_num, by rw [HT.out]; exact P3.out⟩
          case measure => simp [intOf]; omega
      · have hge : ¬ ((k : Int) < (N : Int)) := by omega
        have HL := Lib.hid (Nat.le_trans (took_take_len l k) hk)
        generalize tookE (l.take k) = L at *
        have HL0 : Hid (L.length ≤ 1000) := by have := HL.out; show _ ≤ _; omega
        have hV := HP.out.hst.valid
        have HV := Lib.hid hV
        have HC := Lib.hid (calls_count L hV)
        have hml := Nat.le_trans (calls_le hV) HL.out
        generalize hM : (callsE L).length = m at *
        have HM := Lib.hid hM
        have hm0 : (m : Int) ≤ 60 := by omega
        clear hV hM
        generalize wr = w3 at *
        go_wp2_with (go_at_call 21; go_loud (refine (calls_any _ X f1 L HP.out.hst HL0.out).mono ?_; rintro e w4 ⟨v4, rfl, hg⟩; obtain ⟨A9, c9, rfl, hc, -, ha⟩ := hg.told len9; have P4 := Lib.hid (HP.out.next hg.below); have R9 := Lib.hid ha; rw [HM.out] at hc; rw [HM.out]; clear hg ha))
        have hci : (m : Int) ≤ (c9 : Int) := by omega
        go_loopw [7, 43] (fun mv i wr => ∃ k2 : Nat, k2 ≤ m ∧ i = .int .i64 (k2 : Int) ∧ mv = .int .i64 ((pendN ((callsE L).take k2) : Nat) : Int) ∧ Below w4.heap.size w4 wr) (fun _ i _ => m - (intOf i).toNat)
        case atStart => exact ⟨0, Nat.zero_le _, rfl, rfl, Below.refl _ _⟩
        case round =>
          obtain ⟨k2, hk2, rfl, rfl, hb⟩ := hrel
          have HW := Lib.hid hb
          clear hb
          generalize wr = w5 at *
          by_cases hlt2 : k2 < m
          · have hkl : k2 < (callsE L).length := by rw [HM.out]; exact hlt2
            have hki2 : (k2 : Int) < (m : Int) := by omega
            have hks : (k2 : Int) + 1 ≤ (m : Int) := by omega
            obtain ⟨b', rfl, q0, q1, q2, q3, q4, q5, q6, q7, q8⟩ := (R9.out.later HW.out).ca k2 hkl
            have hbl := World.block_lt_of_cell? w5 _ q0
            have HPT := Lib.hid (pendN_take hkl)
            have HPL := Lib.hid (pendN_take_le (callsE L) k2)
            generalize hcc : (callsE L)[k2] = c at *
            have HCC := Lib.hid hcc
            clear hcc
            by_cases hcap : c9 = k2 + 1
            · subst hcap
              have HD : Hid (At (fun i => cells9 (k2 + 1 + i)) 9 w5 (some b') ((callsE L).drop (k2 + 1))) := Lib.hid (by
                rw [List.drop_eq_nil_of_le (by rw [HM.out]; omega)]
                exact fun i hi => absurd hi (by simp))
              have BK : Hid (Blk9 (w5.alloc (.cells #[.int .i64 c.B, .int .i64 c.D, .int .i64 (k2 : Int), .int .i64 c.T, .int .i64 c.K, .int .i64 c.Y, .int .i64 c.C, .bool c.O, .int .i64 c.V] 51)) w5.heap.size k2 c) := Lib.hid ⟨new_block _ _ _⟩
              have BW : Hid (Below w5.heap.size w5 (w5.alloc (.cells #[.int .i64 c.B, .int .i64 c.D, .int .i64 (k2 : Int), .int .i64 c.T, .int .i64 c.K, .int .i64 c.Y, .int .i64 c.C, .bool c.O, .int .i64 c.V] 51))) := Lib.hid ((Below.refl _ _).alloc (Nat.le_refl _) _)
              have HD2 := Lib.hid (HD.out.later BW.out)
              have BA6 := Lib.hid (past HW.out BW.out)
              go_wp2
              generalize (w5.alloc (.cells #[.int .i64 c.B, .int .i64 c.D, .int .i64 (k2 : Int), .int .i64 c.T, .int .i64 c.K, .int .i64 c.Y, .int .i64 c.C, .bool c.O, .int .i64 c.V] 51)) = w6 at *
              generalize w5.heap.size = P at *
              clear q0 q1 q2 q3 q4 q5 q6 q7 q8
              go_loopw [53] (fun i wi => ∃ j : Nat, j ≤ m - (k2 + 1) ∧ i = .int .i64 (j : Int) ∧ Below w6.heap.size w6 wi) (fun i _ => m - (k2 + 1) - (intOf i).toNat)
              case atStart => exact ⟨0, Nat.zero_le _, rfl, Below.refl _ _⟩
              case round =>
                obtain ⟨j, hj, rfl, hb⟩ := hrel
                have HV2 := Lib.hid hb
                have BK7 := Lib.hid (BK.out.below hb)
                clear hb
                generalize wr = w7 at *
                by_cases hjlt : j < m - (k2 + 1)
                · exact absurd hjlt (by omega)
                · have hgej : ¬ ((j : Int) < ((m - (k2 + 1) : Nat) : Int)) := by omega
                  obtain ⟨a0, a1, a2, a3, a4, a5, a6, a7, a8⟩ := BK7.out.cells
                  have BA7 := Lib.hid (past BA6.out HV2.out)
                  by_cases hd : c.D < 0
                  · have HPD : Hid (pendE L c.T = true) := Lib.hid (by
                      have hc := HCC.out
                      subst hc
                      exact alone_pend _ hd)
                    have hdd : decide (c.D < 0) = true := decide_eq_true hd
                    have HPT2 : Hid (pendN ((callsE L).take (k2 + 1)) = pendN ((callsE L).take k2) + 1) := by show _ = _; rw [HPT.out, if_pos hd]
                    generalize pendN ((callsE L).take k2) = pn at *
                    have hpl : (pn : Int) ≤ 60 := by have := HPL.out; omega
                    clear hd
                    go_wp2_with (first
                      | (go_at_call 14; have _t := B9.out; go_loud (refine (hst_pending _ X f1 _ (P4.out.next B9.out).hst c.T).mono ?_; rintro e w9 ⟨rfl, hw⟩; subst hw; rw [HPD.out]))
                      | (go_at_call 23; go_loud (refine (spanPend_any _ _ _).mono ?_; rintro e w8 ⟨rfl, hb⟩; have B9 := Lib.hid (past BA7.out hb); obtain ⟨e0, e1, e2, e3, e4, e5, e6, e7, e8⟩ := (BK7.out.below hb).cells; rw [hdd]; clear hb)))
                    go_roundw
                    case rel => exact ⟨k2 + 1, by omega, by go_num, by rw [HPT2.out]; go_num, B9.out⟩
                    case measure => simp [intOf] <;> omega
                  · have hdd : decide (c.D < 0) = false := decide_eq_false hd
                    have HPT2 : Hid (pendN ((callsE L).take (k2 + 1)) = pendN ((callsE L).take k2)) := by show _ = _; rw [HPT.out, if_neg hd, Nat.add_zero]
                    generalize pendN ((callsE L).take k2) = pn at *
                    clear hd
                    go_wp2_with (go_at_call 23; go_loud (refine (spanPend_any _ _ _).mono ?_; rintro e w8 ⟨rfl, hb⟩; have B9 := Lib.hid (past BA7.out hb); rw [hdd]; clear hb))
                    go_roundw
                    case rel => exact ⟨k2 + 1, by omega, by go_num, by rw [HPT2.out], B9.out⟩
                    case measure => simp [intOf] <;> omega
            · have hcapi : ¬ ((k2 : Int) + 1 = (c9 : Int)) := by omega
              have HD := Lib.hid ((R9.out.later HW.out).drop (k2 + 1) (by rw [HM.out]; omega))
              have BK : Hid (Blk9 (w5.alloc (.cells #[.int .i64 c.B, .int .i64 c.D, .int .i64 (k2 : Int), .int .i64 c.T, .int .i64 c.K, .int .i64 c.Y, .int .i64 c.C, .bool c.O, .int .i64 c.V] 51)) w5.heap.size k2 c) := Lib.hid ⟨new_block _ _ _⟩
              have BW : Hid (Below w5.heap.size w5 (w5.alloc (.cells #[.int .i64 c.B, .int .i64 c.D, .int .i64 (k2 : Int), .int .i64 c.T, .int .i64 c.K, .int .i64 c.Y, .int .i64 c.C, .bool c.O, .int .i64 c.V] 51))) := Lib.hid ((Below.refl _ _).alloc (Nat.le_refl _) _)
              have HD2 := Lib.hid (HD.out.later BW.out)
              have BA6 := Lib.hid (past HW.out BW.out)
              go_wp2
              generalize (w5.alloc (.cells #[.int .i64 c.B, .int .i64 c.D, .int .i64 (k2 : Int), .int .i64 c.T, .int .i64 c.K, .int .i64 c.Y, .int .i64 c.C, .bool c.O, .int .i64 c.V] 51)) = w6 at *
              generalize w5.heap.size = P at *
              clear q0 q1 q2 q3 q4 q5 q6 q7 q8
              go_loopw [53] (fun i wi => ∃ j : Nat, j ≤ m - (k2 + 1) ∧ i = .int .i64 (j : Int) ∧ Below w6.heap.size w6 wi) (fun i _ => m - (k2 + 1) - (intOf i).toNat)
              case atStart => exact ⟨0, Nat.zero_le _, rfl, Below.refl _ _⟩
              case round =>
                obtain ⟨j, hj, rfl, hb⟩ := hrel
                have HV2 := Lib.hid hb
                have BK7 := Lib.hid (BK.out.below hb)
                clear hb
                generalize wr = w7 at *
                by_cases hjlt : j < m - (k2 + 1)
                · have hjl : j < ((callsE L).drop (k2 + 1)).length := by rw [List.length_drop, HM.out]; exact hjlt
                  have hji : (j : Int) < ((m - (k2 + 1) : Nat) : Int) := by omega
                  obtain ⟨b2, hb2, p0, p1, p2, p3, p4, p5, p6, p7, p8⟩ := (HD2.out.later HV2.out).cb j hjl
                  obtain rfl := Option.some.inj hb2
                  have hbl7 := World.block_lt_of_cell? w7 _ p0
                  clear hb2
                  have HAL : Hid (c.T = ((callsE L).drop (k2 + 1))[j].T → befB c.D ((callsE L).drop (k2 + 1))[j].B = true) := Lib.hid fun ht => by
                    have hkl2 : k2 + 1 + j < (callsE L).length := by rw [List.length_drop] at hjl; omega
                    have e : ((callsE L).drop (k2 + 1))[j] = (callsE L)[k2 + 1 + j] := by rw [List.getElem_drop]
                    rw [e] at ht ⊢
                    have hc := HCC.out
                    subst hc
                    exact alone_two HV.out (by omega) hkl2 ht
                  generalize ((callsE L).drop (k2 + 1))[j] = d at *
                  obtain ⟨a0, a1, a2, a3, a4, a5, a6, a7, a8⟩ := BK7.out.cells
                  have hP7 : P < w7.heap.size := BK7.out.lt
                  by_cases ht : c.T = d.T
                  · have hte : (c.T == d.T) = true := beq_iff_eq.2 ht
                    have HBT := Lib.hid (HAL.out ht)
                    clear ht HAL
                    go_wp2_with (go_at_call 22; go_loud (refine (before_any _ _ _ _ _).mono ?_; rintro e w8 ⟨rfl, hb⟩; have B8 := Lib.hid (past HV2.out (past ((Below.refl _ _).alloc (Nat.le_refl _) _) hb)); rw [HBT.out]; clear hb))
                    go_roundw
                    case rel => exact ⟨j + 1, by omega, by go_num, B8.out⟩
                    case measure => simp [intOf] <;> omega
                  · have hte : (c.T == d.T) = false := beq_eq_false_iff_ne.2 ht
                    clear ht HAL
                    go_wp2
                    go_roundw
                    case rel => exact ⟨j + 1, by omega, by go_num, past HV2.out (by go_grown)⟩
                    case measure => simp [intOf] <;> omega
                · have hgej : ¬ ((j : Int) < ((m - (k2 + 1) : Nat) : Int)) := by omega
                  obtain ⟨a0, a1, a2, a3, a4, a5, a6, a7, a8⟩ := BK7.out.cells
                  have BA7 := Lib.hid (past BA6.out HV2.out)
                  by_cases hd : c.D < 0
                  · have HPD : Hid (pendE L c.T = true) := Lib.hid (by
                      have hc := HCC.out
                      subst hc
                      exact alone_pend _ hd)
                    have hdd : decide (c.D < 0) = true := decide_eq_true hd
                    have HPT2 : Hid (pendN ((callsE L).take (k2 + 1)) = pendN ((callsE L).take k2) + 1) := by show _ = _; rw [HPT.out, if_pos hd]
                    generalize pendN ((callsE L).take k2) = pn at *
                    have hpl : (pn : Int) ≤ 60 := by have := HPL.out; omega
                    clear hd
                    go_wp2_with (first
                      | (go_at_call 14; have _t := B9.out; go_loud (refine (hst_pending _ X f1 _ (P4.out.next B9.out).hst c.T).mono ?_; rintro e w9 ⟨rfl, hw⟩; subst hw; rw [HPD.out]))
                      | (go_at_call 23; go_loud (refine (spanPend_any _ _ _).mono ?_; rintro e w8 ⟨rfl, hb⟩; have B9 := Lib.hid (past BA7.out hb); obtain ⟨e0, e1, e2, e3, e4, e5, e6, e7, e8⟩ := (BK7.out.below hb).cells; rw [hdd]; clear hb)))
                    go_roundw
                    case rel => exact ⟨k2 + 1, by omega, by go_num, by rw [HPT2.out]; go_num, B9.out⟩
                    case measure => simp [intOf] <;> omega
                  · have hdd : decide (c.D < 0) = false := decide_eq_false hd
                    have HPT2 : Hid (pendN ((callsE L).take (k2 + 1)) = pendN ((callsE L).take k2)) := by show _ = _; rw [HPT.out, if_neg hd, Nat.add_zero]
                    generalize pendN ((callsE L).take k2) = pn at *
                    clear hd
                    go_wp2_with (go_at_call 23; go_loud (refine (spanPend_any _ _ _).mono ?_; rintro e w8 ⟨rfl, hb⟩; have B9 := Lib.hid (past BA7.out hb); rw [hdd]; clear hb))
                    go_roundw
                    case rel => exact ⟨k2 + 1, by omega, by go_num, by rw [HPT2.out], B9.out⟩
                    case measure => simp [intOf] <;> omega
          · have hge2 : ¬ ((k2 : Int) < (m : Int)) := by omega
            have e : (callsE L).take k2 = callsE L := List.take_of_length_le (by rw [HM.out]; omega)
            rw [e]
            have hcnt := HC.out
            have hple := pendN_le (callsE L)
            rw [HM.out] at hple
            have hlen := HL.out
            generalize pendN (callsE L) = pn at *
            have hfin : ((L.length : Int) == 2 * (m : Int) - (pn : Int)) = true := beq_iff_eq.2 (by omega)
            have hpl : (pn : Int) ≤ 60 := by omega
            have hpl0 : (0 : Int) ≤ (pn : Int) := by omega
            clear hcnt hple e
            go_wp2_with (go_at_call 24; go_loud (refine (len_any _ X f1 L (P4.out.next HW.out).hst).mono ?_; rintro e w9 ⟨rfl, hw⟩; subst hw))
            go_returns
            exact ⟨rfl, past P4.out.below HW.out⟩
  · have h61 : (60 : Int) < (N : Int) := by omega
    go_enter Try.func7, Try.ntmps7
    go_wp2_with (go_at_call 8; go_loud (refine (awake_any _).mono ?_; rintro e w1 ⟨rfl, hb⟩; have A1 := Lib.hid hb; clear hb))
    go_returns
    exact ⟨rfl, A1.out⟩
end Go.Proofs.Ytfacojlheeoppaa.hist
