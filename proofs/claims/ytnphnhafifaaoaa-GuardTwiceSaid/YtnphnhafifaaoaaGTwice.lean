/- The law GuardTwice answers true at any number and lists. -/
import Derived.Test.YtnphnhafifaaoaaGTwiceL
import Derived.Deep.RegionHeld3
namespace Go.Proofs.Ytnphnhafifaaoaa.guard
open Go.RowKit mem life

set_option maxRecDepth 100000 in
set_option maxHeartbeats 1000000 in
theorem twice_long (w : World) (y : Int) (a a2 : Option Addr) (N cap M cap2 : Nat) (hl : 40 < (N : Int)) :
    Calls Try.prog 6 #[.int .u8 y, .slice a N cap, .slice a2 M cap2] w fun e w' => e = .returned (.bool true) ∧ Below w.heap.size w w' := by
  have hq : decide ((40 : Int) < (N : Int)) = true := decide_eq_true hl
  go_enter Try.func6, Try.ntmps6
  go_wp2_with (go_at_call 7; refine (awake_any _).mono ?_; rintro e w1 ⟨rfl, hb⟩; have HB := Lib.hid hb; clear hb)
  go_returns
  exact ⟨rfl, HB.out⟩
set_option maxRecDepth 100000 in
set_option maxHeartbeats 1000000 in
theorem twice_long2 (w : World) (y : Int) (a a2 : Option Addr) (N cap M cap2 : Nat) (hl : (N : Int) ≤ 40) (hl2 : 60 < (M : Int)) :
    Calls Try.prog 6 #[.int .u8 y, .slice a N cap, .slice a2 M cap2] w fun e w' => e = .returned (.bool true) ∧ Below w.heap.size w w' := by
  have hq : decide ((40 : Int) < (N : Int)) = false := decide_eq_false (by omega)
  have hq2 : decide ((60 : Int) < (M : Int)) = true := decide_eq_true hl2
  go_enter Try.func6, Try.ntmps6
  go_wp2_with (go_at_call 7; refine (awake_any _).mono ?_; rintro e w1 ⟨rfl, hb⟩; have HB := Lib.hid hb; clear hb)
  go_returns
  exact ⟨rfl, HB.out⟩

set_option maxRecDepth 100000 in
set_option maxHeartbeats 2000000 in
theorem twice_short (w : World) (y : Int) (a a2 : Option Addr) (xs zs2 : List Int) (N cap M cap2 : Nat) (hN : xs.length = N) (hM : zs2.length = M) (hl : (N : Int) ≤ 40) (hl2 : (M : Int) ≤ 60) (hx : BytesAt w a xs) (hx2 : BytesAt w a2 zs2) (y0 : 0 ≤ y) (y1 : y < 256) :
    Calls Try.prog 6 #[.int .u8 y, .slice a N cap, .slice a2 M cap2] w fun e w' => e = .returned (.bool true) ∧ Below w.heap.size w w' := by
  have hq : decide ((40 : Int) < (N : Int)) = false := decide_eq_false (by omega)
  have hq2 : decide ((60 : Int) < (M : Int)) = false := decide_eq_false (by omega)
  have t0 : 1 ≤ 1 + y % 8 := by omega
  have t1 : 1 + y % 8 ≤ 8 := by omega
  have HX := Lib.hid hx
  have HN := Lib.hid hN
  have HX2 := Lib.hid hx2
  have HM := Lib.hid hM
  clear hx hN hx2 hM
  have hmk := make40
  go_enter Try.func6, Try.ntmps6
  go_wp2_with (go_at_call 7; refine (awake_any _).mono ?_; rintro e w1 ⟨rfl, hb⟩; have O0 := Lib.hid (Ones.made hb rfl); clear hb)
  clear hmk
  go_loopw [37] (fun i wr => ∃ (j : Nat) (R : List Int), j ≤ 40 ∧ i = .int .i64 j ∧ Ones w wr w1.heap.size j R) (fun i _ => 40 - (intOf i).toNat)
  case atStart => exact ⟨0, _, Nat.zero_le _, rfl, O0.out⟩
  case round =>
    clear O0
    obtain ⟨j, R, hj, rfl, ho⟩ := hrel
    have HO := Lib.hid ho
    clear ho
    by_cases hlt : j < 40
    · have c := HO.out.cell hlt
      have fz := HO.out.box.free j
      go_wp2
      go_roundw
      case rel => exact ⟨j + 1, _, by omega, by go_num, HO.out.put hlt⟩
      case measure => simp [intOf]; omega
    · obtain rfl : j = 40 := by omega
      go_wp2_with (go_at_call 8; refine (memory_full _ (1 + y % 8) 40 _ R 40 _ HO.out.len (by omega) (by omega) (by omega) (by omega) (by omega) HO.out.words HO.out.range).mono ?_; rintro e w2 ⟨X, Y, zs0, rfl, hnn, hs, hlv, hrs⟩; have R0 : Hid (Room w (w2.alloc (.cells (layCells (1 + y % 8) 40) 28)) w2.heap.size X Y (1 + y % 8) 40 zs0) := Lib.hid (Room.made HO.out.below hnn); have L0 : Hid (Laid (1 + y % 8) zs0 0) := Lib.hid ⟨hs, allOne HO.out hlv, fun k _ _ => hrs _ (by unfold slotA; omega)⟩; clear hnn hs hlv hrs)
      clear HO
      generalize 1 + y % 8 = t at *
      go_loopw [55] (fun i wr => ∃ (j : Nat) (zs : List Int), j ≤ N ∧ i = .int .i64 j ∧ Laid t zs j ∧ Room w wr w2.heap.size X Y t 40 zs) (fun i _ => N - (intOf i).toNat)
      case atStart => exact ⟨0, zs0, Nat.zero_le _, rfl, L0.out, R0.out⟩
      case round =>
        clear L0 R0
        obtain ⟨j, zs, hj, rfl, hla, hr⟩ := hrel
        have HL := Lib.hid hla
        have HR := Lib.hid hr
        clear hla hr
        have q0 : wr.cell? ⟨w2.heap.size, 0, none⟩ = some (.int .i64 t) := HR.out.lay.at 0 rfl
        have q1 : wr.cell? ⟨w2.heap.size, 1, none⟩ = some (.int .i64 40) := HR.out.lay.at 1 rfl
        by_cases hlt : j < N
        · obtain ⟨b0, b1, b, rfl, hc⟩ := (HX.out.later HR.out.below) j (by rw [HN.out]; exact hlt)
          generalize xs.getD j 0 = v at *
          have hwv : IntKind.u64.wrap v = v := by rw [IntKind.wrap_u64]; omega
          by_cases hjt : (j : Int) < 2 * t
          · have HL2 : Hid (Laid t (setAt zs (slotA 40 j) (v % 41)) (j + 1)) := Lib.hid (HL.out.put (by omega) (by omega))
            go_wp2_with (first
              | (go_at_call 9; go_loud (refine (Store_s R1.out.mem (slotA 40 j) (v % 41)).mono ?_; rintro e w4 ⟨rfl, hm, ha⟩; have R2 := Lib.hid (R1.out.act hm ha); clear hm ha))
              | (go_at_call 10; refine (Slot_at _ t 40 ((j : Int) / 2) ((j : Int) % 2) (slotA 40 j) (by omega) (by omega) (by omega) (by omega) (by omega) (by omega) (by rw [show 2 * ((j : Int) / 2) + (j : Int) % 2 = j by omega])).mono ?_; rintro e w3 ⟨rfl, hb⟩; have R1 := Lib.hid (HR.out.next hb); clear hb))
            go_roundw
            case rel => exact ⟨j + 1, _, by omega, by go_num, HL2.out, R2.out⟩
            case measure => simp [intOf]; omega
          · go_wp2
            go_roundw
            case rel => exact ⟨j + 1, _, by omega, by go_num, HL.out.skip hjt, HR.out⟩
            case measure => simp [intOf]; omega
        · obtain ⟨z, hz, z0, z1⟩ := sound_len HL.out.sound
          have HZ := Lib.hid hz
          clear hz
          have HSO := Lib.hid HL.out.sound
          obtain ⟨ws, hws⟩ : ∃ ws, ws = slotsAll t 40 zs := ⟨_, rfl⟩
          have HWS := Lib.hid hws
          clear hws HL
          go_wp2_with (first
            | (go_at_call 17; have _t := TW3.out; go_loud (refine (scan_ran HSO.out (by have := HAI.out.2.1; omega) HAI.out.1 (L3.out.next ((Below.refl _ _).alloc (Nat.le_refl _) _)) (K := told ws A) (by rw [HWS.out]) (F := untold ws A) (by rw [HWS.out]; rfl) (2 * t + ((untold ws A).length : Int)) rfl 200 (by have := HAI.out.2.2.1; omega) (by omega) _ (by simp)).mono ?_; rintro e w9 ⟨rfl, kvs, fvs, nvs, ss, tvs, gvs, hsc, hk, hf⟩; have TA4 : Hid (TA w w9 w2.heap.size X Y X2 Y2 C t (giveTo 40 zs (untold ws A) (untold ws A).length) zs (.slice aa A.length ac) A kvs (told ws A)) := Lib.hid ⟨TW3.out.moved B3.out.1 (by decide) (by decide) (by decide) (by decide) B3.out.2 hsc.mem hsc.apart, ⟨_, hsc.box, rfl⟩, hk.low (Nat.zero_le _)⟩; clear hsc hk hf))
            | (go_at_call 16; have _t := TW2.out; refine (New_any _ 0 t 40 _ A TW2.out.ask (by have := HAI.out.2.1; omega)).mono ?_; rintro e w8 ⟨C, nv8, rfl, hn⟩; have TW3 := Lib.hid (TW2.out.next hn.below); have L3 := Lib.hid (hn.start TW3.out.duo.room.mem); have B3 : Hid (Box w8 C (scCells t 40 (.slice none 0 0) (.slice none 0 0) nv8 0 (.map none) (.pointer none)) 49 ∧ w.heap.size ≤ C) := Lib.hid ⟨hn.box, by have h1 := TW2.out.duo.room.lt; have h3 := hn.c; omega⟩; clear hn)
            | (go_at_call 12; refine (nodes_any _ a2 zs2 M cap2 HM.out (by omega) (HX2.out.later D1.out.room.below)).mono ?_; rintro e w5 ⟨av, rfl, hnu, hb⟩; obtain ⟨A, hA⟩ : ∃ A, A = nodesTo 40 zs2 M := ⟨_, rfl⟩; rw [← hA] at hnu; have HAI : Hid ((∀ x ∈ A, 1 ≤ x ∧ x ≤ 40) ∧ A.length ≤ 60 ∧ (untold ws A).length ≤ 60 ∧ (told ws A).length ≤ 60) := Lib.hid (nodes_facts hA (by omega) ws); have HND : Hid A.Nodup := Lib.hid (by rw [hA]; exact nodesTo_nodup 40 zs2 M); clear hA; obtain ⟨aa, ac, rfl, _⟩ := hnu.cells; have TW2 : Hid (TW w w5 w2.heap.size X Y X2 Y2 t zs zs (.slice aa A.length ac) A) := Lib.hid ⟨D1.out.next hb, hnu.low (Nat.zero_le _)⟩; clear hnu hb; have e0 : w5.cell? ⟨w2.heap.size, 0, none⟩ = some (.int .i64 t) := TW2.out.duo.room.lay.at 0 rfl; have e1 : w5.cell? ⟨w2.heap.size, 1, none⟩ = some (.int .i64 40) := TW2.out.duo.room.lay.at 1 rfl)
            | (go_at_call 11; refine (Copy_s HR.out.mem z HZ.out z0 z1).mono ?_; rintro e w4 ⟨X2, Y2, rfl, hn⟩; have D1 := Lib.hid (Duo.made HR.out hn); clear hn))
          obtain ⟨m1, hm1⟩ : ∃ m1, m1 = giveTo 40 zs (untold ws A) (untold ws A).length := ⟨_, rfl⟩
          have HM1 := Lib.hid hm1
          have HS1 : Hid (Sound t 40 m1) := Lib.hid (by rw [hm1]; exact giveTo_sound HSO.out _ _)
          rw [← hm1] at TA4
          clear hm1 TW3 L3 B3 TW2 D1 HR q0 q1 e0 e1 HX HX2 HN HM
          go_wp2
          go_loopw [18] (fun i wr => ∃ k : Nat, (k : Int) ≤ t ∧ i = .int .i64 k ∧ TA w wr w2.heap.size X Y X2 Y2 C t (dropTo 40 m1 k) (dropTo 40 zs k) (.slice aa A.length ac) A kvs (told ws A)) (fun i _ => t.toNat - (intOf i).toNat)
          case atStart => exact ⟨0, by omega, rfl, TA4.out⟩
          case round =>
            clear TA4
            obtain ⟨k, hk, rfl, hta⟩ := hrel
            have HT := Lib.hid hta
            clear hta
            have q0 : wr.cell? ⟨w2.heap.size, 0, none⟩ = some (.int .i64 t) := HT.out.tw.duo.room.lay.at 0 rfl
            have q1 : wr.cell? ⟨w2.heap.size, 1, none⟩ = some (.int .i64 40) := HT.out.tw.duo.room.lay.at 1 rfl
            by_cases hkt : (k : Int) < t
            · have HSK : Hid (Sound t 40 (dropTo 40 m1 k)) := Lib.hid (dropTo_sound HS1.out k)
              go_wp2_with (first
                | (go_at_call 9; have _t := T5.out; refine (Store_s T5.out.tw.duo.two _ 0).mono ?_; rintro e w10 ⟨rfl, hm, ha⟩; have T6 := Lib.hid (T5.out.act2 hm ha); clear hm ha)
                | (go_at_call 10; have _t := T4.out; refine (Slot_at _ t 40 k 1 (slotA 40 (2 * (k : Int) + 1)) (by omega) (by omega) (by omega) (by omega) (by omega) (by omega) rfl).mono ?_; rintro e w9 ⟨rfl, hb⟩; have T5 := Lib.hid (T4.out.next hb); clear hb)
                | (go_at_call 9; have _t := T3.out; refine (Store_s T3.out.tw.duo.two _ 0).mono ?_; rintro e w8 ⟨rfl, hm, ha⟩; have T4 := Lib.hid (T3.out.act2 hm ha); clear hm ha; have p4 : w8.cell? ⟨w2.heap.size, 0, none⟩ = some (.int .i64 t) := T4.out.tw.duo.room.lay.at 0 rfl; have p5 : w8.cell? ⟨w2.heap.size, 1, none⟩ = some (.int .i64 40) := T4.out.tw.duo.room.lay.at 1 rfl)
                | (go_at_call 10; have _t := T2.out; refine (Slot_at _ t 40 k 0 (slotA 40 (2 * (k : Int))) (by omega) (by omega) (by omega) (by omega) (by omega) (by omega) (by rw [show 2 * (k : Int) + 0 = 2 * (k : Int) by omega])).mono ?_; rintro e w7 ⟨rfl, hb⟩; have T3 := Lib.hid (T2.out.next hb); clear hb)
                | (go_at_call 17; have _t := T1.out; go_loud (refine (drop_run HSK.out (C1.out.1.next ((Below.refl _ _).alloc (Nat.le_refl _) _)) (by omega) hkt 9 (by omega) (by omega) _ (by simp)).mono ?_; rintro e w6 ⟨rfl, s6, hcl⟩; have T2 := Lib.hid (T1.out.moved C1.out.1.box (by decide) (by decide) (by decide) (by decide) C1.out.2.2 C1.out.2.1 hcl.mem hcl.apart); clear hcl; have p2 : w6.cell? ⟨w2.heap.size, 0, none⟩ = some (.int .i64 t) := T2.out.tw.duo.room.lay.at 0 rfl; have p3 : w6.cell? ⟨w2.heap.size, 1, none⟩ = some (.int .i64 40) := T2.out.tw.duo.room.lay.at 1 rfl))
                | (go_at_call 21; refine (Drop_any _ t 40 k).mono ?_; rintro e w5 ⟨C2, rfl, hbx, hb, hC⟩; have T1 := Lib.hid (HT.out.next hb); have C1 : Hid (Cl w5 w5 X Y C2 t 40 (dropTo 40 m1 k) k 0 ∧ w.heap.size ≤ C2 ∧ C2 ≠ C) := Lib.hid (by have h1 := HT.out.tw.duo.room.lt; have h2 := HT.out.lt; exact ⟨⟨T1.out.tw.duo.room.mem, hbx, Apart3.refl _⟩, by omega, by omega⟩); clear hbx hb hC))
              go_roundw
              case rel => exact ⟨k + 1, by omega, by go_num, T6.out⟩
              case measure => simp [intOf]; omega
            · have hkt2 : (k : Int) = t := by omega
              have HKT := Lib.hid hkt2
              clear hkt2
              obtain ⟨K, hK⟩ : ∃ K, K = told ws A := ⟨_, rfl⟩
              have hKA : ∀ x ∈ K, 1 ≤ x ∧ x ≤ 40 := by rw [hK]; exact fun x hx => HAI.out.1 x (List.mem_filter.1 hx).1
              have hKl : K.length ≤ 60 := by rw [hK]; exact HAI.out.2.2.2
              obtain ⟨m2, hm2⟩ : ∃ m2, m2 = dropTo 40 m1 k := ⟨_, rfl⟩
              obtain ⟨u2, hu2⟩ : ∃ u2, u2 = dropTo 40 zs k := ⟨_, rfl⟩
              have HS2 : Hid (Sound t 40 m2) := Lib.hid (by rw [hm2]; exact dropTo_sound HS1.out k)
              have HN2 : Hid (told (slotsAll t 40 m2) K = []) := Lib.hid (by rw [hm2]; exact told_none HS1.out k HKT.out K hKA)
              have HF2 : Hid (freeOf t 40 m2 K = K) := Lib.hid (by rw [hm2]; exact free_all HS1.out k HKT.out K hKA)
              have HBO : Hid (giveTo 40 m2 K K.length = giveTo 40 u2 A A.length) := Lib.hid (by rw [hm2, hu2, HM1.out, hK]; exact both HSO.out ws A HAI.out.1 HND.out k HKT.out)
              have HKA := Lib.hid hKA
              have HKL := Lib.hid hKl
              rw [← hK, ← hm2, ← hu2] at HT
              obtain ⟨ka, kc, rfl, _⟩ := HT.out.kept.cells
              have HKV : Hid (wr.drew.cell? ⟨C, 2, none⟩ = some (.slice ka K.length kc)) := Lib.hid HT.out.drew.cell
              have hkv := HKV.out
              have p0 : wr.drew.cell? ⟨w2.heap.size, 0, none⟩ = some (.int .i64 t) := HT.out.drew.tw.duo.room.lay.at 0 rfl
              have p1 : wr.drew.cell? ⟨w2.heap.size, 1, none⟩ = some (.int .i64 40) := HT.out.drew.tw.duo.room.lay.at 1 rfl
              clear hK hm2 hu2 hKA hKl HS1 HM1 HWS HSO HND
              go_wp2
              go_region_held3 (fun wx => wx.cell? ⟨w2.heap.size, 0, none⟩ = some (.int .i64 t) ∧ wx.cell? ⟨w2.heap.size, 1, none⟩ = some (.int .i64 40) ∧ wx.cell? ⟨C, 2, none⟩ = some (.slice ka K.length kc)) (first | exact ⟨p2, p3, T1.out.cell⟩ | exact ⟨p0, p1, hkv⟩ | go_keep) (first
                | (go_at_call 16; refine (New_any _ 0 t 40 _ K HT.out.drew.kept (by have := HKL.out; omega)).mono ?_; rintro e w5 ⟨C2, nv5, rfl, hn⟩; have T1 := Lib.hid (HT.out.drew.next hn.below); have L1 := Lib.hid (hn.start T1.out.tw.duo.room.mem); have B1 : Hid (Box w5 C2 (scCells t 40 (.slice none 0 0) (.slice none 0 0) nv5 0 (.map none) (.pointer none)) 49 ∧ w.heap.size ≤ C2 ∧ C2 ≠ C) := Lib.hid ⟨hn.box, (by have h1 := HT.out.drew.tw.duo.room.lt; have h3 := hn.c; omega), (by have h1 := HT.out.drew.lt; have h3 := hn.c; omega)⟩; clear hn; have p2 : w5.cell? ⟨w2.heap.size, 0, none⟩ = some (.int .i64 t) := T1.out.tw.duo.room.lay.at 0 rfl; have p3 : w5.cell? ⟨w2.heap.size, 1, none⟩ = some (.int .i64 40) := T1.out.tw.duo.room.lay.at 1 rfl))
              all_goals
                clear p0 p1 hkv
                go_wp2_with (first
                  | (go_at_call 17; have _t := T1.out; go_loud (refine (scan_ran HS2.out (by have := HKL.out; omega) HKA.out (L1.out.next ((Below.refl _ _).alloc (Nat.le_refl _) _)) HN2.out HF2.out (2 * t + (K.length : Int)) rfl 200 (by have := HKL.out; omega) (by omega) _ (by simp)).mono ?_; rintro e w6 ⟨rfl, kv2, fv2, nv2, s2, tv2, gv2, hsc, hk, hf⟩; obtain rfl := nums_nil hk; have T2 := Lib.hid (T1.out.moved B1.out.1 (by decide) (by decide) (by decide) (by decide) B1.out.2.2 B1.out.2.1 hsc.mem hsc.apart); have NF := Lib.hid hf; have B2 := Lib.hid hsc.box; clear hsc hk hf)))
                have g0 : w6.drew.cell? ⟨C2, 2, none⟩ = some (.slice none 0 0) := B2.out.drew.at 2 rfl
                have g1 : w6.drew.cell? ⟨C2, 3, none⟩ = some fv2 := B2.out.drew.at 3 rfl
                have g2 : w6.drew.cell? ⟨C, 2, none⟩ = some (.slice ka K.length kc) := T2.out.drew.cell
                go_region_held3 (fun wx => wx.cell? ⟨C2, 2, none⟩ = some (.slice none 0 0) ∧ wx.cell? ⟨C2, 3, none⟩ = some fv2 ∧ wx.cell? ⟨C, 2, none⟩ = some (.slice ka K.length kc)) (first | exact ⟨B3.out.at 2 rfl, B3.out.at 3 rfl, T3.out.cell⟩ | exact ⟨g0, g1, g2⟩ | go_keep) (first
                  | (go_at_call 19; refine (ints_same _ _ _ fv2 _ K K rfl (NF.out.below (w' := w6.drew) ((Below.refl _ _).drew)) T2.out.drew.kept (by have := HKL.out; omega)).mono ?_; rintro e w7 ⟨rfl, hb⟩; have T3 := Lib.hid (T2.out.drew.next hb); have B3 := Lib.hid (B2.out.drew.below hb); clear hb))
                all_goals
                  clear g0 g1 g2
                  have HSG : Hid (Sound t 40 (giveTo 40 m2 K K.length)) := Lib.hid (giveTo_sound HS2.out _ _)
                  obtain ⟨m3, hm3⟩ : ∃ m3, m3 = giveTo 40 m2 K K.length := ⟨_, rfl⟩
                  rw [← hm3] at T3 HSG HBO
                  have W3 : Hid (TW w w7 w2.heap.size X Y X2 Y2 t m3 u2 (.slice aa A.length ac) A) := Lib.hid T3.out.tw
                  clear hm3 T3 B3 T2 NF B2
                  go_wp2
                  go_loopw [155] (fun i wr => ∃ j : Nat, j ≤ A.length ∧ i = .int .i64 j ∧ TW w wr w2.heap.size X Y X2 Y2 t m3 (giveTo 40 u2 A j) (.slice aa A.length ac) A) (fun i _ => A.length - (intOf i).toNat)
                  case atStart => exact ⟨0, Nat.zero_le _, rfl, W3.out⟩
                  case round =>
                    clear W3
                    obtain ⟨j, hj, rfl, htw⟩ := hrel
                    have HW := Lib.hid htw
                    clear htw
                    have q0 : wr.cell? ⟨w2.heap.size, 0, none⟩ = some (.int .i64 t) := HW.out.duo.room.lay.at 0 rfl
                    have q1 : wr.cell? ⟨w2.heap.size, 1, none⟩ = some (.int .i64 40) := HW.out.duo.room.lay.at 1 rfl
                    have hAl : A.length ≤ 60 := HAI.out.2.1
                    by_cases hlt : j < A.length
                    · obtain ⟨a', c', hav, hcl⟩ := HW.out.ask.cells
                      obtain ⟨g, ha', hc⟩ := hcl j hlt
                      have hag : aa = some ⟨g, 0, none⟩ := by
                        cases hav
                        exact ha'
                      subst hag
                      clear hav hcl ha'
                      obtain ⟨x, hxx⟩ : ∃ x, x = A.getD j 0 := ⟨_, rfl⟩
                      have hxm : x ∈ A := by rw [hxx, List.getD_eq_getElem?_getD, List.getElem?_eq_getElem hlt]; exact List.getElem_mem _
                      obtain ⟨x0, x1⟩ := HAI.out.1 x hxm
                      have hup : giveTo 40 u2 A (j + 1) = upLife 40 (giveTo 40 u2 A j) x := by rw [hxx]; rfl
                      have HUP := Lib.hid hup
                      rw [← hxx] at hc
                      clear hxx hxm hup
                      go_wp2_with (first
                        | (go_at_call 14; have _t := W4.out; refine (Add_s W4.out.duo.two (lifeA 40 x) 1 (lifeIn 40 (giveTo 40 u2 A j) x) rfl).mono ?_; rintro e w9 ⟨rfl, hm9, ha9⟩; have W5 := Lib.hid (W4.out.act2 hm9 ha9); clear hm9 ha9)
                        | (go_at_call 15; have _t := HW.out; refine (Life_at _ t 40 x (by omega) (by omega) (by omega) (by omega)).mono ?_; rintro e w8 ⟨rfl, hb⟩; have W4 := Lib.hid (HW.out.next hb); clear hb))
                      go_roundw
                      case rel => exact ⟨j + 1, by omega, by go_num, by rw [HUP.out]; exact W5.out⟩
                      case measure => simp [intOf]; omega
                    · have hjA : j = A.length := by omega
                      subst hjA
                      go_wp2_with (go_at_call 20; have _t := HW.out; refine (same_yes HSG.out HW.out.duo.room.mem HW.out.duo.two HBO.out).mono ?_; rintro e w10 ⟨rfl, hb⟩; have W6 := Lib.hid (HW.out.next hb); clear hb)
                      go_returns
                      exact ⟨rfl, W6.out.duo.room.below⟩
theorem twice_any (w : World) (y : Int) (a a2 : Option Addr) (xs zs2 : List Int) (N cap M cap2 : Nat) (hN : xs.length = N) (hM : zs2.length = M) (hx : BytesAt w a xs) (hx2 : BytesAt w a2 zs2) (y0 : 0 ≤ y) (y1 : y < 256) :
    Calls Try.prog 6 #[.int .u8 y, .slice a N cap, .slice a2 M cap2] w fun e w' => e = .returned (.bool true) ∧ Below w.heap.size w w' := by
  by_cases hl : (N : Int) ≤ 40
  · by_cases hl2 : (M : Int) ≤ 60
    · exact twice_short w y a a2 xs zs2 N cap M cap2 hN hM hl hl2 hx hx2 y0 y1
    · exact twice_long2 w y a a2 N cap M cap2 hl (by omega)
  · exact twice_long w y a a2 N cap M cap2 (by omega)
end Go.Proofs.Ytnphnhafifaaoaa.guard
