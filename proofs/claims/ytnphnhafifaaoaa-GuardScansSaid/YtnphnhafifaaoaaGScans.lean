/- The law GuardScans answers true at any number and lists. -/
import Derived.Test.YtnphnhafifaaoaaG4
import Derived.Deep.RegionHeld3
namespace Go.Proofs.Ytnphnhafifaaoaa.guard
open Go.RowKit mem life

set_option maxRecDepth 100000 in
set_option maxHeartbeats 1000000 in
theorem scans_long (w : World) (y : Int) (a a2 : Option Addr) (N cap M cap2 : Nat) (hl : 40 < (N : Int)) :
    Calls Try.prog 3 #[.int .u8 y, .slice a N cap, .slice a2 M cap2] w fun e w' => e = .returned (.bool true) ∧ Below w.heap.size w w' := by
  have hq : decide ((40 : Int) < (N : Int)) = true := decide_eq_true hl
  go_enter Try.func3, Try.ntmps3
  go_wp2_with (go_at_call 7; refine (awake_any _).mono ?_; rintro e w1 ⟨rfl, hb⟩; have HB := Lib.hid hb; clear hb)
  go_returns
  exact ⟨rfl, HB.out⟩
set_option maxRecDepth 100000 in
set_option maxHeartbeats 1000000 in
theorem scans_long2 (w : World) (y : Int) (a a2 : Option Addr) (N cap M cap2 : Nat) (hl : (N : Int) ≤ 40) (hl2 : 60 < (M : Int)) :
    Calls Try.prog 3 #[.int .u8 y, .slice a N cap, .slice a2 M cap2] w fun e w' => e = .returned (.bool true) ∧ Below w.heap.size w w' := by
  have hq : decide ((40 : Int) < (N : Int)) = false := decide_eq_false (by omega)
  have hq2 : decide ((60 : Int) < (M : Int)) = true := decide_eq_true hl2
  go_enter Try.func3, Try.ntmps3
  go_wp2_with (go_at_call 7; refine (awake_any _).mono ?_; rintro e w1 ⟨rfl, hb⟩; have HB := Lib.hid hb; clear hb)
  go_returns
  exact ⟨rfl, HB.out⟩

set_option maxRecDepth 100000 in
set_option maxHeartbeats 2000000 in
theorem scans_short (w : World) (y : Int) (a a2 : Option Addr) (xs zs2 : List Int) (N cap M cap2 : Nat) (hN : xs.length = N) (hM : zs2.length = M) (hl : (N : Int) ≤ 40) (hl2 : (M : Int) ≤ 60) (hx : BytesAt w a xs) (hx2 : BytesAt w a2 zs2) (y0 : 0 ≤ y) (y1 : y < 256) :
    Calls Try.prog 3 #[.int .u8 y, .slice a N cap, .slice a2 M cap2] w fun e w' => e = .returned (.bool true) ∧ Below w.heap.size w w' := by
  have hq : decide ((40 : Int) < (N : Int)) = false := decide_eq_false (by omega)
  have hq2 : decide ((60 : Int) < (M : Int)) = false := decide_eq_false (by omega)
  have t0 : 1 ≤ 1 + y % 8 := by omega
  have t1 : 1 + y % 8 ≤ 8 := by omega
  have HX := Lib.hid hx
  have HN := Lib.hid hN
  have HX2 := Lib.hid hx2
  have HM := Lib.hid hM
  clear hx hN hx2 hM
  have hmk := make40
  go_enter Try.func3, Try.ntmps3
  go_wp2_with (go_at_call 7; refine (awake_any _).mono ?_; rintro e w1 ⟨rfl, hb⟩; have O0 := Lib.hid (Ones.made hb rfl); clear hb)
  clear hmk
  go_loopw [36] (fun i wr => ∃ (j : Nat) (R : List Int), j ≤ 40 ∧ i = .int .i64 j ∧ Ones w wr w1.heap.size j R) (fun i _ => 40 - (intOf i).toNat)
  case atStart => exact ⟨0, _, Nat.zero_le _, rfl, O0.out⟩
  case round =>
    clear O0
    obtain ⟨j, R, hj, rfl, ho⟩ := hrel
    have HO := Lib.hid ho
    clear ho
    by_cases hlt : j < 40
    · have c := HO.out.cell hlt
      have fz := HO.out.box.free j
      go_wp2
      go_roundw
      case rel => exact ⟨j + 1, _, by omega, by go_num, HO.out.put hlt⟩
      case measure => simp [intOf]; omega
    · obtain rfl : j = 40 := by omega
      have hmm := @run_makeMap Try.prog
      go_wp2_with (go_at_call 8; refine (memory_full _ (1 + y % 8) 40 _ R 40 _ HO.out.len (by omega) (by omega) (by omega) (by omega) (by omega) HO.out.words HO.out.range).mono ?_; rintro e w2 ⟨X, Y, zs0, rfl, hnn, hs, hlv, hrs⟩; have R0 : Hid (Room w (w2.alloc (.cells (layCells (1 + y % 8) 40) 28)) w2.heap.size X Y (1 + y % 8) 40 zs0) := Lib.hid (Room.made HO.out.below hnn); have L0 : Hid (Laid (1 + y % 8) zs0 0) := Lib.hid ⟨hs, allOne HO.out hlv, fun k _ _ => hrs _ (by unfold slotA; omega)⟩; have P0 : Hid (Put w ((w2.alloc (.cells (layCells (1 + y % 8) 40) 28)).alloc (.map #[] 0)) w2.heap.size X Y (w2.heap.size + 1) (1 + y % 8) zs0 0 (fun _ => false)) := Lib.hid (Put.made R0.out (by simp)); clear hnn hs hlv hrs R0)
      clear hmm HO
      generalize 1 + y % 8 = t at *
      go_loopw [55] (fun i wr => ∃ (j : Nat) (zs : List Int) (c : Nat) (f : Int → Bool), j ≤ N ∧ i = .int .i64 j ∧ c ≤ j ∧ Laid t zs j ∧ (∀ i : Int, 1 ≤ i → guardedB t 40 zs i = f i) ∧ Put w wr w2.heap.size X Y (w2.heap.size + 1) t zs c f) (fun i _ => N - (intOf i).toNat)
      case atStart => exact ⟨0, zs0, 0, _, Nat.zero_le _, rfl, Nat.le_refl _, L0.out, fun i i0 => guarded_none L0.out i i0, P0.out⟩
      case round =>
        clear L0 P0
        obtain ⟨j, zs, c, f, hj, rfl, hcj, hla, hag, hpu⟩ := hrel
        have HL := Lib.hid hla
        have HA := Lib.hid hag
        have HP := Lib.hid hpu
        clear hla hag hpu
        have q0 : wr.cell? ⟨w2.heap.size, 0, none⟩ = some (.int .i64 t) := HP.out.room.lay.at 0 rfl
        have q1 : wr.cell? ⟨w2.heap.size, 1, none⟩ = some (.int .i64 40) := HP.out.room.lay.at 1 rfl
        by_cases hlt : j < N
        · obtain ⟨b0, b1, b, rfl, hc⟩ := (HX.out.later HP.out.room.below) j (by rw [HN.out]; exact hlt)
          generalize xs.getD j 0 = v at *
          have hwv : IntKind.u64.wrap v = v := by rw [IntKind.wrap_u64]; omega
          by_cases hjt : (j : Int) < 2 * t
          · have HA2 : Hid (∀ i : Int, 1 ≤ i → guardedB t 40 (setAt zs (slotA 40 j) (v % 41)) i = (i == v % 41 || f i)) := Lib.hid fun i i0 => by rw [guarded_put HL.out hjt i i0, HA.out i i0]
            have HL2 : Hid (Laid t (setAt zs (slotA 40 j) (v % 41)) (j + 1)) := Lib.hid (HL.out.put (by omega) (by omega))
            go_wp2_with (first
              | (go_at_call 9; go_loud (refine (Store_s P1.out.room.mem (slotA 40 j) (v % 41)).mono ?_; rintro e w4 ⟨rfl, hm, ha⟩; have P2 := Lib.hid (P1.out.act hm ha); clear hm ha; obtain ⟨w5, hrun, hs5, hg5⟩ := P2.out.map.put (by unfold maxLen; omega) (a := v % 41) (by omega) (by omega); have P3 := Lib.hid (P2.out.entry hs5 hg5); clear hs5 hg5))
              | (go_at_call 10; refine (Slot_at _ t 40 ((j : Int) / 2) ((j : Int) % 2) (slotA 40 j) (by omega) (by omega) (by omega) (by omega) (by omega) (by omega) (by rw [show 2 * ((j : Int) / 2) + (j : Int) % 2 = j by omega])).mono ?_; rintro e w3 ⟨rfl, hb⟩; have P1 := Lib.hid (HP.out.next hb); clear hb))
            go_roundw
            case rel => exact ⟨j + 1, _, c + 1, _, by omega, by go_num, by omega, HL2.out, HA2.out, P3.out⟩
            case measure => simp [intOf]; omega
          · go_wp2
            go_roundw
            case rel => exact ⟨j + 1, _, c, _, by omega, by go_num, by omega, HL.out.skip hjt, HA.out, HP.out⟩
            case measure => simp [intOf]; omega
        · obtain ⟨z, hz, z0, z1⟩ := sound_len HL.out.sound
          have HZ := Lib.hid hz
          clear hz
          go_wp2_with (first
            | (go_at_call 12; refine (nodes_any _ a2 zs2 M cap2 HM.out (by omega) (HX2.out.later D1.out.1.room.below)).mono ?_; rintro e w5 ⟨av, rfl, hnu, hb⟩; obtain ⟨A, hA⟩ : ∃ A, A = nodesTo 40 zs2 M := ⟨_, rfl⟩; rw [← hA] at hnu; have HA0 := Lib.hid hA; clear hA; obtain ⟨aa, ac, rfl, _⟩ := hnu.cells; have D2 : Hid (Duo w w5 w2.heap.size X Y X2 Y2 t 40 zs zs ∧ Seen w5 (w2.heap.size + 1) c f) := Lib.hid ⟨D1.out.1.next hb, D1.out.2.below hb⟩; have NU := Lib.hid hnu; clear hnu hb)
            | (go_at_call 11; refine (Copy_s HP.out.room.mem z HZ.out z0 z1).mono ?_; rintro e w4 ⟨X2, Y2, rfl, hn⟩; have D1 : Hid (Duo w w4 w2.heap.size X Y X2 Y2 t 40 zs zs ∧ Seen w4 (w2.heap.size + 1) c f) := Lib.hid ⟨Duo.made HP.out.room hn, HP.out.map.below hn.below⟩; clear hn))
          obtain ⟨E, hE⟩ : ∃ E, E = w5.heap.size := ⟨_, rfl⟩
          have hAin : ∀ x ∈ A, 1 ≤ x ∧ x ≤ 40 := by rw [HA0.out]; exact fun x hx => nodesTo_in 40 zs2 (by omega) x M hx
          have hAlen : A.length ≤ 60 := by rw [HA0.out]; have := nodesTo_length 40 zs2 M; omega
          have SL0 : Hid (SL w w5 E w2.heap.size X Y X2 Y2 (w2.heap.size + 1) t zs zs c f (.slice aa A.length ac) A (.slice none 0 0) (.slice none 0 0) [] []) := by
            have d := D2.out.1
            have h1 := d.room.lt
            have h2 := d.two.ltX
            have h3 := d.two.ltY
            have h4 := D2.out.2.lt
            refine Lib.hid ⟨d, D2.out.2, NU.out.low (Nat.zero_le _), Two.none _ _, by omega, by omega, by omega, by omega, by omega, by omega, ?_, by omega, by omega⟩
            intro g hg
            rcases NU.out with ⟨_, h⟩ | ⟨_, g', c', h, _, hr, _⟩
            · rw [h] at hg
              cases hg
            · rw [h] at hg
              obtain rfl : g' = g := Option.some.inj hg
              have := hr.lt
              omega
          have HAI := Lib.hid hAin
          clear D2 NU HX HX2 HN HM HA0 hAin HP q0 q1 hE
          obtain ⟨ws, hws⟩ : ∃ ws, ws = slotsAll t 40 zs := ⟨_, rfl⟩
          have HWS := Lib.hid hws
          clear hws
          go_loopw [16, 17, 87] (fun kv fv i wr => ∃ j : Nat, j ≤ A.length ∧ i = .int .i64 j ∧ SL w wr E w2.heap.size X Y X2 Y2 (w2.heap.size + 1) t zs (giveTo 40 zs (untold ws (A.take j)) (untold ws (A.take j)).length) c f (.slice aa A.length ac) A kv fv (told ws (A.take j)) (untold ws (A.take j))) (fun _ _ i _ => A.length - (intOf i).toNat)
          case atStart => exact ⟨0, Nat.zero_le _, rfl, SL0.out⟩
          case round =>
            clear SL0
            obtain ⟨j, hj, rfl, hsl⟩ := hrel
            have HSL := Lib.hid hsl
            clear hsl
            have q0 : wr.cell? ⟨w2.heap.size, 0, none⟩ = some (.int .i64 t) := HSL.out.duo.room.lay.at 0 rfl
            have q1 : wr.cell? ⟨w2.heap.size, 1, none⟩ = some (.int .i64 40) := HSL.out.duo.room.lay.at 1 rfl
            by_cases hlt : j < A.length
            · obtain ⟨a', c', hav, hcl⟩ := HSL.out.ask.cells
              obtain ⟨g, ha', hc⟩ := hcl j hlt
              have hag : aa = some ⟨g, 0, none⟩ := by
                have := congrArg Value.ownBlock hav
                cases hav
                exact ha'
              subst hag
              clear hav hcl ha'
              obtain ⟨x, hxx⟩ : ∃ x, x = A.getD j 0 := ⟨_, rfl⟩
              have hxm : x ∈ A := by rw [hxx, List.getD_eq_getElem?_getD, List.getElem?_eq_getElem hlt]; exact List.getElem_mem _
              obtain ⟨x0, x1⟩ := HAI.out x hxm
              rw [← hxx] at hc
              have HXX := Lib.hid hxx
              have hgu : guardedB t 40 zs x = f x := HA.out x x0
              have hgw : guardedB t 40 zs x = decide (x ∈ ws) := by rw [HWS.out]; exact guarded_is t zs x0
              clear hxx hxm
              have hlk : (told ws (A.take j)).length ≤ 1000 := Nat.le_trans (List.length_filter_le _ _) (by simp; omega)
              have hlf : (untold ws (A.take j)).length ≤ 1000 := Nat.le_trans (List.length_filter_le _ _) (by simp; omega)
              have hmk : (told ws (A.take j)).length + 1 ≤ maxLen := by unfold maxLen; omega
              have hmf : (untold ws (A.take j)).length + 1 ≤ maxLen := by unfold maxLen; omega
              obtain ⟨i0, hi, hz0, hz1, hz2⟩ := info_parts Tryinfo_int
              by_cases hm : x ∈ ws
              · have hft : f x = true := by rw [← hgu, hgw]; exact decide_eq_true hm
                have hgt : guardedB t 40 zs x = true := by rw [hgu, hft]
                have HK : Hid (told ws (A.take (j + 1)) = told ws (A.take j) ++ [x]) := Lib.hid (by rw [told_more _ _ _ hlt, ← HXX.out, if_pos hm])
                have HU : Hid (untold ws (A.take (j + 1)) = untold ws (A.take j)) := Lib.hid (by rw [untold_more _ _ _ hlt, ← HXX.out, if_pos hm, List.append_nil])
                have HF := Lib.hid hft
                have HG := Lib.hid hgt
                clear hft hgt hgu hgw hm
                have hl2 : (Instr.lookup 31 (.map (some (w2.heap.size + 1))) (.int .i64 x) false).run Try.prog wr.drew = .ok (.bool true) wr.drew := by have h := HSL.out.drew.map.look (a := x) (by omega) (by omega); rwa [HF.out] at h
                go_wp2
                go_region_held3 (fun wx => wx.cell? ⟨w2.heap.size, 0, none⟩ = some (.int .i64 t) ∧ wx.cell? ⟨w2.heap.size, 1, none⟩ = some (.int .i64 40) ∧ (Instr.lookup 31 (.map (some (w2.heap.size + 1))) (.int .i64 x) false).run Try.prog wx = .ok (.bool true) wx) (first | exact ⟨q2, q3, hl3⟩ | exact ⟨q0, q1, hl2⟩ | go_keep) (first
                  | (go_at_call 13; refine (Guarded_any HL.out.sound HSL.out.drew.duo.room.mem x x0 (by omega)).mono ?_; rintro e w6 ⟨rfl, hb⟩; rw [HG.out]; have S1 := Lib.hid (HSL.out.drew.next hb); clear hb; have q2 : w6.cell? ⟨w2.heap.size, 0, none⟩ = some (.int .i64 t) := S1.out.duo.room.lay.at 0 rfl; have q3 : w6.cell? ⟨w2.heap.size, 1, none⟩ = some (.int .i64 40) := S1.out.duo.room.lay.at 1 rfl; have hl3 : (Instr.lookup 31 (.map (some (w2.heap.size + 1))) (.int .i64 x) false).run Try.prog w6 = .ok (.bool true) w6 := (by have h := S1.out.map.look (a := x) (by omega) (by omega); rwa [HF.out] at h)))
                all_goals
                  clear hl2
                  go_wp2_with (at_builtin; go_loud (refine wpList_append_own_at _ rfl (.tmp 102) (.tmp 104) 35 rfl E 3 i0 (.int .i64 0) 1 8 Try.underlying35 hi hz0 hz1 hz2 rfl (by decide) _ (told ws (A.take j)).length ((told ws (A.take j)).map (Value.int .i64)) rfl (S1.out.two.k.alloc (.cells #[.int .i64 x] 3)) ⟨w6.heap.size, 0, none⟩ 1 1 [.int .i64 x] rfl rfl (cell_one _ _ _ rfl) (one_cell _ rfl) hmk (by omega) (by have := S1.out.Ew; simp; omega) ?_; intro v' w7 hown' hgrow hiff hat; have S2 := Lib.hid (S1.out.more hown' hgrow hat); clear hown' hgrow hiff hat))
                  go_roundw
                  case rel => exact ⟨j + 1, by omega, by go_num, by rw [HK.out, HU.out]; exact S2.out⟩
                  case measure => simp [intOf]; omega
              · have hft : f x = false := by rw [← hgu, hgw]; exact decide_eq_false hm
                have hgt : guardedB t 40 zs x = false := by rw [hgu, hft]
                have HK : Hid (told ws (A.take (j + 1)) = told ws (A.take j)) := Lib.hid (by rw [told_more _ _ _ hlt, ← HXX.out, if_neg hm, List.append_nil])
                have HU : Hid (untold ws (A.take (j + 1)) = untold ws (A.take j) ++ [x]) := Lib.hid (by rw [untold_more _ _ _ hlt, ← HXX.out, if_neg hm])
                have HF := Lib.hid hft
                have HG := Lib.hid hgt
                clear hft hgt hgu hgw hm
                have hl2 : (Instr.lookup 31 (.map (some (w2.heap.size + 1))) (.int .i64 x) false).run Try.prog wr.drew = .ok (.bool false) wr.drew := by have h := HSL.out.drew.map.look (a := x) (by omega) (by omega); rwa [HF.out] at h
                go_wp2
                go_region_held3 (fun wx => wx.cell? ⟨w2.heap.size, 0, none⟩ = some (.int .i64 t) ∧ wx.cell? ⟨w2.heap.size, 1, none⟩ = some (.int .i64 40) ∧ (Instr.lookup 31 (.map (some (w2.heap.size + 1))) (.int .i64 x) false).run Try.prog wx = .ok (.bool false) wx) (first | exact ⟨q2, q3, hl3⟩ | exact ⟨q0, q1, hl2⟩ | go_keep) (first
                  | (go_at_call 13; refine (Guarded_any HL.out.sound HSL.out.drew.duo.room.mem x x0 (by omega)).mono ?_; rintro e w6 ⟨rfl, hb⟩; rw [HG.out]; have S1 := Lib.hid (HSL.out.drew.next hb); clear hb; have q2 : w6.cell? ⟨w2.heap.size, 0, none⟩ = some (.int .i64 t) := S1.out.duo.room.lay.at 0 rfl; have q3 : w6.cell? ⟨w2.heap.size, 1, none⟩ = some (.int .i64 40) := S1.out.duo.room.lay.at 1 rfl; have hl3 : (Instr.lookup 31 (.map (some (w2.heap.size + 1))) (.int .i64 x) false).run Try.prog w6 = .ok (.bool false) w6 := (by have h := S1.out.map.look (a := x) (by omega) (by omega); rwa [HF.out] at h)))
                all_goals
                  clear hl2
                  go_wp2_with (first
                    | (go_at_call 14; have _t := S3.out; refine (Add_s S3.out.duo.two (lifeA 40 x) 1 (lifeIn 40 (giveTo 40 zs (untold ws (A.take j)) (untold ws (A.take j)).length) x) rfl).mono ?_; rintro e w9 ⟨rfl, hm9, ha9⟩; have S4 := Lib.hid (S3.out.add hm9 ha9); clear hm9 ha9)
                    | (go_at_call 15; have _t := S2.out; refine (Life_at _ t 40 x (by omega) (by omega) (by omega) (by omega)).mono ?_; rintro e w8 ⟨rfl, hb⟩; have S3 := Lib.hid (S2.out.next hb); clear hb)
                    | (at_builtin; go_loud (refine wpList_append_own_at _ rfl (.tmp 106) (.tmp 108) 35 rfl E 3 i0 (.int .i64 0) 1 8 Try.underlying35 hi hz0 hz1 hz2 rfl (by decide) _ (untold ws (A.take j)).length ((untold ws (A.take j)).map (Value.int .i64)) rfl (S1.out.two.f.alloc (.cells #[.int .i64 x] 3)) ⟨w6.heap.size, 0, none⟩ 1 1 [.int .i64 x] rfl rfl (cell_one _ _ _ rfl) (one_cell _ rfl) hmf (by omega) (by have := S1.out.Ew; simp; omega) ?_; intro v' w7 hown' hgrow hiff hat; have S2 := Lib.hid (S1.out.swap.more hown' hgrow hat).swap; clear hown' hgrow hiff hat; have q4 : w7.cell? ⟨w2.heap.size, 0, none⟩ = some (.int .i64 t) := S2.out.duo.room.lay.at 0 rfl; have q5 : w7.cell? ⟨w2.heap.size, 1, none⟩ = some (.int .i64 40) := S2.out.duo.room.lay.at 1 rfl)))
                  go_roundw
                  case rel => exact ⟨j + 1, by omega, by go_num, by rw [HK.out, HU.out, giveTo_snoc]; exact S4.out⟩
                  case measure => simp [intOf]; omega
            · have hjA : A.length = j := by omega
              have htk : A.take j = A := List.take_of_length_le (by omega)
              rw [htk] at HSL
              have hin : ∀ x ∈ A, 1 ≤ x ∧ x ≤ 40 := HAI.out
              obtain ⟨K, hK⟩ : ∃ K, K = told ws A := ⟨_, rfl⟩
              obtain ⟨F, hF⟩ : ∃ F, F = untold ws A := ⟨_, rfl⟩
              have hFl : F.length ≤ 60 := by rw [hF]; exact Nat.le_trans (List.length_filter_le _ _) hAlen
              have hKl : K.length ≤ 60 := by rw [hK]; exact Nat.le_trans (List.length_filter_le _ _) hAlen
              rw [← hK, ← hF] at HSL
              have HKE : Hid (told (slotsAll t 40 zs) A = K) := Lib.hid (by rw [hK, HWS.out])
              have HFE : Hid (freeOf t 40 zs A = F) := Lib.hid (by rw [hF, HWS.out]; rfl)
              have HIN := Lib.hid hin
              have HSO := Lib.hid HL.out.sound
              obtain ⟨ka, kc, rfl⟩ := owns_slice HSL.out.two.k
              obtain ⟨fa, fc, rfl⟩ := owns_slice HSL.out.two.f
              clear htk hin hK hF HWS HAI HA HL hjA
              go_wp2_with (first
                | (go_at_call 13; have _t := S8.out; refine (Guarded_none _ X t 40 0 (by omega)).mono ?_; rintro e w14 ⟨rfl, hb⟩; have S9 := Lib.hid (S8.out.next hb); clear hb)
                | (go_at_call 20; have _t := S7.out; refine (same_yes (giveTo_sound HSO.out F F.length) S7.out.duo.room.mem S7.out.duo.two rfl).mono ?_; rintro e w13 ⟨rfl, hb⟩; have S8 := Lib.hid (S7.out.next hb); clear hb; have q8 : w13.cell? ⟨w2.heap.size, 0, none⟩ = some (.int .i64 t) := S8.out.duo.room.lay.at 0 rfl; have q9 : w13.cell? ⟨w2.heap.size, 1, none⟩ = some (.int .i64 40) := S8.out.duo.room.lay.at 1 rfl)
                | (go_at_call 19; have _t := S6.out; refine (ints_same _ _ _ fvs _ F F rfl N6.out (nums_of S6.out.two.f S6.out.two.fn) (by omega)).mono ?_; rintro e w12 ⟨rfl, hb⟩; have S7 := Lib.hid (S6.out.next hb); clear hb)
                | (go_at_call 19; have _t := S5.out; refine (ints_same _ _ _ kvs _ K K rfl N5.out.1 (nums_of S5.out.two.k S5.out.two.kn) (by omega)).mono ?_; rintro e w11 ⟨rfl, hb⟩; have S6 := Lib.hid (S5.out.next hb); have N6 := Lib.hid (N5.out.2.below hb); have r3 : w11.cell? ⟨C, 3, none⟩ = some fvs := (B5.out.below hb).at 3 rfl; clear hb)
                | (go_at_call 18; have _t := S4.out; refine (Steps_any _ t 40 F.length (by omega) (by omega) (by omega) (by omega)).mono ?_; rintro e w10 ⟨rfl, hb⟩; have S5 := Lib.hid (S4.out.next hb); have N5 : Hid (Nums w10 w8.heap.size kvs K ∧ Nums w10 w8.heap.size fvs F) := Lib.hid ⟨N4.out.1.below hb, N4.out.2.below hb⟩; have B5 := Lib.hid (B4.out.below hb); have q6 : w10.cell? ⟨w2.heap.size, 0, none⟩ = some (.int .i64 t) := S5.out.duo.room.lay.at 0 rfl; have r2 : w10.cell? ⟨C, 2, none⟩ = some kvs := B5.out.at 2 rfl; have r3 : w10.cell? ⟨C, 3, none⟩ = some fvs := B5.out.at 3 rfl; clear hb)
                | (go_at_call 17; have _t := S3.out; go_loud (refine (scan_ran HSO.out (by omega) HIN.out (L3.out.next ((Below.refl _ _).alloc (Nat.le_refl _) _)) HKE.out HFE.out (2 * t + F.length) rfl 200 (by omega) (by omega) _ (by simp)).mono ?_; rintro e w9 ⟨rfl, kvs, fvs, nvs, ss, tvs, gvs, hsc, hk, hf⟩; have S4 := Lib.hid (S3.out.ran B3.out.1 B3.out.2 hsc.mem hsc.apart); have N4 : Hid (Nums w9 w8.heap.size kvs K ∧ Nums w9 w8.heap.size fvs F) := Lib.hid ⟨hk, hf⟩; have B4 := Lib.hid hsc.box; have q4 : w9.cell? ⟨w2.heap.size, 0, none⟩ = some (.int .i64 t) := S4.out.duo.room.lay.at 0 rfl; have q5 : w9.cell? ⟨w2.heap.size, 1, none⟩ = some (.int .i64 40) := S4.out.duo.room.lay.at 1 rfl; clear hsc hk hf))
                | (go_at_call 16; have _t := HSL.out; go_loud (refine (New_any _ 0 t 40 _ A HSL.out.ask (by omega)).mono ?_; rintro e w8 ⟨C, nv8, rfl, hn⟩; have S3 := Lib.hid (HSL.out.next hn.below); have L3 := Lib.hid (hn.start S3.out.duo.room.mem); have B3 : Hid (Box w8 C (scCells t 40 (.slice none 0 0) (.slice none 0 0) nv8 0 (.map none) (.pointer none)) 49 ∧ w.heap.size ≤ C) := Lib.hid ⟨hn.box, by have h1 := HSL.out.WE; have h2 := HSL.out.Ew; have h3 := hn.c; omega⟩; clear hn)))
              go_returns
              exact ⟨rfl, S9.out.duo.room.below⟩
theorem scans_any (w : World) (y : Int) (a a2 : Option Addr) (xs zs2 : List Int) (N cap M cap2 : Nat) (hN : xs.length = N) (hM : zs2.length = M) (hx : BytesAt w a xs) (hx2 : BytesAt w a2 zs2) (y0 : 0 ≤ y) (y1 : y < 256) :
    Calls Try.prog 3 #[.int .u8 y, .slice a N cap, .slice a2 M cap2] w fun e w' => e = .returned (.bool true) ∧ Below w.heap.size w w' := by
  by_cases hl : (N : Int) ≤ 40
  · by_cases hl2 : (M : Int) ≤ 60
    · exact scans_short w y a a2 xs zs2 N cap M cap2 hN hM hl hl2 hx hx2 y0 y1
    · exact scans_long2 w y a a2 N cap M cap2 hl (by omega)
  · exact scans_long w y a a2 N cap M cap2 (by omega)
end Go.Proofs.Ytnphnhafifaaoaa.guard
