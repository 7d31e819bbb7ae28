/- The law of operations one behind the other. -/
import Derived.Test.YtmpilokgbblonaaGreatKa43
namespace Go.Proofs.YtmpilokgbblonaaGreat.lin
open Go.RowKit Go.Maps
open hist (ClV EvV befB past new_block Went At Hst callsE Grow errE begin_any end_any new_any append_row new_cells wpList_known eq_res)
open spec (Rw Row OpV OpsAt okR valR res_any)
open task (rightB)
attribute [local go_sem ↓] eq_res
theorem cells6 {w : World} {B : Nat} {br : Addr} {K Y T A1 B1 C V : Int} {O : Bool} (h : Line1 w B 49 [.int .i64 K, .int .i64 Y, .int .i64 T, .int .u8 A1, .int .u8 B1]) (h0 : w.cell? br = some (.int .i64 C)) (h1 : w.cell? ⟨br.block, br.off + 1, none⟩ = some (.bool O)) (h2 : w.cell? ⟨br.block, br.off + 2, none⟩ = some (.int .i64 V)) :
    w.cell? ⟨B, 0, none⟩ = some (.int .i64 K) ∧ w.cell? ⟨B, 1, none⟩ = some (.int .i64 Y) ∧ w.cell? ⟨B, 2, none⟩ = some (.int .i64 T) ∧ w.cell? br = some (.int .i64 C) ∧ w.cell? ⟨br.block, br.off + 1, none⟩ = some (.bool O) ∧ w.cell? ⟨br.block, br.off + 2, none⟩ = some (.int .i64 V) :=
  ⟨h.cell 0, h.cell 1, h.cell 2, h0, h1, h2⟩
set_option maxRecDepth 100000 in
set_option maxHeartbeats 8000000 in
theorem alone_any (w : World) (x : Int) (x0 : 0 ≤ x) (x1 : x < 256) (Ax : Option Addr) (n cx : Nat) (xs : List LapV) (hx : At cells5 5 w Ax xs) (hn : xs.length = n) (Ar : Option Addr) (m cr : Nat) (rs : List ResV) (hr : At cells3 3 w Ar rs) (hm : rs.length = m) :
    Calls Tryz.prog 6 #[.int .u8 x, .slice Ax n cx, .slice Ar m cr] w fun e w' => e = .returned (.bool true) ∧ Below w.heap.size w w' := by
  have HX := Lib.hid hx
  have HR := Lib.hid hr
  have HN := Lib.hid hn
  have HM := Lib.hid hm
  have HS : Hid (1 ≤ 1 + x % 4 ∧ 1 + x % 4 ≤ 4) := Lib.hid (by omega)
  clear hx hr hn hm
  by_cases h24 : 24 < n
  · have h24i : (24 : Int) < (n : Int) := by omega
    go_enter Tryz.func6, Tryz.ntmps6
    go_wp2_with (go_at_call 7; go_loud (refine (awake_any _).mono ?_; rintro e w1 ⟨rfl, hb⟩; have B1 := Lib.hid hb; clear hb))
    go_returns
    exact ⟨rfl, B1.out⟩
  · have h24i : ¬ (24 : Int) < (n : Int) := by omega
    by_cases hmn : m < n
    · have hmni : (m : Int) < (n : Int) := by omega
      go_enter Tryz.func6, Tryz.ntmps6
      go_wp2_with (go_at_call 7; go_loud (refine (awake_any _).mono ?_; rintro e w1 ⟨rfl, hb⟩; have B1 := Lib.hid hb; clear hb))
      go_returns
      exact ⟨rfl, B1.out⟩
    · have hmni : ¬ (m : Int) < (n : Int) := by omega
      have hn24 : (n : Int) ≤ 24 := by omega
      have HLEN : Hid ((evsR xs rs).length = n) := Lib.hid (by rw [evs_len (by have := HN.out; have := HM.out; omega)]; exact HN.out)
      have HTH := Lib.hid (@evs_thread xs rs)
      have HGET : Hid (∀ i (hx : i < xs.length) (hr : i < rs.length) (h : i < (evsR xs rs).length), (evsR xs rs)[i] = evR xs[i] rs[i]) := Lib.hid (fun i => evs_get)
      generalize evsR xs rs = l at *
      go_enter Tryz.func6, Tryz.ntmps6
      go_wp2_with (first
        | (go_at_call 20; have _t := B1.out; go_loud (refine (new_any _).mono ?_; rintro e w2 ⟨X, f2, rfl, hm2, hn2, hb⟩; have P2 : Hid (Beside w w2 X f2 (.slice none 0 0) (altE (l.take 0)) (didL l 0)) := Lib.hid ⟨hm2, Grow.nil _ _ _ (past B1.out hb), fun g hg => by simp [Value.ownBlock] at hg, fun b hb2 => Nat.le_trans B1.out.size (hn2 b hb2)⟩; clear hm2 hn2 hb))
        | (go_at_call 7; go_loud (refine (awake_any _).mono ?_; rintro e w1 ⟨rfl, hb⟩; have B1 := Lib.hid hb; clear hb)))
      go_loopw [9, 10, 32] (fun vd vr i wr => ∃ (k : Nat) (b : Bool) (f' : Nat → Prop), vr = .bool b ∧ i = .int .i64 (k : Int) ∧ k ≤ n ∧ Beside w wr X f' vd (altE (l.take k)) (didL l k) ∧ (∀ v ∈ l.take k, rightB (1 + x % 4) v.K v.Y = true) ∧ (b = true ↔ rightTo (1 + x % 4) l k)) (fun _ _ i _ => n - (intOf i).toNat)
      case atStart => exact ⟨0, true, f2, rfl, rfl, Nat.zero_le _, P2.out, fun v hv => by simp at hv, ⟨fun _ i _ hi => absurd hi (by omega), fun _ => rfl⟩⟩
      case round =>
        obtain ⟨k, b, f3, rfl, rfl, hk, hP, hal, hbr⟩ := hrel
        have HP := Lib.hid hP
        have HAL := Lib.hid hal
        have HBR := Lib.hid hbr
        clear hP hal hbr
        by_cases hlt : k < n
        · have hki : (k : Int) < (n : Int) := by omega
          have hkm : (k : Int) < (m : Int) := by omega
          have hk0 : (0 : Int) ≤ (k : Int) := by omega
          have hkx : k < xs.length := by rw [HN.out]; exact hlt
          have hkr : k < rs.length := by rw [HM.out]; omega
          have hkl : k < l.length := by rw [HLEN.out]; exact hlt
          obtain ⟨bx, rfl, p0, p1, p2, p3, p4⟩ := at5 (HX.out.later HP.out.row.below) k hkx
          obtain ⟨br, rfl, r0, r1, r2⟩ := at3 HR.out k hkr
          have hg := HGET.out k hkx hkr hkl
          have HT : Hid (0 ≤ (xs[k]).T % 8 ∧ (xs[k]).T % 8 ≤ 7) := Lib.hid (by omega)
          have HTK : Hid (l.take (k + 1) = l.take k ++ [evR xs[k] rs[k]]) := Lib.hid (by rw [List.take_succ_eq_append_getElem hkl, hg])
          have HDI : Hid (didL l (k + 1) = didL l k ++ if (rs[k]).C = 0 then [⟨(xs[k]).K, (xs[k]).Y⟩] else []) := Lib.hid (by rw [didL_succ hkl, hg]; rfl)
          have HRN : Hid (rightTo (1 + x % 4) l (k + 1) ↔ rightTo (1 + x % 4) l k ∧ ((rs[k]).C = 0 → (rs[k]).O = okR (1 + x % 4) (didL l k) (xs[k]).K (xs[k]).Y ∧ (rs[k]).V = valR (1 + x % 4) (didL l k) (xs[k]).K)) := Lib.hid (by rw [right_next hkl, hg]; rfl)
          have HDL : Hid ((didL l k).length ≤ 24) := Lib.hid (by
            unfold didL
            rw [List.length_map]
            refine Nat.le_trans (List.length_filter_le _ _) ?_
            rw [List.length_take]
            omega)
          have HTT : Hid (∀ v ∈ l.take k, 0 ≤ v.T ∧ v.T ≤ 7) := Lib.hid (fun v hv => HTH.out v (List.mem_of_mem_take hv))
          have hand := and7 (xs[k]).T
          generalize xs[k] = d at *
          generalize rs[k] = q at *
          have HAN := Lib.hid (alt_next (l := l.take k) HTT.out (v := evR d q) HT.out)
          have R3 := Lib.hid (And.intro r0 (And.intro r1 r2))
          have HALL : Hid ((altE (l.take k)).length ≤ 900) := Lib.hid (by rw [alt_len, List.length_take]; omega)
          clear hg hkx hkr hkl r0 r1 r2
          have bA : Below wr.heap.size wr (wr.alloc (.cells #[.int .i64 d.K, .int .i64 d.Y, .int .i64 d.T, .int .u8 d.A, .int .u8 d.B] 49)) := (Below.refl _ _).alloc (Nat.le_refl _) _
          have PA := Lib.hid (HP.out.next bA)
          have NA := Lib.hid (⟨new_block wr _ _⟩ : Line1 (wr.alloc (.cells #[.int .i64 d.K, .int .i64 d.Y, .int .i64 d.T, .int .u8 d.A, .int .u8 d.B] 49)) wr.heap.size 49 [.int .i64 d.K, .int .i64 d.Y, .int .i64 d.T, .int .u8 d.A, .int .u8 d.B])
          have HNF : Hid (¬ f3 wr.heap.size) := Lib.hid (fun h => by have := HP.out.hst.lt _ h; omega)
          cases hrt : rightB (1 + x % 4) d.K d.Y
          · have HRT := Lib.hid hrt
            clear hrt bA
            go_wp2_with (go_at_call 19; go_loud (refine (spec.may_any _ (1 + x % 4) d.K d.Y).mono ?_; rintro e w4 ⟨rfl, hb⟩; rw [HRT.out]; have P4 := Lib.hid (PA.out.next hb); clear hb))
            go_returns
            exact ⟨rfl, P4.out.row.below⟩
          · have HRT := Lib.hid hrt
            have HAL2 : Hid (∀ v ∈ l.take (k + 1), rightB (1 + x % 4) v.K v.Y = true) := Lib.hid (fun v hv => by
              rw [HTK.out] at hv
              rcases List.mem_append.1 hv with hv | hv
              · exact HAL.out v hv
              · rw [List.mem_singleton.1 hv]; exact HRT.out)
            clear hrt bA
            go_upto_region 14 with (go_at_call 19; go_loud (refine (spec.may_any _ (1 + x % 4) d.K d.Y).mono ?_; rintro e w4 ⟨rfl, hb⟩; rw [HRT.out]; have P4 := Lib.hid (PA.out.next hb); have N4 := Lib.hid (NA.out.below hb); clear hb))
            have P4d := Lib.hid (P4.out.next ((Below.refl w4.heap.size w4).drew))
            have N4d := Lib.hid (N4.out.below ((Below.refl w4.heap.size w4).drew))
            have TOLD : ∀ wx : World, Below w.heap.size w wx → wx.cell? (br.add (k * 3)) = some (.int .i64 q.C) ∧ wx.cell? ⟨(br.add (k * 3)).block, (br.add (k * 3)).off + 1, none⟩ = some (.bool q.O) ∧ wx.cell? ⟨(br.add (k * 3)).block, (br.add (k * 3)).off + 2, none⟩ = some (.int .i64 q.V) := fun wx hb => ⟨(hb.cell (World.block_lt_of_cell? _ _ R3.out.1)).trans R3.out.1, (hb.cell (World.block_lt_of_cell? _ _ R3.out.2.1)).trans R3.out.2.1, (hb.cell (World.block_lt_of_cell? _ _ R3.out.2.2)).trans R3.out.2.2⟩
            have HTO := Lib.hid TOLD
            have HC6 : Hid (∀ (wx : World) (f : Nat → Prop) (v : Value) (l' : List EvV) (os : List OpV), Beside w wx X f v l' os → Line1 wx wr.heap.size 49 [.int .i64 d.K, .int .i64 d.Y, .int .i64 d.T, .int .u8 d.A, .int .u8 d.B] → wx.cell? ⟨wr.heap.size, 0, none⟩ = some (.int .i64 d.K) ∧ wx.cell? ⟨wr.heap.size, 1, none⟩ = some (.int .i64 d.Y) ∧ wx.cell? ⟨wr.heap.size, 2, none⟩ = some (.int .i64 d.T) ∧ wx.cell? (br.add (k * 3)) = some (.int .i64 q.C) ∧ wx.cell? ⟨(br.add (k * 3)).block, (br.add (k * 3)).off + 1, none⟩ = some (.bool q.O) ∧ wx.cell? ⟨(br.add (k * 3)).block, (br.add (k * 3)).off + 2, none⟩ = some (.int .i64 q.V)) := Lib.hid (fun wx f v l' os hp hn => cells6 hn (HTO.out wx hp.row.below).1 (HTO.out wx hp.row.below).2.1 (HTO.out wx hp.row.below).2.2)
            clear TOLD
            go_region_held3 (fun wx => wx.cell? ⟨wr.heap.size, 0, none⟩ = some (.int .i64 d.K) ∧ wx.cell? ⟨wr.heap.size, 1, none⟩ = some (.int .i64 d.Y) ∧ wx.cell? ⟨wr.heap.size, 2, none⟩ = some (.int .i64 d.T) ∧ wx.cell? (br.add (k * 3)) = some (.int .i64 q.C) ∧ wx.cell? ⟨(br.add (k * 3)).block, (br.add (k * 3)).off + 1, none⟩ = some (.bool q.O) ∧ wx.cell? ⟨(br.add (k * 3)).block, (br.add (k * 3)).off + 2, none⟩ = some (.int .i64 q.V)) (first | exact HC6.out _ _ _ _ _ P6.out N6.out | exact HC6.out _ _ _ _ _ P5.out N5.out | exact HC6.out _ _ _ _ _ P4d.out N4d.out | go_keep) (first
              | (go_at_call 22; have _t := P5.out; go_loud (refine (end_any _ X f5 _ P5.out.hst (by rw [List.length_append]; have := HALL.out; simp; omega) (d.T % 8) q.C q.V q.O HAN.out.2.1).mono ?_; rintro e w6 ⟨f6, rfl, hm6, hw6⟩; have P6 := Lib.hid (P5.out.step hm6 hw6); have N6 := Lib.hid (N5.out.moved (hw6.block _ N5.out.lt G5.out)); have G6 := Lib.hid (hw6.apart N5.out.lt G5.out); clear hm6 hw6))
              | (go_at_call 21; go_loud (refine (begin_any _ X f3 _ P4d.out.hst (by have := HALL.out; omega) (d.T % 8) d.K d.Y HAN.out.1).mono ?_; rintro e w5 ⟨f5, rfl, hm5, hw5⟩; have P5 := Lib.hid (P4d.out.step hm5 hw5); have N5 := Lib.hid (N4d.out.moved (hw5.block _ N4d.out.lt HNF.out)); have G5 := Lib.hid (hw5.apart N4d.out.lt HNF.out); clear hm5 hw5)))
            all_goals
              have P6b : Hid (Beside w w6 X f6 u9 (altE (l.take (k + 1))) (didL l k)) := Lib.hid (by
                have h1 := P6.out
                have h2 := HAN.out.2.2
                rw [HTK.out, ← h2]
                exact h1)
              obtain ⟨e0, e1, e2, t0, t1, t2⟩ := HC6.out _ _ _ _ _ P6b.out N6.out
              by_cases hC : q.C = 0
              · have hq0 : (q.C == 0) = true := beq_iff_eq.2 hC
                have HD1 : Hid (didL l (k + 1) = didL l k ++ [⟨d.K, d.Y⟩]) := Lib.hid (by rw [HDI.out, if_pos hC])
                have HRES : Hid (∀ (wx : World) (Av : Option Addr) (N cap : Nat), (didL l k).length = N → N ≤ 1000 → N ≤ cap → OpsAt wx Av (didL l k) → Calls Tryz.prog 23 #[.int .i64 (1 + x % 4), .slice Av N cap, .agg #[.int .i64 d.K, .int .i64 d.Y]] wx (spec.ResIs wx (okR (1 + x % 4) (didL l k) d.K d.Y) (valR (1 + x % 4) (didL l k) d.K))) := Lib.hid (fun wx Av N cap h1 h2 h3 h4 => res_any wx (1 + x % 4) d.K d.Y Av _ N cap h1 h2 h3 h4 HRT.out)
                have HRN2 : Hid (rightTo (1 + x % 4) l (k + 1) ↔ rightTo (1 + x % 4) l k ∧ (q.O = okR (1 + x % 4) (didL l k) d.K d.Y ∧ q.V = valR (1 + x % 4) (didL l k) d.K)) := Lib.hid (by rw [HRN.out]; exact and_congr_right fun _ => ⟨fun h => h hC, fun h _ => h⟩)
                have HQC := Lib.hid hC
                generalize okR (1 + x % 4) (didL l k) d.K d.Y = ob at *
                generalize valR (1 + x % 4) (didL l k) d.K = vb at *
                obtain ⟨Av, cv, rfl, hcv, -, hav⟩ := P6b.out.row.told len2
                have HCV := Lib.hid hcv
                have HAVd := Lib.hid ((ops_at hav).later ((Below.refl w6.heap.size w6).drew))
                have P6d := Lib.hid (P6b.out.next ((Below.refl w6.heap.size w6).drew))
                have N6d := Lib.hid (N6.out.below ((Below.refl w6.heap.size w6).drew))
                clear hcv hav hC
                cases b
                · go_upto_region 17 with (fail)
                  refine quiet.region (C := fun wx => Below w6.heap.size w6 wx) ((Below.refl _ _).drew) (by kernel_rfl) (by kernel_rfl) ?_
                  repeat (first
                    | go_big_quiet_skip
                    | (go_big_quiet_want; go_big_quiet_op; go_big_quiet_on)
                    | (refine BigFrame.wpQuiet_want (by rfl) (fun K hK => ?_)
                       apply Exists.intro
                       refine ⟨fun wx hwx => ?_, hK _ ?_⟩
                       · go_split_ands
                         go_simp
                         first | rfl
                       clear hK K
                       simp only [Act.put, List.setIfInBounds_toArray, List.set_cons_zero, List.set_cons_succ]))
                  refine wpQuiet_nil ?_
                  intro w7 hq7
                  have P7 := Lib.hid (P6b.out.next hq7)
                  have N7 := Lib.hid (N6.out.below hq7)
                  clear hq7
                  obtain ⟨A7, c7, hu9, hle7, -, -⟩ := P7.out.row.told len2
                  obtain ⟨j0, hj, yz0, yz1, yz2⟩ := info_parts spec.Tryzinfo_op
                  obtain ⟨v8, w8, hrun8, hown8, hgr8, hat8, -⟩ := append_row len2 (w7.alloc (.cells #[.int .i64 d.K, .int .i64 d.Y] 47)) 42 42 47 j0 _ 16 Tryz.underlying42 hj yz0 yz1 yz2 rfl (by decide) _ (didL l k) ⟨d.K, d.Y⟩ ((P7.out.next ((Below.refl _ _).alloc (Nat.le_refl _) _)).row.own) w7.heap.size (new_cells w7 (cells2 0 ⟨d.K, d.Y⟩) _) (one2 _ _) (by have := HDL.out; unfold maxLen; omega) (by have := HDL.out; omega)
                  have P8 := Lib.hid ((P7.out.next ((Below.refl _ _).alloc (Nat.le_refl _) (.cells #[.int .i64 d.K, .int .i64 d.Y] 47))).more hown8 hgr8 hat8)
                  have HRUN8 := Lib.hid hrun8
                  obtain ⟨g0, g1, g2, -, -, -⟩ := HC6.out _ _ _ _ _ P7.out N7.out
                  clear hrun8 hown8 hgr8 hat8 hj yz0 yz1 yz2 hu9 hle7
                  go_wp2_with (at_builtin; go_loud (refine wpList_known rfl (.tmp 81) (.tmp 84) 42 rfl _ _ v8 w8 rfl rfl HRUN8.out ?_))
                  go_roundw
                  case rel => exact ⟨k + 1, false, f6, rfl, by go_num, by omega, by rw [HD1.out]; exact P8.out, HAL2.out, ⟨fun h => absurd h (by decide), fun h => HBR.out.2 (HRN2.out.1 h).1⟩⟩
                  case measure => simp [intOf]; omega
                · go_upto_region 17 with (fail)
                  go_region_held3 (fun wx => wx.cell? ⟨wr.heap.size, 0, none⟩ = some (.int .i64 d.K) ∧ wx.cell? ⟨wr.heap.size, 1, none⟩ = some (.int .i64 d.Y) ∧ wx.cell? ⟨wr.heap.size, 2, none⟩ = some (.int .i64 d.T) ∧ wx.cell? (br.add (k * 3)) = some (.int .i64 q.C) ∧ wx.cell? ⟨(br.add (k * 3)).block, (br.add (k * 3)).off + 1, none⟩ = some (.bool q.O) ∧ wx.cell? ⟨(br.add (k * 3)).block, (br.add (k * 3)).off + 2, none⟩ = some (.int .i64 q.V)) (first | exact HC6.out _ _ _ _ _ P7.out N7.out | exact HC6.out _ _ _ _ _ P6d.out N6d.out | go_keep) (first | (go_at_call 23; go_loud (refine (HRES.out _ Av _ cv rfl (by have := HDL.out; omega) HCV.out HAVd.out).mono ?_; rintro e w7 ⟨rfl, hb7⟩; have P7 := Lib.hid (P6d.out.next hb7); have N7 := Lib.hid (N6d.out.below hb7); clear hb7)))
                  all_goals
                    obtain ⟨A7, c7, hu9, hle7, -, -⟩ := P7.out.row.told len2
                    obtain ⟨j0, hj, yz0, yz1, yz2⟩ := info_parts spec.Tryzinfo_op
                    obtain ⟨v8, w8, hrun8, hown8, hgr8, hat8, -⟩ := append_row len2 (w7.alloc (.cells #[.int .i64 d.K, .int .i64 d.Y] 47)) 42 42 47 j0 _ 16 Tryz.underlying42 hj yz0 yz1 yz2 rfl (by decide) _ (didL l k) ⟨d.K, d.Y⟩ ((P7.out.next ((Below.refl _ _).alloc (Nat.le_refl _) _)).row.own) w7.heap.size (new_cells w7 (cells2 0 ⟨d.K, d.Y⟩) _) (one2 _ _) (by have := HDL.out; unfold maxLen; omega) (by have := HDL.out; omega)
                    have P8 := Lib.hid ((P7.out.next ((Below.refl _ _).alloc (Nat.le_refl _) (.cells #[.int .i64 d.K, .int .i64 d.Y] 47))).more hown8 hgr8 hat8)
                    have HRUN8 := Lib.hid hrun8
                    obtain ⟨g0, g1, g2, -, -, -⟩ := HC6.out _ _ _ _ _ P7.out N7.out
                    clear hrun8 hown8 hgr8 hat8 hj yz0 yz1 yz2 hu9 hle7
                    go_wp2_with (at_builtin; go_loud (refine wpList_known rfl (.tmp 81) (.tmp 84) 42 rfl _ _ v8 w8 rfl rfl HRUN8.out ?_))
                    go_roundw
                    case rel =>
                      refine ⟨k + 1, _, f6, rfl, by go_num, by omega, by rw [HD1.out]; exact P8.out, HAL2.out, ?_⟩
                      rw [HRN2.out]
                      have h1 := HBR.out.1 (by trivial)
                      simp [h1]
                    case measure => simp [intOf]; omega
              · have hq0 : (q.C == 0) = false := beq_eq_false_iff_ne.2 hC
                have HD1 : Hid (didL l (k + 1) = didL l k) := Lib.hid (by rw [HDI.out, if_neg hC, List.append_nil])
                have HB1 : Hid (b = true ↔ rightTo (1 + x % 4) l (k + 1)) := Lib.hid (by rw [HRN.out]; exact ⟨fun h => ⟨HBR.out.1 h, fun h2 => absurd h2 hC⟩, fun h => HBR.out.2 h.1⟩)
                clear hC
                go_wp2
                go_roundw
                case rel => exact ⟨k + 1, b, f6, rfl, by go_num, by omega, by rw [HD1.out]; exact P6b.out, HAL2.out, HB1.out⟩
                case measure => simp [intOf]; omega
        · obtain rfl : k = n := by omega
          have HTA : Hid (l.take k = l) := Lib.hid (List.take_of_length_le (by rw [HLEN.out]; omega))
          have HH : Hid (Hst wr X f3 (altE l)) := Lib.hid (by have := HP.out.hst; rwa [HTA.out] at this)
          have HRR : Hid (∀ v ∈ l, rightB (1 + x % 4) v.K v.Y = true) := Lib.hid (by have := HAL.out; rwa [HTA.out] at this)
          have HLE : Hid (l.length ≤ 24) := Lib.hid (by rw [HLEN.out]; omega)
          have HBB : Hid (b = true ↔ rightTo (1 + x % 4) l l.length) := Lib.hid (by rw [HLEN.out]; exact HBR.out)
          go_wp2_with (go_at_call 11; go_loud (refine (alone_linear _ X f3 _ l HH.out HRR.out HTH.out HS.out HLE.out b HBB.out).mono ?_; rintro e w4 ⟨rfl, hb⟩; have B4 := Lib.hid (past HP.out.row.below hb); clear hb))
          go_returns
          exact ⟨by simp, B4.out⟩
end Go.Proofs.YtmpilokgbblonaaGreat.lin
