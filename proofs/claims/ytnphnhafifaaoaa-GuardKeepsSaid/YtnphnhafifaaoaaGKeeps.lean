/- The law GuardKeeps answers true at any pair, pairs and list. -/
import Derived.Test.YtnphnhafifaaoaaGKeepsO
import Derived.Deep.RegionHeld3
namespace Go.Proofs.Ytnphnhafifaaoaa.guard
open Go.RowKit mem life

set_option maxRecDepth 100000 in
set_option maxHeartbeats 1000000 in
theorem keeps_long (w : World) (p q : Int) (a a2 : Option Addr) (N cap M cap2 : Nat) (hl : 60 < (N : Int)) :
    Calls Try.prog 5 #[.agg #[.int .u8 p, .int .u8 q], .slice a N cap, .slice a2 M cap2] w fun e w' => e = .returned (.bool true) ∧ Below w.heap.size w w' := by
  have hq : decide ((60 : Int) < (N : Int)) = true := decide_eq_true hl
  have B0 : Hid (Box (w.alloc (.cells #[.int .u8 p, .int .u8 q] 55)) w.heap.size #[.int .u8 p, .int .u8 q] 55 ∧ Below w.heap.size w (w.alloc (.cells #[.int .u8 p, .int .u8 q] 55))) := Lib.hid ⟨Box.new _ _ _, (Below.refl _ _).alloc (Nat.le_refl _) _⟩
  go_enter Try.func5, Try.ntmps5
  go_wp2_with (go_at_call 7; refine (awake_any _).mono ?_; rintro e w1 ⟨rfl, hb⟩; have B1 := Lib.hid (And.intro (B0.out.1.below hb) (past B0.out.2 hb)); clear hb; have d0 : w1.cell? ⟨w.heap.size, 0, none⟩ = some (.int .u8 p) := B1.out.1.at 0 rfl; have d1 : w1.cell? ⟨w.heap.size, 1, none⟩ = some (.int .u8 q) := B1.out.1.at 1 rfl)
  go_region
  all_goals
    go_wp2
    go_returns
    exact ⟨rfl, B1.out.2.drew⟩
set_option maxRecDepth 100000 in
set_option maxHeartbeats 1000000 in
theorem keeps_long2 (w : World) (p q : Int) (a a2 : Option Addr) (N cap M cap2 : Nat) (hl : (N : Int) ≤ 60) (hl2 : 60 < (M : Int)) :
    Calls Try.prog 5 #[.agg #[.int .u8 p, .int .u8 q], .slice a N cap, .slice a2 M cap2] w fun e w' => e = .returned (.bool true) ∧ Below w.heap.size w w' := by
  have hq : decide ((60 : Int) < (N : Int)) = false := decide_eq_false (by omega)
  have hq2 : decide ((60 : Int) < (M : Int)) = true := decide_eq_true hl2
  have B0 : Hid (Box (w.alloc (.cells #[.int .u8 p, .int .u8 q] 55)) w.heap.size #[.int .u8 p, .int .u8 q] 55 ∧ Below w.heap.size w (w.alloc (.cells #[.int .u8 p, .int .u8 q] 55))) := Lib.hid ⟨Box.new _ _ _, (Below.refl _ _).alloc (Nat.le_refl _) _⟩
  go_enter Try.func5, Try.ntmps5
  go_wp2_with (go_at_call 7; refine (awake_any _).mono ?_; rintro e w1 ⟨rfl, hb⟩; have B1 := Lib.hid (And.intro (B0.out.1.below hb) (past B0.out.2 hb)); clear hb; have d0 : w1.cell? ⟨w.heap.size, 0, none⟩ = some (.int .u8 p) := B1.out.1.at 0 rfl; have d1 : w1.cell? ⟨w.heap.size, 1, none⟩ = some (.int .u8 q) := B1.out.1.at 1 rfl)
  go_region
  all_goals
    go_wp2
    go_returns
    exact ⟨rfl, B1.out.2.drew⟩

set_option maxRecDepth 100000 in
set_option maxHeartbeats 2000000 in
theorem keeps_short (w : World) (p q : Int) (a a2 : Option Addr) (ps : List (Int × Int)) (xs : List Int) (N cap M cap2 : Nat) (hN : ps.length = N) (hM : xs.length = M) (hl : (N : Int) ≤ 60) (hl2 : (M : Int) ≤ 60) (hx : PairsAt w a ps) (hx2 : BytesAt w a2 xs) (h20 : a2 = none → M = 0 ∧ cap2 = 0) (p0 : 0 ≤ p) (p1 : p < 256) (q0 : 0 ≤ q) (q1 : q < 256) :
    Calls Try.prog 5 #[.agg #[.int .u8 p, .int .u8 q], .slice a N cap, .slice a2 M cap2] w fun e w' => e = .returned (.bool true) ∧ Below w.heap.size w w' := by
  have hq : decide ((60 : Int) < (N : Int)) = false := decide_eq_false (by omega)
  have hq2 : decide ((60 : Int) < (M : Int)) = false := decide_eq_false (by omega)
  have B0 : Hid (Box (w.alloc (.cells #[.int .u8 p, .int .u8 q] 55)) w.heap.size #[.int .u8 p, .int .u8 q] 55 ∧ Below w.heap.size w (w.alloc (.cells #[.int .u8 p, .int .u8 q] 55))) := Lib.hid ⟨Box.new _ _ _, (Below.refl _ _).alloc (Nat.le_refl _) _⟩
  have HX := Lib.hid hx
  have HN := Lib.hid hN
  have HX2 := Lib.hid hx2
  have HM := Lib.hid hM
  clear hx hN hx2 hM
  go_enter Try.func5, Try.ntmps5
  go_wp2_with (go_at_call 7; refine (awake_any _).mono ?_; rintro e w1 ⟨rfl, hb⟩; have B1 := Lib.hid (And.intro (B0.out.1.below hb) (past B0.out.2 hb)); clear hb; have d0 : w1.cell? ⟨w.heap.size, 0, none⟩ = some (.int .u8 p) := B1.out.1.at 0 rfl; have d1 : w1.cell? ⟨w.heap.size, 1, none⟩ = some (.int .u8 q) := B1.out.1.at 1 rfl)
  go_region
  all_goals
    clear d0 d1
    have hmk := make40
    have O0 := Lib.hid (Ones.made B1.out.2.drew rfl)
    go_wp2
    clear hmk B0 B1
    go_loopw [41] (fun i wr => ∃ (j : Nat) (R : List Int), j ≤ 40 ∧ i = .int .i64 j ∧ Ones w wr w1.heap.size j R) (fun i _ => 40 - (intOf i).toNat)
    case atStart => exact ⟨0, _, Nat.zero_le _, rfl, O0.out⟩
    case round =>
      clear O0
      obtain ⟨j, R, hj, rfl, ho⟩ := hrel
      have HO := Lib.hid ho
      clear ho
      by_cases hlt : j < 40
      · have c := HO.out.cell hlt
        have fz := HO.out.box.free j
        go_wp2
        go_roundw
        case rel => exact ⟨j + 1, _, by omega, by go_num, HO.out.put hlt⟩
        case measure => simp [intOf]; omega
      · obtain rfl : j = 40 := by omega
        have hw64 : IntKind.u64.wrap (1 + p % 40) = 1 + p % 40 := by rw [IntKind.wrap_u64]; omega
        go_wp2_with (first
          | (go_at_call 10; have _t := R0.out; refine (Slot_at _ 4 40 ((q % 8) / 2) (q % 2) (slotA 40 (q % 8)) (by omega) (by omega) (by omega) (by omega) (by omega) (by omega) (by rw [show 2 * (q % 8 / 2) + q % 2 = q % 8 by omega])).mono ?_; rintro e w3 ⟨rfl, hb⟩; have R1 := Lib.hid (R0.out.next hb); clear hb)
          | (go_at_call 8; refine (memory_full _ 4 40 _ R 40 _ HO.out.len (by omega) (by omega) (by omega) (by omega) (by omega) HO.out.words HO.out.range).mono ?_; rintro e w2 ⟨X, Y, zs0, rfl, hnn, hs, hlv, hrs⟩; have R0 : Hid (Room w (w2.alloc (.cells (layCells 4 40) 28)) w2.heap.size X Y 4 40 zs0) := Lib.hid (Room.made HO.out.below hnn); have HS := Lib.hid hs; have HONE := Lib.hid (allOne HO.out hlv); clear hnn hs hlv hrs))
        clear HO
        have hk0 : 1 ≤ 1 + p % 40 ∧ 1 + p % 40 ≤ 40 := by omega
        have hs0 : 0 ≤ q % 8 ∧ q % 8 < 8 := by omega
        generalize q % 8 = s at *
        generalize 1 + p % 40 = k at *
        obtain ⟨k0, k1⟩ := hk0
        obtain ⟨at', rfl⟩ : ∃ at' : Nat, s = at' := ⟨s.toNat, by omega⟩
        have at8 : at' < 8 := by omega
        clear hs0
        clear hw64
        have hw8 : IntKind.u8.wrap (k - 1) = k - 1 := by rw [IntKind.wrap_u8]; omega
        have HXX : Hid (BytesAt w a2 xs ∧ (a2 = none → M = 0 ∧ cap2 = 0)) := Lib.hid ⟨HX2.out, h20⟩
        clear h20 HX2
        go_wp2_with (first
          | (go_at_call 16; have _t := R4.out; go_loud (refine (New_any _ 0 4 40 _ A NU.out (by have := HAL.out; omega)).mono ?_; rintro e w7 ⟨C, nv7, rfl, hn⟩; have R5 := Lib.hid (R4.out.next hn.below); have L5 := Lib.hid (hn.start R5.out.mem); have BB : Hid (B5 w w7 w2.heap.size X Y C (.slice aa A.length ac) A) := Lib.hid (by have h1 := R4.out.lt; have h2 := hn.c; have r := R5.out; have hi := (Looking.ints L5.out); exact ⟨r.lay, NU.out.below hn.below, r.below, r.x0, r.y0, by omega, ⟨r.bx, r.by', by omega⟩, hi⟩); clear hn))
          | (go_at_call 12; have _t := R3.out; go_loud (refine (nodes_any _ _ ((k - 1) :: xs) (1 + M) _ (by simp [HM.out]; omega) (by omega) HBY.out).mono ?_; rintro e w6 ⟨av, rfl, hnu, hb⟩; obtain ⟨A, hA⟩ : ∃ A, A = nodesTo 40 ((k - 1) :: xs) (1 + M) := ⟨_, rfl⟩; rw [← hA] at hnu; have HKA : Hid (k ∈ A) := Lib.hid (by rw [hA]; exact first_node k xs M k0 k1); have HAL : Hid (A.length ≤ 61) := Lib.hid (by rw [hA]; have := nodesTo_length 40 ((k - 1) :: xs) (1 + M); omega); have HAI : Hid (∀ x ∈ A, 1 ≤ x ∧ x ≤ 40) := Lib.hid (by rw [hA]; exact fun x hx => nodesTo_in 40 _ (by omega) x _ hx); have HND : Hid A.Nodup := Lib.hid (by rw [hA]; exact nodesTo_nodup 40 _ _); clear hA; obtain ⟨aa, ac, rfl, _⟩ := hnu.cells; have R4 := Lib.hid (R3.out.next hb); have NU := Lib.hid (hnu.low (Nat.zero_le _)); clear hnu hb; have e0 : w6.cell? ⟨w2.heap.size, 0, none⟩ = some (.int .i64 4) := R4.out.lay.at 0 rfl; have e1 : w6.cell? ⟨w2.heap.size, 1, none⟩ = some (.int .i64 40) := R4.out.lay.at 1 rfl))
          | (at_builtin; go_loud (obtain ⟨g5, c5, w5, hrun5, hby5, hg5⟩ := bytes_append (w4.alloc (.cells #[.int .u8 (k - 1)] 5)) w4.heap.size (k - 1) (Box.new _ _ _) a2 xs M cap2 HM.out (by omega) ((HXX.out.1.later R2.out.below).later ((Below.refl _ _).alloc (Nat.le_refl _) _)) HXX.out.2 (by omega) (by omega) 22; refine wpList_known rfl (.tmp 73) (.tmp 74) 22 rfl _ _ _ w5 rfl rfl hrun5 ?_; have R3 : Hid (Room w w5 w2.heap.size X Y 4 40 (setAt zs0 (slotA 40 at') k)) := Lib.hid (Room_grown (R2.out.alloc _) hg5 R2.out.lt); have HBY := Lib.hid hby5; clear hby5 hg5 hrun5))
          | (go_at_call 9; have _t := R1.out; go_loud (refine (Store_s R1.out.mem (slotA 40 at') k).mono ?_; rintro e w4 ⟨rfl, hm, ha⟩; have R2 := Lib.hid (R1.out.act hm ha); clear hm ha)))
        have RUN0 : Hid (Run5 w7 X Y C at' k A false 0 (setAt zs0 (slotA 40 at') k) w7) := Lib.hid ⟨sound_set HS.out (by omega) (by omega), slotW_set_same HS.out (by omega) (by omega), [], fun h => absurd h (by simp), Or.inl ⟨rfl, rfl, Or.inl (by omega), L5.out, fun i i0 i1 => by rw [taken_set (by omega) i1, AllOne.taken HONE.out i0 i1]; simp⟩⟩
        clear R0 R1 R2 R3 R4 R5 L5 HS HONE HXX HBY NU HM e0 e1
        go_loopw [17, 82] (fun d i wr => ∃ (j m : Nat) (dn : Bool) (zs : List Int), j ≤ N ∧ i = .int .i64 j ∧ d = .bool dn ∧ Run5 w7 X Y C at' k A dn m zs wr) (fun _ i _ => N - (intOf i).toNat)
        case atStart => exact ⟨0, 0, false, _, Nat.zero_le _, rfl, rfl, RUN0.out⟩
        case round =>
          clear RUN0
          obtain ⟨j, m, dn, zs, hj, rfl, rfl, hrun⟩ := hrel
          have HR := Lib.hid hrun
          clear hrun
          by_cases hlt : j < N
          · obtain ⟨u, v, b, rfl, u0, u1, v0, v1, c0, c1⟩ := (HX.out.later (BB.out.below' HR.out.frame.2)).get (i := j) (by rw [HN.out]; exact hlt)
            have H1 : Hid (Run5 w7 X Y C at' k A dn m zs (wr.alloc (.cells #[.int .u8 u, .int .u8 v] 55))) := Lib.hid (HR.out.next ((Below.refl _ _).alloc (Nat.le_refl _) _))
            have hs8 : 0 ≤ u % 8 ∧ u % 8 < 8 := by omega
            have hwv : IntKind.u64.wrap v = v := by rw [IntKind.wrap_u64]; omega
            by_cases he : u % 8 = (at' : Int)
            · have hq5 : (u % 8 != (at' : Int)) = false := by simpa using he
              have HE := Lib.hid he
              clear he
              cases dn with
              | false =>
                go_wp2_with (go_at_call 22; have _t := H1.out; refine (H1.out.step (by have := HAL.out; omega) HAI.out HND.out).mono ?_; rintro e w9 ⟨dn', zs', rfl, hr⟩; have H9 := Lib.hid hr; clear hr)
                go_roundw
                case rel => exact ⟨j + 1, m + 1, dn', _, by omega, by go_num, rfl, H9.out⟩
                case measure => simp [intOf]; omega
              | true =>
                go_wp2
                go_roundw
                case rel => exact ⟨j + 1, m, true, _, by omega, by go_num, rfl, H1.out⟩
                case measure => simp [intOf]; omega
            · have hq5 : (u % 8 != (at' : Int)) = true := by simpa using he
              have hne : u % 8 ≠ (at' : Int) := he
              clear he
              go_wp2
              generalize u % 8 = s at *
              have HNE := Lib.hid hne
              clear hne
              have htd : IntKind.i64.wrap (s.tdiv 2) = s / 2 := by rw [Int.tdiv_eq_ediv_of_nonneg hs8.1]; exact IntWalk.i64_in _ (by omega)
              have htm : s.tmod 2 = s % 2 := Int.tmod_eq_emod_of_nonneg hs8.1
              have hvm : v.tmod 41 = v % 41 := Int.tmod_eq_emod_of_nonneg v0
              have d0 : (wr.alloc (.cells #[.int .u8 u, .int .u8 v] 55)).drew.cell? ⟨w2.heap.size, 0, none⟩ = some (.int .i64 4) := (BB.out.lay' H1.out.frame.2).at 0 rfl
              have d1 : (wr.alloc (.cells #[.int .u8 u, .int .u8 v] 55)).drew.cell? ⟨w2.heap.size, 1, none⟩ = some (.int .i64 40) := (BB.out.lay' H1.out.frame.2).at 1 rfl
              have d2 : (wr.alloc (.cells #[.int .u8 u, .int .u8 v] 55)).drew.cell? ⟨wr.heap.size, 1, none⟩ = some (.int .u8 v) := (Box.new wr #[.int .u8 u, .int .u8 v] 55).at 1 rfl
              have H2 : Hid (Run5 w7 X Y C at' k A dn m zs (wr.alloc (.cells #[.int .u8 u, .int .u8 v] 55)).drew ∧ Box (wr.alloc (.cells #[.int .u8 u, .int .u8 v] 55)).drew wr.heap.size #[.int .u8 u, .int .u8 v] 55) := Lib.hid ⟨H1.out.next ((Below.refl _ _).drew), Box.new wr _ _⟩
              go_region_held3 (fun wx => wx.cell? ⟨w2.heap.size, 0, none⟩ = some (.int .i64 4) ∧ wx.cell? ⟨w2.heap.size, 1, none⟩ = some (.int .i64 40) ∧ wx.cell? ⟨wr.heap.size, 1, none⟩ = some (.int .u8 v)) (first | exact ⟨f0, f1, f2⟩ | exact ⟨e0, e1, e2⟩ | exact ⟨d0, d1, d2⟩ | go_keep) (first
                | (go_at_call 9; have _t := H3.out; go_loud (refine (Store_s H3.out.1.frame.1 (slotA 40 s) (v % 41)).mono ?_; rintro e w6 ⟨rfl, hm, ha⟩; have H4 : Hid (Run5 w7 X Y C at' k A dn m (setAt zs (slotA 40 s) (v % 41)) w6) := Lib.hid (H3.out.1.act (by omega) HNE.out (by omega) (by omega) hm ha); have f0 : w6.cell? ⟨w2.heap.size, 0, none⟩ = some (.int .i64 4) := (BB.out.lay' H4.out.frame.2).at 0 rfl; have f1 : w6.cell? ⟨w2.heap.size, 1, none⟩ = some (.int .i64 40) := (BB.out.lay' H4.out.frame.2).at 1 rfl; have f2 : w6.cell? ⟨wr.heap.size, 1, none⟩ = some (.int .u8 v) := (H3.out.2.apart ha (MemS_unlike H3.out.1.frame.1 H3.out.2 (by decide) (by decide)).1 (MemS_unlike H3.out.1.frame.1 H3.out.2 (by decide) (by decide)).2).at 1 rfl; clear hm ha))
                | (go_at_call 10; refine (Slot_at _ 4 40 (s / 2) (s % 2) (slotA 40 s) (by omega) (by omega) (by omega) (by omega) (by omega) (by omega) (by rw [show 2 * (s / 2) + s % 2 = s by omega])).mono ?_; rintro e w5 ⟨rfl, hb⟩; have H3 : Hid (Run5 w7 X Y C at' k A dn m zs w5 ∧ Box w5 wr.heap.size #[.int .u8 u, .int .u8 v] 55) := Lib.hid ⟨H2.out.1.next hb, H2.out.2.below hb⟩; clear hb; have e0 : w5.cell? ⟨w2.heap.size, 0, none⟩ = some (.int .i64 4) := (BB.out.lay' H3.out.1.frame.2).at 0 rfl; have e1 : w5.cell? ⟨w2.heap.size, 1, none⟩ = some (.int .i64 40) := (BB.out.lay' H3.out.1.frame.2).at 1 rfl; have e2 : w5.cell? ⟨wr.heap.size, 1, none⟩ = some (.int .u8 v) := H3.out.2.at 1 rfl))
              all_goals
                cases dn with
                | false =>
                  go_wp2_with (go_at_call 22; have _t := H4.out; refine (H4.out.step (by have := HAL.out; omega) HAI.out HND.out).mono ?_; rintro e w9 ⟨dn', zs', rfl, hr⟩; have H9 := Lib.hid hr; clear hr)
                  go_roundw
                  case rel => exact ⟨j + 1, m + 1, dn', _, by omega, by go_num, rfl, H9.out⟩
                  case measure => simp [intOf]; omega
                | true =>
                  go_wp2
                  go_roundw
                  case rel => exact ⟨j + 1, m, true, _, by omega, by go_num, rfl, H4.out⟩
                  case measure => simp [intOf]; omega
          · clear HX HN
            go_wp2
            go_loopw [17, 21] (fun d i wr => ∃ (c m : Nat) (dn : Bool) (zs : List Int), c ≤ 100 ∧ i = .int .i64 c ∧ d = .bool dn ∧ (dn = false → c ≤ m) ∧ Run5 w7 X Y C at' k A dn m zs wr) (fun _ i _ => 100 - (intOf i).toNat)
            case atStart => exact ⟨0, m, dn, zs, Nat.zero_le _, rfl, rfl, fun _ => Nat.zero_le _, HR.out⟩
            case round =>
              clear HR
              obtain ⟨c, m, dn, zs, hc, rfl, rfl, hcm, hrun⟩ := hrel
              have HR := Lib.hid hrun
              have HCM := Lib.hid hcm
              clear hrun hcm
              cases dn with
              | false =>
                have hc100 : c < 100 := Nat.lt_of_le_of_lt (HCM.out rfl) (HR.out.few HAL.out)
                have HCN : Hid (c ≤ m) := Lib.hid (HCM.out rfl)
                clear HCM
                go_wp2_with (go_at_call 22; have _t := HR.out; refine (HR.out.step (by have := HAL.out; omega) HAI.out HND.out).mono ?_; rintro e w9 ⟨dn', zs', rfl, hr⟩; have H9 := Lib.hid hr; clear hr)
                go_roundw
                case rel => exact ⟨c + 1, m + 1, dn', _, by omega, by go_num, rfl, fun _ => Nat.succ_le_succ HCN.out, H9.out⟩
                case measure => simp [intOf]; omega
              | true =>
                clear HCM
                obtain ⟨ws, kv, fv, nv, s5, tv, gv, hsc, hk, hf, hkin, hknot, hlen, _⟩ := HR.out.out at8 HKA.out
                obtain ⟨K, hK⟩ : ∃ K, K = told ws A := ⟨_, rfl⟩
                obtain ⟨F, hF⟩ : ∃ F, F = untold ws A := ⟨_, rfl⟩
                rw [← hK] at hk hkin hlen
                rw [← hF] at hf hknot hlen
                have hAl := HAL.out
                have hKl : K.length ≤ 1000 := by omega
                have hFl : F.length ≤ 1000 := by omega
                obtain ⟨ka, kc, rfl, hkl⟩ := hk.list
                obtain ⟨fa, fc, rfl, hfl⟩ := hf.list
                have HKL := Lib.hid (ListAt_drew hkl)
                have HFL := Lib.hid (ListAt_drew hfl)
                have HQ : Hid (decide (k ∈ K) = true ∧ decide (k ∈ F) = false ∧ K.length ≤ 1000 ∧ F.length ≤ 1000) := Lib.hid ⟨decide_eq_true hkin, decide_eq_false hknot, hKl, hFl⟩
                have hsum : IntKind.i64.wrap ((K.length : Int) + (F.length : Int)) = (A.length : Int) := by rw [IntWalk.i64_in _ (by omega)]; omega
                have d2 : wr.drew.cell? ⟨C, 2, none⟩ = some (.slice ka K.length kc) := hsc.box.drew.at 2 rfl
                have d3 : wr.drew.cell? ⟨C, 3, none⟩ = some (.slice fa F.length fc) := hsc.box.drew.at 3 rfl
                have HR2 : Hid (Run5 w7 X Y C at' k A true m zs wr.drew) := Lib.hid (HR.out.next ((Below.refl _ _).drew))
                clear hsc hk hf hkin hknot hlen hK hF hkl hfl hKl hFl hAl HR
                by_cases hc1 : (c : Int) < 100
                all_goals
                  go_wp2
                  go_region_held3 (fun wx => wx.cell? ⟨C, 2, none⟩ = some (.slice ka K.length kc) ∧ wx.cell? ⟨C, 3, none⟩ = some (.slice fa F.length fc)) (first | exact ⟨d2, d3⟩ | go_keep) (first
                    | (go_at_call 23; have _t := tok1; refine (contains_is _ _ fa F fc k false HQ.out.2.1 HQ.out.2.2.2 HFL.out).mono ?_; rintro e w5 ⟨rfl, rfl⟩)
                    | (go_at_call 23; refine (contains_is _ _ ka K kc k true HQ.out.1 HQ.out.2.2.1 HKL.out).mono ?_; rintro e w4 ⟨rfl, rfl⟩; have tok1 : True := trivial))
                  all_goals
                    clear tok1 d2 d3 hsum
                    go_wp2
                    go_loopw [159] (fun i wr => ∃ j : Nat, j ≤ A.length ∧ i = .int .i64 j ∧ Run5 w7 X Y C at' k A true m zs wr) (fun i _ => A.length - (intOf i).toNat)
                    case atStart => exact ⟨0, Nat.zero_le _, rfl, HR2.out⟩
                    case round =>
                      clear HR2 HKL HFL HQ
                      obtain ⟨j, hj, rfl, hrun⟩ := hrel
                      have HR := Lib.hid hrun
                      clear hrun
                      have hAl : A.length ≤ 61 := HAL.out
                      by_cases hlt : j < A.length
                      · obtain ⟨ws, kv, fv, nv, s5, tv, gv, hsc, hk, hf, _, _, _, htk⟩ := HR.out.out at8 HKA.out
                        obtain ⟨K, hK⟩ : ∃ K, K = told ws A := ⟨_, rfl⟩
                        have hKl : K.length ≤ 1000 := by rw [hK]; exact Nat.le_trans (List.length_filter_le _ _) (by omega)
                        rw [← hK] at hk htk
                        clear hK hf
                        obtain ⟨ka, kc, rfl, hkl⟩ := hk.list
                        obtain ⟨a', c', hav, hcl⟩ := (BB.out.ask' HR.out.frame.2).cells
                        obtain ⟨g, ha', hcc⟩ := hcl j hlt
                        have hag : aa = some ⟨g, 0, none⟩ := by
                          cases hav
                          exact ha'
                        subst hag
                        clear hav hcl ha'
                        obtain ⟨x, hxx⟩ : ∃ x, x = A.getD j 0 := ⟨_, rfl⟩
                        have hxm : x ∈ A := by rw [hxx]; exact mem_getD hlt
                        obtain ⟨x0, x1⟩ := HAI.out x hxm
                        rw [← hxx] at hcc
                        obtain ⟨bb, hbb⟩ : ∃ bb, takenB 40 zs x = bb := ⟨_, rfl⟩
                        have HB1 : Hid (takenB 40 zs x = bb ∧ decide (x ∈ K) = bb) := Lib.hid ⟨hbb, (htk x hxm HAI.out).symm.trans hbb⟩
                        have HSD := Lib.hid HR.out.1
                        have HKL := Lib.hid (ListAt_drew hkl)
                        have HKN := Lib.hid hKl
                        have HSC : Hid (Sc w7 wr.drew X Y C 4 40 zs (.slice ka K.length kc) fv nv s5 tv gv) := Lib.hid hsc.drew
                        have HR2 : Hid (Run5 w7 X Y C at' k A true m zs wr.drew) := Lib.hid (HR.out.next ((Below.refl _ _).drew))
                        have d0 : wr.drew.cell? ⟨w2.heap.size, 0, none⟩ = some (.int .i64 4) := (BB.out.lay' HR2.out.frame.2).at 0 rfl
                        have d1 : wr.drew.cell? ⟨w2.heap.size, 1, none⟩ = some (.int .i64 40) := (BB.out.lay' HR2.out.frame.2).at 1 rfl
                        have d2 : wr.drew.cell? ⟨C, 2, none⟩ = some (.slice ka K.length kc) := HSC.out.box.at 2 rfl
                        have hbn : (bb != bb) = false := by simp
                        clear hbb htk hxm hxx hsc hk hkl hKl HR
                        go_wp2
                        go_region_held3 (fun wx => wx.cell? ⟨w2.heap.size, 0, none⟩ = some (.int .i64 4) ∧ wx.cell? ⟨w2.heap.size, 1, none⟩ = some (.int .i64 40) ∧ wx.cell? ⟨C, 2, none⟩ = some (.slice ka K.length kc)) (first | exact ⟨e0, e1, e2⟩ | exact ⟨d0, d1, d2⟩ | go_keep) (first
                          | (go_at_call 24; refine (taken_is HSD.out HSC.out.mem x x0 x1 bb HB1.out.1).mono ?_; rintro e w5 ⟨rfl, hb⟩; have HR3 := Lib.hid (HR2.out.next hb); have e0 : w5.cell? ⟨w2.heap.size, 0, none⟩ = some (.int .i64 4) := (BB.out.lay' HR3.out.frame.2).at 0 rfl; have e1 : w5.cell? ⟨w2.heap.size, 1, none⟩ = some (.int .i64 40) := (BB.out.lay' HR3.out.frame.2).at 1 rfl; have e2 : w5.cell? ⟨C, 2, none⟩ = some (.slice ka K.length kc) := (HSC.out.next hb).box.at 2 rfl; have HKL2 := Lib.hid (HKL.out.below hb); clear hb)
                          | (go_at_call 23; have _t := HKL2.out; refine (contains_is _ _ ka K kc x bb HB1.out.2 HKN.out HKL2.out).mono ?_; rintro e w6 ⟨rfl, rfl⟩)
                          | (go_at_call 23; refine (contains_is _ _ ka K kc x bb HB1.out.2 HKN.out HKL.out).mono ?_; rintro e w6 ⟨rfl, rfl⟩))
                        all_goals
                          clear d0 d1 d2
                          go_wp2
                          go_roundw
                          case rel => exact ⟨j + 1, by omega, by go_num, HR3.out⟩
                          case measure => simp [intOf]; omega
                      · have hjA : j = A.length := by omega
                        subst hjA
                        have HE : Hid (Below w.heap.size w wr) := Lib.hid (BB.out.below' HR.out.frame.2)
                        go_wp2
                        go_returns
                        exact ⟨rfl, HE.out⟩
theorem keeps_any (w : World) (p q : Int) (a a2 : Option Addr) (ps : List (Int × Int)) (xs : List Int) (N cap M cap2 : Nat) (hN : ps.length = N) (hM : xs.length = M) (hx : PairsAt w a ps) (hx2 : BytesAt w a2 xs) (h20 : a2 = none → M = 0 ∧ cap2 = 0) (p0 : 0 ≤ p) (p1 : p < 256) (q0 : 0 ≤ q) (q1 : q < 256) :
    Calls Try.prog 5 #[.agg #[.int .u8 p, .int .u8 q], .slice a N cap, .slice a2 M cap2] w fun e w' => e = .returned (.bool true) ∧ Below w.heap.size w w' := by
  by_cases hl : (N : Int) ≤ 60
  · by_cases hl2 : (M : Int) ≤ 60
    · exact keeps_short w p q a a2 ps xs N cap M cap2 hN hM hl hl2 hx hx2 h20 p0 p1 q0 q1
    · exact keeps_long2 w p q a a2 N cap M cap2 hl (by omega)
  · exact keeps_long w p q a a2 N cap M cap2 (by omega)
end Go.Proofs.Ytnphnhafifaaoaa.guard
