/- The law MemPlays, where operations are played: the ways through the kinds of actions meet again behind them. -/
import Derived.Test.YtfoiahnpnipjnaaMPlaysA
import Derived.BigQuiet
import Derived.Deep.QuietTactic
import Derived.Deep.RegionHeld3
import Derived.Deep.CutBlock
import Derived.Deep.CutRange
import Derived.Deep.DeepCutAuto
namespace Go.Proofs.Ytfoiahnpnipjnaa.mem
open Go.RowKit
attribute [local go_sem] eq_act

/-- Behind the action: what is wanted stands; the document's words aren't written yet. -/
def Mid (W wx : World) (b : Nat) (t n : Int) (X Y V j P Q : Nat) (K A Old x v : Int) (inb : Bool) (zs : List Int) : Prop :=
  ∃ zs2 nw ok, Turn W wx b t n X Y V zs2 zs ((j : Int) + 1) ⟨K, A, v, nw, ok⟩ P Q (opCells K A Old x) #[.int .i64 K, .int .i64 A, .int .u64 v, .int .u64 nw, .bool ok] ∧ ((ok = true ∧ inb = true ∧ zs2 = setAt zs A nw) ∨ (ok = false ∧ zs = zs2))

set_option maxRecDepth 100000 in
set_option maxHeartbeats 20000000 in
theorem plays_run (w : World) (t n : Int) (a o : Option Addr) (ws : List Int) (os : List OpV) (N cap M capo z : Nat) (hN : ws.length = N) (hM : os.length = M) (ez : n * 2 + 4 + t * 5 + 2 = (z : Int)) (hl : (N : Int) ≤ 800) (hm : (M : Int) ≤ 200) (t0 : 1 ≤ t) (t1 : t ≤ 8) (n0 : 1 ≤ n) (n1 : n ≤ 200) (hz : (N : Int) ≤ (z : Int)) (hw : Words w a ws) (ho : OpsAt w o os) :
    Calls Try.prog 3 #[.agg (layCells t n), .slice a N cap, .slice o M capo] w fun e w' => e = .returned (.bool true) ∧ Below w.heap.size w w' := by
  have hd : decide (800 < (N : Int)) = false := by simp; omega
  have d1 : decide (t < 1) = false := by simp; omega
  have d2 : decide (8 < t) = false := by simp; omega
  have d3 : decide (n < 1) = false := by simp; omega
  have d4 : decide (200 < n) = false := by simp; omega
  have HZ : Hid (2 * n + 6 + 5 * t = (z : Int)) := by unfold Hid; omega
  have HR := Lib.hid (rightB_yes ⟨t0, t1, n0, n1⟩)
  have HW := Lib.hid hw
  have HO := Lib.hid ho
  have HN := Lib.hid hN
  have HM := Lib.hid hM
  have hmk : ∀ w : World, (Instr.makeSlice 24 (.int .i64 (z : Int)) (.int .i64 (z : Int))).run Try.prog w = .ok (.slice (some ⟨w.heap.size, 0, none⟩) z z) (w.alloc (.cells (wordCells (List.replicate z 0)) 32)) := fun w => make_words w z (by omega)
  have P0 := Lib.hid (Pre.one w (layCells t n) 23)
  clear hw ho hN hM
  go_enter Try.func3, Try.ntmps3
  go_wp2_with (first
    | (go_at_call 9; refine (awake_any _).mono ?_; rintro e w1 ⟨rfl, hb⟩; have T := Lib.hid (P0.out.next hb); clear P0 hb; have P0 := T; clear T; have a0 := P0.out.op1.at 0 rfl; have a1 := P0.out.op1.at 1 rfl)
    | (go_at_call 10; refine (new_ok _ t n a ws N cap z HN.out t0 t1 n0 n1 HZ.out.symm (by omega) (HW.out.later P0.out.below)).mono ?_; rintro e w2 ⟨X1, Y1, rfl, hb⟩; have S0 := Lib.hid (Solo.made P0.out hb); clear P0 hb; have a0 := S0.out.pre.op1.at 0 rfl; have a1 := S0.out.pre.op1.at 1 rfl)
    | (go_at_call 11; refine (Right_any _ t n).mono ?_; rintro e w3 ⟨rfl, hb⟩; rw [HR.out]; have T := Lib.hid (S0.out.next hb); clear S0 hb; have S0 := T; clear T; have a0 := S0.out.pre.op1.at 0 rfl; have a1 := S0.out.pre.op1.at 1 rfl)
    | (go_at_call 12; refine (Size_any _ t n (by omega) (by omega) (by omega) (by omega)).mono ?_; rintro e w4 ⟨rfl, hb⟩; rw [HZ.out]; have T := Lib.hid (S0.out.next hb); clear S0 hb; have S0 := T; clear T))
  have hblk : (w4.alloc (.cells (wordCells (List.replicate z 0)) 32)).heap[w4.heap.size]? = some (.cells (wordCells (List.replicate z 0)) 32 (0, 0)) := new_block _ _ _ rfl
  obtain ⟨w5, hrun, hg5, hb5⟩ := copy_words _ w4.heap.size z a ws N cap hblk HN.out (by omega) (HW.out.later (S0.out.alloc _).pre.below)
  have D0 : Hid (Play w w5 w.heap.size t n X1 Y1 w4.heap.size (padTo z ws) (padTo z ws) 0 Last.no) := play_new S0.out hg5 hb5
  clear S0 hg5 hb5 hblk
  rw [hrun]
  clear hrun a0 a1
  go_wp2
  have hstart : PlayAt w w5 w.heap.size t n X1 Y1 w4.heap.size z 0 := ⟨_, _, D0.out, padTo_length (by have := HN.out; omega)⟩
  clear D0 HW HR HZ hmk
  go_loopw [98] (fun i wr => ∃ j : Nat, j ≤ M ∧ i = .int .i64 j ∧ PlayAt w wr w.heap.size t n X1 Y1 w4.heap.size z j) (fun i _ => M - (intOf i).toNat)
  case atStart => exact ⟨0, Nat.zero_le _, rfl, hstart⟩
  case round =>
    clear hstart
    obtain ⟨j, hj, rfl, zs, l, hp, hz2⟩ := hrel
    have D := Lib.hid hp
    have HL := Lib.hid hz2
    clear hp hz2
    by_cases hlt : j < M
    · obtain ⟨bo, rfl, o0, o1, o2, o3⟩ := (HO.out.later D.out.below) j (by rw [HM.out]; exact hlt)
      generalize os[j]'(by rw [HM.out]; exact hlt) = ov at *
      obtain ⟨K, A, Old, x⟩ := ov
      simp only at o0 o1 o2 o3
      by_cases hA : 0 ≤ A ∧ A < (z : Int)
      · as_aux_lemma =>
          obtain ⟨b, rfl⟩ : ∃ b : Nat, A = b := ⟨A.toNat, by omega⟩
          have hd0 : decide ((0 : Int) ≤ (b : Int)) = true := by simp
          have hd1 : decide ((b : Int) < (z : Int)) = true := by simp; omega
          have hbz : b < z := by omega
          have hvl := D.out.row.lt
          have hw := D.out.row.word (a := b) (by rw [HL.out]; exact hbz)
          obtain ⟨V, hV⟩ : ∃ V, V = zs.getD b 0 := ⟨_, rfl⟩
          rw [← hV] at hw
          have HV := Lib.hid hV
          have hin : Hid (wordAt zs b = V) := by unfold Hid; rw [wordAt_nat (by rw [HL.out]; exact hbz), HV.out]
          have hib : Hid (inB zs b = true) := inB_nat (by rw [HL.out]; exact hbz)
          clear hV hA
          go_upto_block 2 with fail
          go_cut [] (fun wx => Mid w wx w.heap.size t n X1 Y1 w4.heap.size j wr.heap.size (wr.heap.size + 1) K b Old x V true zs)
          case first =>
            by_cases h1 : K = 1
            · subst h1
              have T0 := Lib.hid (Turn.new D.out (opCells 1 b Old x) #[.int .i64 1, .int .i64 b, .int .u64 V, .int .u64 V, .bool true])
              go_wp2_with (go_at_call 13; refine (Load_any T0.out.play.mem b (by omega) (by omega)).mono ?_; rintro e w6 ⟨rfl, hm, ha⟩; rw [hin.out] at hm; rw [hin.out]; rw [hib.out] at hm; have T1 := Lib.hid (T0.out.act hm ha); clear T0 hm ha; obtain ⟨p0, p1, p2, p3, q0, q1, q2, q3, q4, fq, fv, lp, lq, pv, qv, vq, vp, pq, qp⟩ := T1.out.cells)
              all_goals
                go_meet
                case rel => exact ⟨_, _, _, T1.out, Or.inl ⟨rfl, rfl, by rw [← hin.out]; exact (setAt_same zs b).symm⟩⟩
            by_cases h2 : K = 2
            · subst h2
              have T0 := Lib.hid (Turn.new D.out (opCells 2 b Old x) #[.int .i64 2, .int .i64 b, .int .u64 V, .int .u64 V, .bool true])
              go_wp2_with (go_at_call 14; refine (Store_any T0.out.play.mem b x (by omega) (by omega)).mono ?_; rintro e w6 ⟨rfl, hm, ha⟩; rw [hin.out, hib.out] at hm; have T1 := Lib.hid (T0.out.act hm ha); clear T0 hm ha; obtain ⟨p0, p1, p2, p3, q0, q1, q2, q3, q4, fq, fv, lp, lq, pv, qv, vq, vp, pq, qp⟩ := T1.out.cells)
              all_goals
                go_meet
                case rel => exact ⟨_, _, _, T1.out.wantPut 3 (.int .u64 x), Or.inl ⟨rfl, rfl, rfl⟩⟩
            by_cases h3 : K = 3
            · subst h3
              by_cases hvo : V = Old
              · subst hvo
                have T0 := Lib.hid (Turn.new D.out (opCells 3 b V x) #[.int .i64 3, .int .i64 b, .int .u64 V, .int .u64 V, .bool true])
                have HC : Hid ((inB zs b && wordAt zs b == V) = true) := by unfold Hid; rw [hib.out, hin.out]; simp
                go_wp2
                have T0d := Lib.hid T0.out.drew
                clear T0
                go_region_held3 (fun wx => wx.cell? ⟨wr.heap.size, 1, none⟩ = some (.int .i64 b) ∧ wx.cell? ⟨wr.heap.size, 2, none⟩ = some (.int .u64 V) ∧ wx.cell? ⟨wr.heap.size, 3, none⟩ = some (.int .u64 x) ∧ wx.cell? ⟨wr.heap.size + 1, 4, none⟩ = some (.bool true)) (go_keep)
                  ((go_at_call 15; refine (cas_eq T0d.out.play.mem b V x true (setAt zs b x) (by omega) (by omega) HC.out rfl).mono ?_; rintro e w6 ⟨rfl, hm, ha⟩; rw [hin.out, hib.out] at hm; have T1 := Lib.hid (T0d.out.act hm ha); clear T0d hm ha; obtain ⟨p0, p1, p2, p3, q0, q1, q2, q3, q4, fq, fv, lp, lq, pv, qv, vq, vp, pq, qp⟩ := T1.out.cells))
                go_wp2
                all_goals
                  go_meet
                  case rel => exact ⟨_, _, _, T1.out.wantPut 3 (.int .u64 x), Or.inl ⟨rfl, rfl, rfl⟩⟩
              · have ho : (V == Old) = false := by simpa using hvo
                have T0 := Lib.hid (Turn.new D.out (opCells 3 b Old x) #[.int .i64 3, .int .i64 b, .int .u64 V, .int .u64 V, .bool false])
                have HC : Hid ((inB zs b && wordAt zs b == Old) = false) := by unfold Hid; rw [hib.out, hin.out]; simpa using hvo
                go_wp2
                have T0d := Lib.hid T0.out.drew
                clear T0
                go_region_held3 (fun wx => wx.cell? ⟨wr.heap.size, 1, none⟩ = some (.int .i64 b) ∧ wx.cell? ⟨wr.heap.size, 2, none⟩ = some (.int .u64 Old) ∧ wx.cell? ⟨wr.heap.size, 3, none⟩ = some (.int .u64 x) ∧ wx.cell? ⟨wr.heap.size + 1, 4, none⟩ = some (.bool false)) (go_keep)
                  ((go_at_call 15; refine (cas_eq T0d.out.play.mem b Old x false zs (by omega) (by omega) HC.out rfl).mono ?_; rintro e w6 ⟨rfl, hm, ha⟩; rw [hin.out, hib.out] at hm; have T1 := Lib.hid (T0d.out.act hm ha); clear T0d hm ha; obtain ⟨p0, p1, p2, p3, q0, q1, q2, q3, q4, fq, fv, lp, lq, pv, qv, vq, vp, pq, qp⟩ := T1.out.cells))
                go_wp2
                all_goals
                  go_meet
                  case rel => exact ⟨_, _, _, T1.out.wantPut 3 (.int .u64 x), Or.inr ⟨rfl, rfl⟩⟩
            by_cases h4 : K = 4
            · subst h4
              have T0 := Lib.hid (Turn.new D.out (opCells 4 b Old x) #[.int .i64 4, .int .i64 b, .int .u64 V, .int .u64 V, .bool true])
              go_wp2_with (go_at_call 16; refine (Add_any T0.out.play.mem b x (by omega) (by omega)).mono ?_; rintro e w6 ⟨rfl, hm, ha⟩; rw [hin.out, hib.out] at hm; rw [hin.out]; have T1 := Lib.hid (T0.out.act hm ha); clear T0 hm ha; obtain ⟨p0, p1, p2, p3, q0, q1, q2, q3, q4, fq, fv, lp, lq, pv, qv, vq, vp, pq, qp⟩ := T1.out.cells)
              all_goals
                go_meet
                case rel => exact ⟨_, _, _, T1.out.wantPut 3 (.int .u64 (IntKind.u64.wrap (V + x))), Or.inl ⟨rfl, rfl, rfl⟩⟩
            have k1 : (K == 1) = false := by simpa using h1
            have k2 : (K == 2) = false := by simpa using h2
            have k3 : (K == 3) = false := by simpa using h3
            have k4 : (K == 4) = false := by simpa using h4
            go_wp2
            go_returns
            exact ⟨rfl, D.out.below.trans (by have := D.out.below.size; go_grown)⟩
          case rest =>
            obtain ⟨zs2, nw, ok, hT, hor⟩ := hcut
            have T1 := Lib.hid hT
            clear hT
            have gv := T1.out.play.row.word (a := b) (by rw [HL.out]; exact hbz)
            rw [← HV.out] at gv
            obtain ⟨p0, p1, p2, p3, q0, q1, q2, q3, q4, fq, fv, lp, lq, pv, qv, vq, vp, pq, qp⟩ := T1.out.cells
            rcases hor with ⟨rfl, _, rfl⟩ | ⟨rfl, rfl⟩
            · rw [setAt_nat nw (by rw [HL.out]; exact hbz)] at T1
              have HB2 : Hid (b < (zs.set b nw).length) := by unfold Hid; rw [List.length_set, HL.out]; exact hbz
              have HB3 : Hid ((zs.set b nw).getD b 0 = nw) := get_set _ _ _ (by rw [HL.out]; exact hbz)
              have HP : Hid (wordAt (zs.set b nw) b = nw) := by unfold Hid; rw [wordAt_nat HB2.out]; exact HB3.out
              go_wp2
              refine quiet.region (C := fun wx => Turn w wx w.heap.size t n X1 Y1 w4.heap.size (zs.set b nw) (zs.set b nw) (j + 1) ⟨K, b, V, nw, true⟩ wr.heap.size (wr.heap.size + 1) (opCells K b Old x) (#[.int .i64 K, .int .i64 b, .int .u64 V, .int .u64 nw, .bool true])) ((T1.out.rowPut b nw (by rw [HL.out]; exact hbz)).drew) (by kernel_rfl) (by kernel_rfl) ?_
              repeat (first
                | go_big_quiet_skip
                | (go_big_quiet_want; go_big_quiet_op; first
                  | go_big_quiet_on
                  | (refine ⟨_, fun _ _ => rfl, ?_⟩; go_big_quiet_on)
                  | (refine ⟨.int .i64 b, fun wx hwx => (by rw [hwx.op.at 1 rfl]; exact ⟨rfl, rfl⟩), ?_⟩; go_big_quiet_on)
                  | (refine ⟨.int .u64 nw, fun wx hwx => (by rw [hwx.play.row.word (a := b) HB2.out, HB3.out]; exact ⟨rfl, rfl⟩), ?_⟩; go_big_quiet_on)
                  | (refine ⟨.agg (#[.int .i64 K, .int .i64 b, .int .u64 V, .int .u64 nw, .bool true]), fun wx hwx => (by rw [hwx.want.at 0 rfl, Result.andThen_ok, hwx.want.at 1 rfl]; simp only [Result.andThen_ok]; rw [hwx.want.at 2 rfl]; simp only [Result.andThen_ok]; rw [hwx.want.at 3 rfl]; simp only [Result.andThen_ok]; rw [hwx.want.at 4 rfl]; exact ⟨rfl, rfl⟩), ?_⟩; go_big_quiet_on)
                  | (apply Exists.intro; refine ⟨fun wx hwx => ?_, ?_⟩; (first | (go_at_call 19; exact still (peek_eq hwx.play.mem b nw HP.out) hwx) | (go_at_call 18; exact quiet.call (last_any hwx.play.mem) (fun _ hb => hwx.next hb)) | (go_at_call 17; exact still (actions_any hwx.play.mem) hwx)); go_big_quiet_on)))
              refine wpQuiet_nil ?_
              intro w9 hq9
              have T9 := Lib.hid hq9
              clear hq9
              go_wp2
              go_roundw
              case rel => exact ⟨j + 1, by omega, by go_num, play_at T9.out.play rfl (by rw [List.length_set]; exact HL.out)⟩
              case measure => simp [intOf]; omega
            · have HB2 : Hid (b < zs.length) := by unfold Hid; rw [HL.out]; exact hbz
              have HB3 : Hid (zs.getD b 0 = V) := HV.out.symm
              go_wp2
              refine quiet.region (C := fun wx => Turn w wx w.heap.size t n X1 Y1 w4.heap.size zs zs (j + 1) ⟨K, b, V, nw, false⟩ wr.heap.size (wr.heap.size + 1) (opCells K b Old x) (#[.int .i64 K, .int .i64 b, .int .u64 V, .int .u64 nw, .bool false])) (T1.out.drew) (by kernel_rfl) (by kernel_rfl) ?_
              repeat (first
                | go_big_quiet_skip
                | (go_big_quiet_want; go_big_quiet_op; first
                  | go_big_quiet_on
                  | (refine ⟨_, fun _ _ => rfl, ?_⟩; go_big_quiet_on)
                  | (refine ⟨.int .i64 b, fun wx hwx => (by rw [hwx.op.at 1 rfl]; exact ⟨rfl, rfl⟩), ?_⟩; go_big_quiet_on)
                  | (refine ⟨.int .u64 V, fun wx hwx => (by rw [hwx.play.row.word (a := b) HB2.out, HB3.out]; exact ⟨rfl, rfl⟩), ?_⟩; go_big_quiet_on)
                  | (refine ⟨.agg (#[.int .i64 K, .int .i64 b, .int .u64 V, .int .u64 nw, .bool false]), fun wx hwx => (by rw [hwx.want.at 0 rfl, Result.andThen_ok, hwx.want.at 1 rfl]; simp only [Result.andThen_ok]; rw [hwx.want.at 2 rfl]; simp only [Result.andThen_ok]; rw [hwx.want.at 3 rfl]; simp only [Result.andThen_ok]; rw [hwx.want.at 4 rfl]; exact ⟨rfl, rfl⟩), ?_⟩; go_big_quiet_on)
                  | (apply Exists.intro; refine ⟨fun wx hwx => ?_, ?_⟩; (first | (go_at_call 19; exact still (peek_eq hwx.play.mem b V hin.out) hwx) | (go_at_call 18; exact quiet.call (last_any hwx.play.mem) (fun _ hb => hwx.next hb)) | (go_at_call 17; exact still (actions_any hwx.play.mem) hwx)); go_big_quiet_on)))
              refine wpQuiet_nil ?_
              intro w9 hq9
              have T9 := Lib.hid hq9
              clear hq9
              go_wp2
              go_roundw
              case rel => exact ⟨j + 1, by omega, by go_num, play_at T9.out.play rfl HL.out⟩
              case measure => simp [intOf]; omega
      · have hvl := D.out.row.lt
        have hin : Hid (wordAt zs A = 0) := wordAt_not (by rw [HL.out]; exact hA)
        have hib : Hid (inB zs A = false) := inB_not (by rw [HL.out]; exact hA)
        have hst : ∀ v, setAt zs A v = zs := fun v => setAt_not v (by rw [HL.out]; exact hA)
        have HT := Lib.hid hst
        clear hst
        by_cases hneg : 0 ≤ A
        · have hd0 : decide ((0 : Int) ≤ A) = true := by simpa using hneg
          have hd1 : decide (A < (z : Int)) = false := by simp; omega
          clear hA
          as_aux_lemma =>
            go_upto_block 2 with fail
            go_cut [] (fun wx => Mid w wx w.heap.size t n X1 Y1 w4.heap.size j wr.heap.size (wr.heap.size + 1) K A Old x 0 false zs)
            case first =>
              by_cases h1 : K = 1
              · subst h1
                have T0 := Lib.hid (Turn.new D.out (opCells 1 A Old x) #[.int .i64 1, .int .i64 A, .int .u64 0, .int .u64 0, .bool false])
                go_wp2_with (go_at_call 13; refine (Load_any T0.out.play.mem A (by omega) (by omega)).mono ?_; rintro e w6 ⟨rfl, hm, ha⟩; rw [hin.out] at hm; rw [hin.out]; rw [hib.out] at hm; have T1 := Lib.hid (T0.out.act hm ha); clear T0 hm ha; obtain ⟨p0, p1, p2, p3, q0, q1, q2, q3, q4, fq, fv, lp, lq, pv, qv, vq, vp, pq, qp⟩ := T1.out.cells)
                all_goals
                  go_meet
                  case rel => exact ⟨_, _, _, T1.out, Or.inr ⟨rfl, rfl⟩⟩
              by_cases h2 : K = 2
              · subst h2
                have T0 := Lib.hid (Turn.new D.out (opCells 2 A Old x) #[.int .i64 2, .int .i64 A, .int .u64 0, .int .u64 0, .bool false])
                go_wp2_with (go_at_call 14; refine (Store_any T0.out.play.mem A x (by omega) (by omega)).mono ?_; rintro e w6 ⟨rfl, hm, ha⟩; rw [HT.out, hin.out, hib.out] at hm; have T1 := Lib.hid (T0.out.act hm ha); clear T0 hm ha; obtain ⟨p0, p1, p2, p3, q0, q1, q2, q3, q4, fq, fv, lp, lq, pv, qv, vq, vp, pq, qp⟩ := T1.out.cells)
                all_goals
                  go_meet
                  case rel => exact ⟨_, _, _, T1.out, Or.inr ⟨rfl, rfl⟩⟩
              by_cases h3 : K = 3
              · subst h3
                have T0 := Lib.hid (Turn.new D.out (opCells 3 A Old x) #[.int .i64 3, .int .i64 A, .int .u64 0, .int .u64 0, .bool false])
                have HC : Hid ((inB zs A && wordAt zs A == Old) = false) := by unfold Hid; rw [hib.out]; rfl
                go_wp2
                have T0d := Lib.hid T0.out.drew
                clear T0
                go_region_held3 (fun wx => wx.cell? ⟨wr.heap.size, 1, none⟩ = some (.int .i64 A) ∧ wx.cell? ⟨wr.heap.size, 2, none⟩ = some (.int .u64 Old) ∧ wx.cell? ⟨wr.heap.size, 3, none⟩ = some (.int .u64 x) ∧ wx.cell? ⟨wr.heap.size + 1, 4, none⟩ = some (.bool false)) (go_keep)
                  ((go_at_call 15; refine (cas_eq T0d.out.play.mem A Old x false zs (by omega) (by omega) HC.out rfl).mono ?_; rintro e w6 ⟨rfl, hm, ha⟩; rw [hin.out, hib.out] at hm; have T1 := Lib.hid (T0d.out.act hm ha); clear T0d hm ha; obtain ⟨p0, p1, p2, p3, q0, q1, q2, q3, q4, fq, fv, lp, lq, pv, qv, vq, vp, pq, qp⟩ := T1.out.cells))
                go_wp2
                all_goals
                  go_meet
                  case rel => exact ⟨_, _, _, T1.out, Or.inr ⟨rfl, rfl⟩⟩
              by_cases h4 : K = 4
              · subst h4
                have T0 := Lib.hid (Turn.new D.out (opCells 4 A Old x) #[.int .i64 4, .int .i64 A, .int .u64 0, .int .u64 0, .bool false])
                go_wp2_with (go_at_call 16; refine (Add_any T0.out.play.mem A x (by omega) (by omega)).mono ?_; rintro e w6 ⟨rfl, hm, ha⟩; rw [HT.out, hin.out, hib.out] at hm; rw [hin.out]; have T1 := Lib.hid (T0.out.act hm ha); clear T0 hm ha; obtain ⟨p0, p1, p2, p3, q0, q1, q2, q3, q4, fq, fv, lp, lq, pv, qv, vq, vp, pq, qp⟩ := T1.out.cells)
                all_goals
                  go_meet
                  case rel => exact ⟨_, _, _, T1.out, Or.inr ⟨rfl, rfl⟩⟩
              have k1 : (K == 1) = false := by simpa using h1
              have k2 : (K == 2) = false := by simpa using h2
              have k3 : (K == 3) = false := by simpa using h3
              have k4 : (K == 4) = false := by simpa using h4
              go_wp2
              go_returns
              exact ⟨rfl, D.out.below.trans (by have := D.out.below.size; go_grown)⟩
            case rest =>
              obtain ⟨zs2, nw, ok, hT, hor⟩ := hcut
              have T1 := Lib.hid hT
              clear hT
              obtain ⟨p0, p1, p2, p3, q0, q1, q2, q3, q4, fq, fv, lp, lq, pv, qv, vq, vp, pq, qp⟩ := T1.out.cells
              rcases hor with ⟨_, hf, _⟩ | ⟨rfl, rfl⟩
              · exact absurd hf (by decide)
              go_wp2
              refine quiet.region (C := fun wx => Turn w wx w.heap.size t n X1 Y1 w4.heap.size zs zs (j + 1) ⟨K, A, 0, nw, false⟩ wr.heap.size (wr.heap.size + 1) (opCells K A Old x) (#[.int .i64 K, .int .i64 A, .int .u64 0, .int .u64 nw, .bool false])) (T1.out.drew) (by kernel_rfl) (by kernel_rfl) ?_
              repeat (first
                | go_big_quiet_skip
                | (go_big_quiet_want; go_big_quiet_op; first
                  | go_big_quiet_on
                  | (refine ⟨_, fun _ _ => rfl, ?_⟩; go_big_quiet_on)
                  | (refine ⟨.int .i64 A, fun wx hwx => (by rw [hwx.op.at 1 rfl]; exact ⟨rfl, rfl⟩), ?_⟩; go_big_quiet_on)
                  | (refine ⟨.agg (#[.int .i64 K, .int .i64 A, .int .u64 0, .int .u64 nw, .bool false]), fun wx hwx => (by rw [hwx.want.at 0 rfl, Result.andThen_ok, hwx.want.at 1 rfl]; simp only [Result.andThen_ok]; rw [hwx.want.at 2 rfl]; simp only [Result.andThen_ok]; rw [hwx.want.at 3 rfl]; simp only [Result.andThen_ok]; rw [hwx.want.at 4 rfl]; exact ⟨rfl, rfl⟩), ?_⟩; go_big_quiet_on)
                  | (apply Exists.intro; refine ⟨fun wx hwx => ?_, ?_⟩; (first | (go_at_call 19; exact still (peek_eq hwx.play.mem A 0 hin.out) hwx) | (go_at_call 18; exact quiet.call (last_any hwx.play.mem) (fun _ hb => hwx.next hb)) | (go_at_call 17; exact still (actions_any hwx.play.mem) hwx)); go_big_quiet_on)))
              refine wpQuiet_nil ?_
              intro w9 hq9
              have T9 := Lib.hid hq9
              clear hq9
              go_wp2
              go_roundw
              case rel => exact ⟨j + 1, by omega, by go_num, play_at T9.out.play rfl HL.out⟩
              case measure => simp [intOf]; omega
        · have hd0 : decide ((0 : Int) ≤ A) = false := by simpa using hneg
          clear hA
          as_aux_lemma =>
            go_upto_block 2 with fail
            go_cut [] (fun wx => Mid w wx w.heap.size t n X1 Y1 w4.heap.size j wr.heap.size (wr.heap.size + 1) K A Old x 0 false zs)
            case first =>
              by_cases h1 : K = 1
              · subst h1
                have T0 := Lib.hid (Turn.new D.out (opCells 1 A Old x) #[.int .i64 1, .int .i64 A, .int .u64 0, .int .u64 0, .bool false])
                go_wp2_with (go_at_call 13; refine (Load_any T0.out.play.mem A (by omega) (by omega)).mono ?_; rintro e w6 ⟨rfl, hm, ha⟩; rw [hin.out] at hm; rw [hin.out]; rw [hib.out] at hm; have T1 := Lib.hid (T0.out.act hm ha); clear T0 hm ha; obtain ⟨p0, p1, p2, p3, q0, q1, q2, q3, q4, fq, fv, lp, lq, pv, qv, vq, vp, pq, qp⟩ := T1.out.cells)
                all_goals
                  go_meet
                  case rel => exact ⟨_, _, _, T1.out, Or.inr ⟨rfl, rfl⟩⟩
              by_cases h2 : K = 2
              · subst h2
                have T0 := Lib.hid (Turn.new D.out (opCells 2 A Old x) #[.int .i64 2, .int .i64 A, .int .u64 0, .int .u64 0, .bool false])
                go_wp2_with (go_at_call 14; refine (Store_any T0.out.play.mem A x (by omega) (by omega)).mono ?_; rintro e w6 ⟨rfl, hm, ha⟩; rw [HT.out, hin.out, hib.out] at hm; have T1 := Lib.hid (T0.out.act hm ha); clear T0 hm ha; obtain ⟨p0, p1, p2, p3, q0, q1, q2, q3, q4, fq, fv, lp, lq, pv, qv, vq, vp, pq, qp⟩ := T1.out.cells)
                all_goals
                  go_meet
                  case rel => exact ⟨_, _, _, T1.out, Or.inr ⟨rfl, rfl⟩⟩
              by_cases h3 : K = 3
              · subst h3
                have T0 := Lib.hid (Turn.new D.out (opCells 3 A Old x) #[.int .i64 3, .int .i64 A, .int .u64 0, .int .u64 0, .bool false])
                have HC : Hid ((inB zs A && wordAt zs A == Old) = false) := by unfold Hid; rw [hib.out]; rfl
                go_wp2
                have T0d := Lib.hid T0.out.drew
                clear T0
                go_region_held3 (fun wx => wx.cell? ⟨wr.heap.size, 1, none⟩ = some (.int .i64 A) ∧ wx.cell? ⟨wr.heap.size, 2, none⟩ = some (.int .u64 Old) ∧ wx.cell? ⟨wr.heap.size, 3, none⟩ = some (.int .u64 x) ∧ wx.cell? ⟨wr.heap.size + 1, 4, none⟩ = some (.bool false)) (go_keep)
                  ((go_at_call 15; refine (cas_eq T0d.out.play.mem A Old x false zs (by omega) (by omega) HC.out rfl).mono ?_; rintro e w6 ⟨rfl, hm, ha⟩; rw [hin.out, hib.out] at hm; have T1 := Lib.hid (T0d.out.act hm ha); clear T0d hm ha; obtain ⟨p0, p1, p2, p3, q0, q1, q2, q3, q4, fq, fv, lp, lq, pv, qv, vq, vp, pq, qp⟩ := T1.out.cells))
                go_wp2
                all_goals
                  go_meet
                  case rel => exact ⟨_, _, _, T1.out, Or.inr ⟨rfl, rfl⟩⟩
              by_cases h4 : K = 4
              · subst h4
                have T0 := Lib.hid (Turn.new D.out (opCells 4 A Old x) #[.int .i64 4, .int .i64 A, .int .u64 0, .int .u64 0, .bool false])
                go_wp2_with (go_at_call 16; refine (Add_any T0.out.play.mem A x (by omega) (by omega)).mono ?_; rintro e w6 ⟨rfl, hm, ha⟩; rw [HT.out, hin.out, hib.out] at hm; rw [hin.out]; have T1 := Lib.hid (T0.out.act hm ha); clear T0 hm ha; obtain ⟨p0, p1, p2, p3, q0, q1, q2, q3, q4, fq, fv, lp, lq, pv, qv, vq, vp, pq, qp⟩ := T1.out.cells)
                all_goals
                  go_meet
                  case rel => exact ⟨_, _, _, T1.out, Or.inr ⟨rfl, rfl⟩⟩
              have k1 : (K == 1) = false := by simpa using h1
              have k2 : (K == 2) = false := by simpa using h2
              have k3 : (K == 3) = false := by simpa using h3
              have k4 : (K == 4) = false := by simpa using h4
              go_wp2
              go_returns
              exact ⟨rfl, D.out.below.trans (by have := D.out.below.size; go_grown)⟩
            case rest =>
              obtain ⟨zs2, nw, ok, hT, hor⟩ := hcut
              have T1 := Lib.hid hT
              clear hT
              obtain ⟨p0, p1, p2, p3, q0, q1, q2, q3, q4, fq, fv, lp, lq, pv, qv, vq, vp, pq, qp⟩ := T1.out.cells
              rcases hor with ⟨_, hf, _⟩ | ⟨rfl, rfl⟩
              · exact absurd hf (by decide)
              go_wp2
              refine quiet.region (C := fun wx => Turn w wx w.heap.size t n X1 Y1 w4.heap.size zs zs (j + 1) ⟨K, A, 0, nw, false⟩ wr.heap.size (wr.heap.size + 1) (opCells K A Old x) (#[.int .i64 K, .int .i64 A, .int .u64 0, .int .u64 nw, .bool false])) (T1.out.drew) (by kernel_rfl) (by kernel_rfl) ?_
              repeat (first
                | go_big_quiet_skip
                | (go_big_quiet_want; go_big_quiet_op; first
                  | go_big_quiet_on
                  | (refine ⟨_, fun _ _ => rfl, ?_⟩; go_big_quiet_on)
                  | (refine ⟨.int .i64 A, fun wx hwx => (by rw [hwx.op.at 1 rfl]; exact ⟨rfl, rfl⟩), ?_⟩; go_big_quiet_on)
                  | (refine ⟨.agg (#[.int .i64 K, .int .i64 A, .int .u64 0, .int .u64 nw, .bool false]), fun wx hwx => (by rw [hwx.want.at 0 rfl, Result.andThen_ok, hwx.want.at 1 rfl]; simp only [Result.andThen_ok]; rw [hwx.want.at 2 rfl]; simp only [Result.andThen_ok]; rw [hwx.want.at 3 rfl]; simp only [Result.andThen_ok]; rw [hwx.want.at 4 rfl]; exact ⟨rfl, rfl⟩), ?_⟩; go_big_quiet_on)
                  | (apply Exists.intro; refine ⟨fun wx hwx => ?_, ?_⟩; (first | (go_at_call 19; exact still (peek_eq hwx.play.mem A 0 hin.out) hwx) | (go_at_call 18; exact quiet.call (last_any hwx.play.mem) (fun _ hb => hwx.next hb)) | (go_at_call 17; exact still (actions_any hwx.play.mem) hwx)); go_big_quiet_on)))
              refine wpQuiet_nil ?_
              intro w9 hq9
              have T9 := Lib.hid hq9
              clear hq9
              go_wp2
              go_roundw
              case rel => exact ⟨j + 1, by omega, by go_num, play_at T9.out.play rfl HL.out⟩
              case measure => simp [intOf]; omega
    · have hjM : j = M := by omega
      clear hlt
      subst hjM
      go_wp2
      go_loop [240] (fun i => ∃ k : Nat, k ≤ z ∧ i = .int .i64 k) (fun i => z - (intOf i).toNat)
      case atStart => exact ⟨0, Nat.zero_le _, rfl⟩
      case round =>
        obtain ⟨k, hk, rfl⟩ := hrel
        by_cases hkz : k < z
        · have hw := D.out.row.word (a := k) (by rw [HL.out]; exact hkz)
          obtain ⟨V, hV⟩ : ∃ V, V = zs.getD k 0 := ⟨_, rfl⟩
          rw [← hV] at hw
          have HV : Hid (wordAt zs k = V) := by unfold Hid; rw [wordAt_nat (by rw [HL.out]; exact hkz), hV]
          clear hV
          go_wp2_with (go_at_call 19; refine (peek_eq D.out.mem k V HV.out).mono ?_; rintro e w6 ⟨rfl, rfl⟩)
          go_round
          case rel => exact ⟨k + 1, by omega, by go_num⟩
          case measure => simp [intOf]; omega
        · go_wp2
          go_returns
          exact ⟨rfl, D.out.below⟩
end Go.Proofs.Ytfoiahnpnipjnaa.mem
