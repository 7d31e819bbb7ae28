/- The law LifeRaces answers true at any lives, nodes and order. -/
import Derived.Test.YtglkpajnhdamkaaLRaceB
import Derived.Test.YtglkpajnhdamkaaLBytes
import Derived.Deep.QuietTactic
import Derived.BigQuiet
import Derived.Deep.RegionHeld3
import Derived.Test.YtglkpajnhdamkaaStepLaw
namespace Go.Proofs.Ytglkpajnhdamkaa.life
open Go.RowKit mem

/-- The world behind the new memory: it and its layout in blocks. -/
abbrev laidW (w : World) (X : Nat) (n : Int) : World := (w.alloc (.cells #[ptr X] 24)).alloc (.cells (layCells 1 n) 26)
theorem laidW_size (w : World) (X : Nat) (n : Int) : (laidW w X n).heap.size = w.heap.size + 2 := by simp
theorem RB.start {W w1 w2 w3 : World} {X Y : Nat} {n : Int} {zs : List Int} {fa : Option Addr} {FL : List Int} (hW : Below W.heap.size W w1) (hn : NewS w1 1 n zs X Y w2) (hb : Below (laidW w2 X n).heap.size (laidW w2 X n) w3) (hl : ListAt w3 ((laidW w2 X n).heap.size + 1) fa FL) :
    RB W (w3.alloc (.cells #[.slice none 0 0] 46)) X Y w2.heap.size (w2.heap.size + 1) w3.heap.size (w3.heap.size + 1) n zs ((laidW w2 X n).heap.size + 1) fa FL (.slice none 0 0) [] [] := by
  have h1 := hW.size
  have h2 := hn.below.size
  have h3 := hn.x
  have h4 := hn.y
  have h5 := hn.mem.ltX
  have h6 := hn.mem.ltY
  have h7 := hb.size
  rw [laidW_size] at h7
  have hm : Box (laidW w2 X n) w2.heap.size #[ptr X] 24 := (Box.new w2 _ _).alloc _
  have hlay : Box (laidW w2 X n) (w2.heap.size + 1) (layCells 1 n) 26 := by
    have := Box.new (w2.alloc (.cells #[ptr X] 24)) (layCells 1 n) 26
    simpa using this
  refine ⟨(hm.below hb).alloc _, (hlay.below hb).alloc _, Box.new _ _ _, World.ownsRow_nil _ _ _ _, fun k hk => absurd hk (by simp), (((hn.mem.alloc _).alloc _).below hb).alloc _, hl.below ((Below.refl _ _).alloc (Nat.le_refl _) _), ?_, rfl, fun x hx => absurd hx (by simp), fun i j _ hj => absurd hj (by simp), fun i hi => absurd hi (by simp), by omega, by omega, by omega, by omega, by omega, ?_, by omega, by omega, by omega, by omega, by simp⟩
  · exact (past (((past hW hn.below).alloc (by omega) _).alloc (by simp; omega) _) hb).alloc (by omega) _
  · intro g hg
    rcases hl with ⟨_, h0⟩ | ⟨g', h8, _, h9⟩
    · rw [h0] at hg; cases hg
    · rw [h8] at hg
      have := h9.lt
      obtain rfl : g' = g := by injection hg with e; injection e
      omega
theorem Tryinfo_ptr : (Try.prog.info? 33).map (fun i => (i.zero, i.size, i.bytes)) = some (some (.pointer none), 1, 8) := by kernel_rfl
/-- One more machine, appended. -/
theorem append_ptr {W w w4 : World} {X Y bm bl br E : Nat} {n : Int} {zs : List Int} {lo : Nat} {fa : Option Addr} {FL : List Int} {v : Value} {cs : List Nat} {nds : List Int} {C : Nat} {nd : Int} (h : RB W w X Y bm bl br E n zs lo fa FL v cs nds) (hn : NewAl w C 1 n (alNew n nd) w4) (hc : cs.length ≤ 100) (ty : TypeId) :
    ∃ g' c' w5, (Builtin.append_ #[46, 46] ty #[v, .slice (some ⟨w4.heap.size, 0, none⟩) 1 1]).run Try.prog (w4.alloc (.cells #[ptr C] 33)) = .ok (.slice (some ⟨g', 0, none⟩) (cs.length + 1) c') w5 ∧ w5.ownsRow E 33 1 (.slice (some ⟨g', 0, none⟩) (cs.length + 1) c') (cs.length + 1) (cs.map ptr ++ [ptr C]) ∧ (w4.alloc (.cells #[ptr C] 33)).grownBy w5 v.ownBlock := by
  obtain ⟨i, hi, h0, h1, h2⟩ := info_parts Tryinfo_ptr
  have hs := hn.below.size
  have hown : (w4.alloc (.cells #[ptr C] 33)).ownsRow E 33 1 v cs.length (cs.map ptr) := (h.next hn.below).own.alloc _
  obtain ⟨v', w5, hrun, ho, hg, _⟩ := run_append_own (P := Try.prog) (w := w4.alloc (.cells #[ptr C] 33)) E 46 ty 33 i (.pointer none) 1 8 Try.underlying46 hi h0 h1 h2 rfl (by decide) v cs.length (cs.map ptr) hown ⟨w4.heap.size, 0, none⟩ 1 1 [ptr C] rfl (cell_one _ _ _ rfl) (one_cell _ rfl) (by unfold maxLen; omega) (by omega) (by have := h.Ew; simp; omega)
  have ho' := ho
  obtain ⟨hl, ⟨_, hz⟩ | ⟨g, cap, cur, rfl, _⟩⟩ := ho'
  · omega
  · exact ⟨g, cap, w5, hrun, ho, hg⟩

set_option maxRecDepth 100000 in
set_option maxHeartbeats 8000000 in
theorem races_main (w : World) (a b c : Option Addr) (ws fs os : List Int) (N F O cap capf capo : Nat) (hN : ws.length = N) (hF : fs.length = F) (hO : os.length = O) (hN0 : 0 < N) (hN1 : (N : Int) ≤ 40) (hF0 : 0 < F) (hF1 : (F : Int) ≤ 8) (hO1 : (O : Int) ≤ 600)
    (hw : Words w a ws) (hr : ∀ x ∈ ws, 0 ≤ x ∧ x < 18446744073709551616) (hf : BytesAt w b fs) (ho : BytesAt w c os) :
    Calls Try.prog 4 #[.slice a N cap, .slice b F capf, .slice c O capo] w fun e w' => e = .returned (.bool true) ∧ Below w.heap.size w w' := by
  have d1 : decide (40 < (N : Int)) = false := by simp; omega
  have d2 : ((N : Int) == 0) = false := by simp; omega
  have d3 : decide (8 < (F : Int)) = false := by simp; omega
  have d4 : ((F : Int) == 0) = false := by simp; omega
  have d5 : decide (600 < (O : Int)) = false := by simp; omega
  have HW := Lib.hid hw
  have HN := Lib.hid hN
  have HRG := Lib.hid hr
  have HF := Lib.hid hF
  have HO := Lib.hid hO
  have HFB := Lib.hid hf
  have HOB := Lib.hid ho
  clear hw hN hr hF hO hf ho
  go_enter Try.func4, Try.ntmps4
  go_wp2_with (first
    | (go_at_call 7; refine (awake_any _).mono ?_; rintro e w1 ⟨rfl, hb⟩; have HB := Lib.hid hb; clear hb)
    | (go_at_call 8; refine (memory_any _ 1 N a ws N cap HN.out (by omega) (by omega) (by omega) (by omega) (by omega) (HW.out.later HB.out) HRG.out).mono ?_; rintro e w2 ⟨X, Y, zs0, rfl, hnn, hs, hlv⟩; have HNN := Lib.hid hnn; have HS := Lib.hid hs; clear hnn hs hlv)
    | (go_at_call 17; go_loud (refine (free_any (laidW w2 X N) X Y 1 N zs0 HS.out ((HNN.out.mem.alloc _).alloc _)).mono ?_; rintro e w3 ⟨fa, fc, rfl, hla, hb⟩; have B0 := Lib.hid (RB.start HB.out HNN.out hb hla); clear hla hb)))
  go_loopw [60] (fun i wr => ∃ (k : Nat) (v : Value) (cs : List Nat) (nds : List Int), k ≤ F ∧ i = .int .i64 k ∧ cs.length = k ∧ RB w wr X Y w2.heap.size (w2.heap.size + 1) w3.heap.size (w3.heap.size + 1) N zs0 ((laidW w2 X N).heap.size + 1) fa (freeL N zs0) v cs nds) (fun i _ => F - (intOf i).toNat)
  case atStart => exact ⟨0, _, [], [], Nat.zero_le _, rfl, rfl, B0.out⟩
  case round =>
    clear B0
    obtain ⟨k, v, cs, nds, hk, rfl, hcs, hrb⟩ := hrel
    have HC := Lib.hid hcs
    have HR := Lib.hid hrb
    clear hcs hrb
    have q0 : wr.cell? ⟨w2.heap.size + 1, 0, none⟩ = some (.int .i64 1) := HR.out.lay.at 0 rfl
    have q1 : wr.cell? ⟨w2.heap.size + 1, 1, none⟩ = some (.int .i64 N) := HR.out.lay.at 1 rfl
    have q2 : wr.cell? ⟨w3.heap.size, 0, none⟩ = some v := HR.out.run.at 0 rfl
    by_cases hlt : k < F
    · obtain ⟨x0, x1, bb, rfl, hc⟩ := (HFB.out.later HR.out.below) k (by rw [HF.out]; exact hlt)
      generalize fs.getD k 0 = x at *
      go_wp2
      have RD := Lib.hid (HR.out.next ((Below.refl _ wr).drew))
      go_region_law (first
        | (refine quiet.step_call2 rfl 12 (.tmp 65) (.tmp 67) 26 3 rfl (.agg #[.int .i64 1, .int .i64 N]) (.int .i64 (IntKind.i64.wrap x)) rfl rfl (by kernel_rfl) (R := fun r w4 => ∃ C, r = ptr C ∧ NewAl wr.drew C 1 N (alNew N (startAt N (IntKind.i64.wrap x))) w4) ((new_any _ 1 N (IntKind.i64.wrap x) (by omega) (by omega) (by omega) (by omega)).mono (fun e w' ⟨C, he, ha⟩ => ⟨_, he, C, rfl, ha⟩)) ?_; rintro r w4 ⟨C, rfl, ha⟩; obtain ⟨g', c', w5, hrun, hown, hgr⟩ := append_ptr RD.out ha (by have := HC.out; omega) 46; have RM := Lib.hid (RD.out.more ha (startAt_in (by omega)) hown hgr); obtain ⟨kE, _, _, _⟩ := RD.out.kept ha hgr; have R4 := Lib.hid (RD.out.next ha.below); have p0 : w4.cell? ⟨w2.heap.size + 1, 0, none⟩ = some (.int .i64 1) := R4.out.lay.at 0 rfl; have p1 : w4.cell? ⟨w2.heap.size + 1, 1, none⟩ = some (.int .i64 N) := R4.out.lay.at 1 rfl; have r1 : w4.cell? ⟨w3.heap.size, 0, none⟩ = some v := R4.out.run.at 0 rfl; have R5 := Lib.hid (R4.out.next ((Below.refl _ w4).alloc (Nat.le_refl _) (.cells #[ptr C] 33))); have r2 : (w4.alloc (.cells #[ptr C] 33)).cell? ⟨w3.heap.size, 0, none⟩ = some v := R5.out.run.at 0 rfl; have B5 : Box w5 w3.heap.size #[v] 46 := (kE _ RD.out.rE).trans RD.out.run; have r3 : w5.cell? ⟨w3.heap.size, 0, none⟩ = some v := B5.at 0 rfl; have f5 := B5.free; clear ha hown hgr kE B5)
        | (refine quiet.step_known rfl (.tmp 64) (.tmp 69) 46 rfl v (.slice (some ⟨w4.heap.size, 0, none⟩) 1 1) (.slice (some ⟨g', 0, none⟩) (cs.length + 1) c') w5 rfl rfl hrun ?_))
      all_goals
        go_wp2
        go_roundw
        case rel => exact ⟨k + 1, _, _, _, by omega, by go_num, by rw [List.length_append, HC.out]; rfl, RM.out⟩
        case measure => simp [intOf]; omega
    · obtain rfl : k = F := by omega
      have hcs := HC.out
      subst hcs
      obtain ⟨g, gc, cur, rfl, hge, hcur, hrow⟩ := ptrs_of_owns hF0 HR.out.own
      have hmk : ∀ w : World, (Instr.makeSlice 47 (.int .i64 (cs.length : Int)) (.int .i64 (cs.length : Int))).run Try.prog w = .ok (.slice (some ⟨w.heap.size, 0, none⟩) cs.length cs.length) (w.alloc (.cells (flags0 cs.length) 4)) := fun w => make_flags w cs.length (by omega)
      have RA := Lib.hid (Race.made HR.out rfl (by omega) hcur hrow)
      have OK : Hid (RaceOk N zs0 zs0 cs.length (fun k => alNew N (nds.getD k 0))) := Lib.hid (RaceOk.start HS.out (fun k hk => ⟨nds.getD k 0, by
        have hlen := HR.out.len
        have := HR.out.nds (nds.getD k 0) (by rw [List.getD_eq_getElem?_getD, List.getElem?_eq_getElem (by omega)]; exact List.getElem_mem _)
        exact ⟨this.1, this.2, rfl⟩⟩))
      clear hge hcur hrow HR HC hlt
      go_wp2
      clear hmk q0 q1 q2
      generalize wr.heap.size = G at *
      generalize hcl : cs.length = M at *
      clear hcl
      go_loopw [78] (fun i wr => ∃ (j : Nat) (zs : List Int) (A : Nat → Al), j ≤ O ∧ i = .int .i64 j ∧ RaceOk N zs0 zs M A ∧ Race w wr ⟨X, Y, w2.heap.size, w2.heap.size + 1, w3.heap.size, G + 1, g, G, gc, M, fun k => cs.getD k 0⟩ N zs M A ((laidW w2 X N).heap.size + 1) fa (freeL N zs0)) (fun i _ => O - (intOf i).toNat)
      case atStart => exact ⟨0, _, _, Nat.zero_le _, rfl, OK.out, RA.out⟩
      case round =>
        clear RA OK
        obtain ⟨j, zs, A, hj, rfl, hok, hra⟩ := hrel
        have OK := Lib.hid hok
        have RA := Lib.hid hra
        clear hok hra
        have c2 : wr.cell? ⟨w3.heap.size, 0, none⟩ = some (.slice (some ⟨g, 0, none⟩) M gc) := RA.out.run.at 0 rfl
        by_cases hjO : j < O
        · obtain ⟨x0, x1, ob, rfl, hc⟩ := (HOB.out.later RA.out.below) j (by rw [HO.out]; exact hjO)
          generalize os.getD j 0 = x at *
          obtain ⟨k, hk⟩ : ∃ k : Nat, x % (M : Int) = (k : Int) := ⟨(x % (M : Int)).toNat, by
            have h1 := Int.emod_nonneg x (show (M : Int) ≠ 0 by omega)
            omega⟩
          have hkM : k < M := by
            have h2 := Int.emod_lt_of_pos x (show (0 : Int) < M by omega)
            omega
          go_wp2_with (go_at_call 18; go_loud (refine (clo_step RA.out OK.out k hkM (by omega)).mono ?_; rintro e w5 ⟨rfl, hr⟩; have R5 := Lib.hid hr; have O5 := Lib.hid (OK.out.next hkM); clear hr))
          go_roundw
          case rel => exact ⟨j + 1, _, _, by omega, by go_num, O5.out, R5.out⟩
          case measure => simp [intOf]; omega
        · go_wp2
          go_loopw [92] (fun i wr => ∃ (k : Nat) (zs : List Int) (A : Nat → Al), k ≤ M ∧ i = .int .i64 k ∧ RaceOk N zs0 zs M A ∧ Race w wr ⟨X, Y, w2.heap.size, w2.heap.size + 1, w3.heap.size, G + 1, g, G, gc, M, fun k => cs.getD k 0⟩ N zs M A ((laidW w2 X N).heap.size + 1) fa (freeL N zs0) ∧ ∀ i, i < k → (A i).left = 0) (fun i _ => M - (intOf i).toNat)
          case atStart => exact ⟨0, _, _, Nat.zero_le _, rfl, OK.out, RA.out, fun i hi => absurd hi (by omega)⟩
          case round =>
            clear RA OK
            obtain ⟨k, zs, A, hk, rfl, hok, hra, hdone⟩ := hrel
            have OK := Lib.hid hok
            have RA := Lib.hid hra
            have HD := Lib.hid hdone
            clear hok hra hdone
            by_cases hkM : k < M
            · go_wp2
              go_loopw [18] (fun i wr => ∃ (t : Nat) (zs : List Int) (A : Nat → Al), t ≤ 100 ∧ i = .int .i64 t ∧ RaceOk N zs0 zs M A ∧ Race w wr ⟨X, Y, w2.heap.size, w2.heap.size + 1, w3.heap.size, G + 1, g, G, gc, M, fun k => cs.getD k 0⟩ N zs M A ((laidW w2 X N).heap.size + 1) fa (freeL N zs0) ∧ (∀ i, i < k → (A i).left = 0) ∧ ((A k).left = 0 ∨ fuel (A k) + t ≤ 80)) (fun i _ => 100 - (intOf i).toNat)
              case atStart =>
                refine ⟨0, _, _, Nat.zero_le _, rfl, OK.out, RA.out, HD.out, Or.inr ?_⟩
                have h := (OK.out.each k hkM).left1
                unfold fuel
                split <;> omega
              case round =>
                clear RA OK HD
                obtain ⟨t, zs, A, ht, rfl, hok, hra, hdone, hfu⟩ := hrel
                have OK := Lib.hid hok
                have RA := Lib.hid hra
                have HD := Lib.hid hdone
                have HU := Lib.hid hfu
                clear hok hra hdone hfu
                by_cases ht1 : t < 100
                · go_wp2_with (go_at_call 18; go_loud (refine (clo_step RA.out OK.out k hkM (by omega)).mono ?_; rintro e w5 ⟨rfl, hr⟩; have R5 := Lib.hid hr; have O5 := Lib.hid (OK.out.next hkM); clear hr))
                  go_roundw
                  case rel =>
                    refine ⟨t + 1, _, _, by omega, by go_num, O5.out, R5.out, fun i hi => ?_, ?_⟩
                    · rw [upd_other A _ (by omega)]; exact HD.out i hi
                    · rw [upd_same]
                      rcases nextAl_fuel N zs (A k) (OK.out.each k hkM).left0 with h | ⟨h1, h2⟩
                      · exact Or.inl h
                      · rcases HU.out with h3 | h3
                        · exact absurd h3 h1
                        · exact Or.inr (by omega)
                  case measure => simp [intOf]; omega
                · have hkl : (A k).left = 0 := by
                    rcases HU.out with h | h
                    · exact h
                    · exfalso
                      have h0 := (OK.out.each k hkM).left0
                      unfold fuel at h
                      split at h <;> omega
                  have HKL := Lib.hid hkl
                  clear hkl
                  go_wp2
                  go_roundw
                  case rel => exact ⟨k + 1, _, _, by omega, by go_num, OK.out, RA.out, fun i hi => by
                    by_cases he : i = k
                    · rw [he]; exact HKL.out
                    · exact HD.out i (by omega)⟩
                  case measure => simp [intOf]; omega
            · obtain rfl : k = M := by omega
              have hmm := @run_makeMap Try.prog
              have S0 : Hid (Seen (wr.alloc (.map #[] 0)) wr.heap.size 0 (fun _ => false)) := Lib.hid ⟨_, World.ownsMap_made wr _ _ _, Maps.isMap_empty, fun _ => rfl⟩
              have R0 := Lib.hid (RA.out.next ((Below.refl _ wr).alloc (Nat.le_refl _) (.map #[] 0)))
              have hR : w.heap.size ≤ wr.heap.size := RA.out.below.size
              have b3 : (wr.alloc (.map #[] 0)).cell? ⟨w3.heap.size, 0, none⟩ = some (.slice (some ⟨g, 0, none⟩) k gc) := R0.out.run.at 0 rfl
              go_wp2
              clear hmm RA b3
              generalize wr.heap.size = R at *
              go_loopw [20, 106] (fun t i wr => ∃ (j c : Nat) (f : Int → Bool), j ≤ k ∧ i = .int .i64 j ∧ t = .int .i64 (takenTo A j) ∧ c ≤ j ∧ Race w wr ⟨X, Y, w2.heap.size, w2.heap.size + 1, w3.heap.size, G + 1, g, G, gc, k, fun k => cs.getD k 0⟩ N zs k A ((laidW w2 X N).heap.size + 1) fa (freeL N zs0) ∧ Seen wr R c f ∧ ∀ x, f x = true → ∃ i, i < j ∧ (A i).got = x) (fun _ i _ => k - (intOf i).toNat)
              case atStart => exact ⟨0, 0, _, Nat.zero_le _, rfl, rfl, Nat.le_refl _, R0.out, S0.out, fun x hx => by cases hx⟩
              case round =>
                clear R0 S0
                obtain ⟨j, cc, f, hj, rfl, rfl, hcc, hra, hse, hfx⟩ := hrel
                have RA := Lib.hid hra
                have SE := Lib.hid hse
                have HFX := Lib.hid hfx
                clear hra hse hfx
                have b0 : wr.cell? ⟨w2.heap.size, 0, none⟩ = some (ptr X) := RA.out.m.at 0 rfl
                have b1 : wr.cell? ⟨w2.heap.size + 1, 0, none⟩ = some (.int .i64 1) := RA.out.lay.at 0 rfl
                have b2 : wr.cell? ⟨w2.heap.size + 1, 1, none⟩ = some (.int .i64 N) := RA.out.lay.at 1 rfl
                have b3 : wr.cell? ⟨w3.heap.size, 0, none⟩ = some (.slice (some ⟨g, 0, none⟩) k gc) := RA.out.run.at 0 rfl
                have b4 : wr.cell? ⟨G + 1, 0, none⟩ = some (.slice (some ⟨G, 0, none⟩) k k) := RA.out.done.at 0 rfl
                by_cases hjk : j < k
                · obtain ⟨ck, hck⟩ : ∃ ck, ck = cs.getD j 0 := ⟨_, rfl⟩
                  obtain ⟨GT, hGT⟩ : ∃ GT, GT = (A j).got := ⟨_, rfl⟩
                  have hrd := RA.out.reads hjk
                  have hbx := RA.out.boxes j hjk
                  have b5 : wr.cell? ⟨g, j, none⟩ = some (ptr ck) := by rw [hck]; exact hrd.2.2.2.1
                  have b6 : wr.cell? ⟨G, j, none⟩ = some (.bool true) := by
                    have h := hrd.2.2.2.2.1
                    rw [HD.out j hjk] at h
                    exact h
                  have HBX : Hid (∀ wx, Race w wx ⟨X, Y, w2.heap.size, w2.heap.size + 1, w3.heap.size, G + 1, g, G, gc, k, fun k => cs.getD k 0⟩ N zs k A ((laidW w2 X N).heap.size + 1) fa (freeL N zs0) → wx.cell? ⟨ck, 2, none⟩ = some (.int .i64 GT)) := by
                    intro wx hx
                    rw [hck, hGT]
                    exact (hx.boxes j hjk).at 2 rfl
                  have b7 : wr.cell? ⟨ck, 2, none⟩ = some (.int .i64 GT) := HBX.out wr RA.out
                  have okj := OK.out.each j hjk
                  have hrng : GT = 0 ∨ (1 ≤ GT ∧ GT ≤ N) := by
                    rw [hGT]
                    rcases okj.got with h | ⟨h1, h2, _⟩
                    · exact Or.inl h
                    · exact Or.inr ⟨h1, h2⟩
                  have dn1 : decide (GT < 0) = false := by simp; omega
                  have dn2 : decide ((N : Int) < GT) = false := by simp; omega
                  have k0 : (0 : Int) ≤ (j : Int) := by omega
                  have k1 : (j : Int) < (k : Int) := by omega
                  have HGT := Lib.hid hGT
                  clear hck hrd hbx okj hGT
                  by_cases hz : GT = 0
                  · have hT : Hid (takenTo A (j + 1) = takenTo A j) := by show _ = _; rw [takenTo, ← HGT.out, if_pos hz]; rfl
                    subst hz
                    clear HBX hrng
                    go_wp2
                    refine wp_region_quiet_lit (by kernel_rfl) (by kernel_rfl) ?_
                    repeat (go_big_quiet_step (fail))
                    refine wpQuiet_nil ?_
                    intro w6 hq6
                    have hb6 : Below wr.heap.size wr w6 := by obtain ⟨nq, rfl⟩ := hq6; exact below_draws _ _ _
                    have R6 := Lib.hid (RA.out.next hb6)
                    have S6 := Lib.hid (SE.out.below hb6)
                    have e7 : w6.cell? ⟨ck, 2, none⟩ = some (.int .i64 0) := (hb6.cell (p := ⟨ck, 2, none⟩) (World.block_lt_of_cell? wr _ b7)).trans b7
                    clear hq6 hb6 b0 b1 b2 b3 b4 b5 b6 b7
                    go_wp2
                    go_roundw
                    case rel => exact ⟨j + 1, cc, f, by omega, by go_num, by rw [hT.out], by omega, R6.out, S6.out, fun x hx => by
                      obtain ⟨i, hi, he⟩ := HFX.out x hx
                      exact ⟨i, by omega, he⟩⟩
                    case measure => simp [intOf]; omega
                  · have hq : (GT == 0) = false := by simpa using hz
                    have hr1 : 1 ≤ GT ∧ GT ≤ N := by
                      rcases hrng with h | h
                      · exact absurd h hz
                      · exact h
                    obtain ⟨g0, g1⟩ := hr1
                    have hgot : ∃ i, i < k ∧ (A i).got = GT := ⟨j, hjk, HGT.out.symm⟩
                    have HT1 : Hid (takenB N zs GT = true) := Lib.hid (OK.out.odd g0 g1 hgot)
                    have HT0 : Hid (GT ∈ freeL N zs0) := by
                      show GT ∈ freeL N zs0
                      unfold freeL
                      rw [mem_freeTo]
                      exact ⟨g0, by omega, (OK.out.lives GT g0 g1 hgot).1⟩
                    have HFL : Hid ((freeL N zs0).length ≤ 1000) := by
                      show (freeL N zs0).length ≤ 1000
                      have := freeTo_length N zs0 ((N : Int)).toNat
                      unfold freeL
                      omega
                    have HNO : Hid (f GT = false) := by
                      show f GT = false
                      cases hf : f GT
                      · rfl
                      · exfalso
                        obtain ⟨i, hi, he⟩ := HFX.out GT hf
                        have := OK.out.uniq i j hi hjk (by rw [he]; exact HGT.out)
                        rw [he] at this
                        exact hz this
                    have hT : Hid (((takenTo A (j + 1) : Nat) : Int) = (takenTo A j : Int) + 1) := by
                      show _ = _
                      rw [takenTo, ← HGT.out, if_neg hz]
                      omega
                    have htl := takenTo_le A j
                    have HW0 : Hid (w.heap.size ≤ R) := hR
                    clear hrng hgot
                    go_wp2
                    refine wp_region_quiet_lit (by kernel_rfl) (by kernel_rfl) ?_
                    repeat (go_big_quiet_step (fail))
                    refine wpQuiet_nil ?_
                    intro w6 hq6
                    have hb6 : Below wr.heap.size wr w6 := by obtain ⟨nq, rfl⟩ := hq6; exact below_draws _ _ _
                    have R6 := Lib.hid (RA.out.next hb6)
                    have S6 := Lib.hid (SE.out.below hb6)
                    clear hq6 hb6 b0 b1 b2 b3 b4 b5 b6 b7 RA SE
                    have e7 : w6.cell? ⟨ck, 2, none⟩ = some (.int .i64 GT) := HBX.out w6 R6.out
                    go_wp2
                    have R7 := Lib.hid R6.out.drew
                    have S7 : Hid (Seen w6.drew R cc f) := Lib.hid (S6.out.below (Below.refl _ w6).drew)
                    have f0 : w6.drew.cell? ⟨ck, 2, none⟩ = some (.int .i64 GT) := HBX.out _ R7.out
                    have f1 : w6.drew.cell? ⟨w2.heap.size, 0, none⟩ = some (ptr X) := R7.out.m.at 0 rfl
                    have f2 : w6.drew.cell? ⟨w2.heap.size + 1, 0, none⟩ = some (.int .i64 1) := R7.out.lay.at 0 rfl
                    have f3 : w6.drew.cell? ⟨w2.heap.size + 1, 1, none⟩ = some (.int .i64 N) := R7.out.lay.at 1 rfl
                    have f4 : (Instr.lookup 49 (.map (some R)) (.int .i64 GT) false).run Try.prog w6.drew = .ok (.bool false) w6.drew := by
                      have h := S7.out.look (a := GT) (by omega) (by omega)
                      rwa [HNO.out] at h
                    go_region_held3 (fun wx => wx.cell? ⟨ck, 2, none⟩ = some (.int .i64 GT) ∧ wx.cell? ⟨w2.heap.size, 0, none⟩ = some (ptr X) ∧ wx.cell? ⟨w2.heap.size + 1, 0, none⟩ = some (.int .i64 1) ∧ wx.cell? ⟨w2.heap.size + 1, 1, none⟩ = some (.int .i64 N) ∧ (Instr.lookup 49 (.map (some R)) (.int .i64 GT) false).run Try.prog wx = .ok (.bool false) wx) (first | go_keep | exact ⟨f0, f1, f2, f3, f4⟩ | exact ⟨h0, h1, h2, h3, h4⟩) (first
                      | (go_at_call 16; refine (contains_any _ _ fa (freeL N zs0) _ fc GT rfl HFL.out R7.out.fl).mono ?_; rintro e w7 ⟨rfl, rfl⟩; rw [decide_eq_true HT0.out])
                      | (go_at_call 20; refine (taken_in OK.out.s R7.out.mem GT g0 g1).mono ?_; rintro e w7 ⟨rfl, hb⟩; rw [HT1.out]; have R8 := Lib.hid (R7.out.next hb); have S8 := Lib.hid (S7.out.below hb); clear hb; have h0 : w7.cell? ⟨ck, 2, none⟩ = some (.int .i64 GT) := HBX.out _ R8.out; have h1 : w7.cell? ⟨w2.heap.size, 0, none⟩ = some (ptr X) := R8.out.m.at 0 rfl; have h2 : w7.cell? ⟨w2.heap.size + 1, 0, none⟩ = some (.int .i64 1) := R8.out.lay.at 0 rfl; have h3 : w7.cell? ⟨w2.heap.size + 1, 1, none⟩ = some (.int .i64 N) := R8.out.lay.at 1 rfl; have h4 : (Instr.lookup 49 (.map (some R)) (.int .i64 GT) false).run Try.prog w7 = .ok (.bool false) w7 := (by have h := S8.out.look (a := GT) (by omega) (by omega); rwa [HNO.out] at h)))
                    all_goals
                      obtain ⟨w8, hrun, hs8, hg8⟩ := S8.out.put (a := GT) (by unfold maxLen; omega) (by omega) (by omega)
                      have R9 := Lib.hid (R8.out.entry S8.out HW0.out hg8)
                      have S9 := Lib.hid hs8
                      clear hs8 hg8 f0 f1 f2 f3 f4 h1 h2 h3 h4 e7
                      go_wp2
                      go_roundw
                      case rel => exact ⟨j + 1, cc + 1, _, by omega, by go_num, by rw [hT.out], by omega, R9.out, S9.out, fun x hx => by
                        by_cases he : x = GT
                        · exact ⟨j, by omega, by rw [he]; exact HGT.out.symm⟩
                        · have hx2 : f x = true := by
                            have hxb : (x == GT) = false := by simpa using he
                            rw [hxb, Bool.false_or] at hx
                            exact hx
                          obtain ⟨i, hi, hei⟩ := HFX.out x hx2
                          exact ⟨i, by omega, hei⟩⟩
                      case measure => simp [intOf]; omega
                · obtain rfl : j = k := by omega
                  have hcount := OK.out.count
                  have hnob := OK.out.nobody (by omega) HD.out
                  have hfl : (freeL N zs0).length ≤ 40 := by
                    have := freeTo_length N zs0 ((N : Int)).toNat
                    unfold freeL
                    omega
                  have hle : takenTo A j ≤ (freeL N zs0).length := by omega
                  generalize takenTo A j = T at *
                  have b8 : (((freeL N zs).length : Int) == ((freeL N zs0).length : Int) - (T : Int)) = true := by simp; omega
                  by_cases hTM : T = j
                  · subst hTM
                    clear hcount hnob
                    go_wp2_with (go_at_call 17; go_loud (refine (free_any _ X Y 1 N zs OK.out.s RA.out.mem).mono ?_; rintro e w5 ⟨fa2, fc2, rfl, _, hb⟩; have R5 := Lib.hid (RA.out.next hb); clear hb; have c3 := R5.out.run.at 0 rfl))
                    go_returns
                    exact ⟨rfl, R5.out.below⟩
                  · have c1 : ((T : Int) == (j : Int)) = false := by simp; omega
                    have c2 : (T == j) = false := by simp; omega
                    by_cases hTF : T = (freeL N zs0).length
                    · have c4 : ((T : Int) == ((freeL N zs0).length : Int)) = true := by simp; omega
                      have c5 : (T == (freeL N zs0).length) = true := by simp; omega
                      clear hcount hnob hTM
                      have HTF := Lib.hid hTF
                      clear hTF
                      go_wp2_with (go_at_call 17; go_loud (refine (free_any _ X Y 1 N zs OK.out.s RA.out.mem).mono ?_; rintro e w5 ⟨fa2, fc2, rfl, _, hb⟩; have R5 := Lib.hid (RA.out.next hb); clear hb; have c3 : w5.cell? ⟨w3.heap.size, 0, none⟩ = some (.slice (some ⟨g, 0, none⟩) j gc) := R5.out.run.at 0 rfl))
                      go_returns
                      exact ⟨rfl, R5.out.below⟩
                    · have c4 : ((T : Int) == ((freeL N zs0).length : Int)) = false := by simp; omega
                      have c5 : (T == (freeL N zs0).length) = false := by simp; omega
                      have hT0 : 0 < T := by
                        rcases Nat.eq_zero_or_pos T with h | h
                        · exfalso
                          have := hnob h
                          omega
                        · exact h
                      have c6 : decide (0 < (T : Int)) = true := by simp; omega
                      have c7 : decide (0 < T) = true := by simp; omega
                      clear hcount hnob hTM hTF
                      go_wp2_with (go_at_call 17; go_loud (refine (free_any _ X Y 1 N zs OK.out.s RA.out.mem).mono ?_; rintro e w5 ⟨fa2, fc2, rfl, _, hb⟩; have R5 := Lib.hid (RA.out.next hb); clear hb; have c3 : w5.cell? ⟨w3.heap.size, 0, none⟩ = some (.slice (some ⟨g, 0, none⟩) j gc) := R5.out.run.at 0 rfl))
                      go_returns
                      exact ⟨rfl, R5.out.below⟩

section
variable (w : World) (a b c : Option Addr) (N F O cap capf capo : Nat)
set_option maxRecDepth 100000 in
set_option maxHeartbeats 2000000 in
theorem races_skip1 (h : 40 < (N : Int)) : Calls Try.prog 4 #[.slice a N cap, .slice b F capf, .slice c O capo] w fun e w' => e = .returned (.bool true) ∧ Below w.heap.size w w' := by
  have d1 : decide (40 < (N : Int)) = true := by simp; omega
  clear h
  go_enter Try.func4, Try.ntmps4
  go_wp2_with (go_at_call 7; refine (awake_any _).mono ?_; rintro e w1 ⟨rfl, hb⟩; have HB := Lib.hid hb; clear hb)
  go_returns
  exact ⟨rfl, HB.out⟩
set_option maxRecDepth 100000 in
set_option maxHeartbeats 2000000 in
theorem races_skip2 : Calls Try.prog 4 #[.slice a 0 cap, .slice b F capf, .slice c O capo] w fun e w' => e = .returned (.bool true) ∧ Below w.heap.size w w' := by
  go_enter Try.func4, Try.ntmps4
  go_wp2_with (go_at_call 7; refine (awake_any _).mono ?_; rintro e w1 ⟨rfl, hb⟩; have HB := Lib.hid hb; clear hb)
  go_returns
  exact ⟨rfl, HB.out⟩
set_option maxRecDepth 100000 in
set_option maxHeartbeats 2000000 in
theorem races_skip3 (h1 : (N : Int) ≤ 40) (h2 : 0 < N) (h : 8 < (F : Int)) : Calls Try.prog 4 #[.slice a N cap, .slice b F capf, .slice c O capo] w fun e w' => e = .returned (.bool true) ∧ Below w.heap.size w w' := by
  have d1 : decide (40 < (N : Int)) = false := by simp; omega
  have d2 : ((N : Int) == 0) = false := by simp; omega
  have d3 : decide (8 < (F : Int)) = true := by simp; omega
  clear h h1 h2
  go_enter Try.func4, Try.ntmps4
  go_wp2_with (go_at_call 7; refine (awake_any _).mono ?_; rintro e w1 ⟨rfl, hb⟩; have HB := Lib.hid hb; clear hb)
  go_returns
  exact ⟨rfl, HB.out⟩
set_option maxRecDepth 100000 in
set_option maxHeartbeats 2000000 in
theorem races_skip4 (h1 : (N : Int) ≤ 40) (h2 : 0 < N) : Calls Try.prog 4 #[.slice a N cap, .slice b 0 capf, .slice c O capo] w fun e w' => e = .returned (.bool true) ∧ Below w.heap.size w w' := by
  have d1 : decide (40 < (N : Int)) = false := by simp; omega
  have d2 : ((N : Int) == 0) = false := by simp; omega
  clear h1 h2
  go_enter Try.func4, Try.ntmps4
  go_wp2_with (go_at_call 7; refine (awake_any _).mono ?_; rintro e w1 ⟨rfl, hb⟩; have HB := Lib.hid hb; clear hb)
  go_returns
  exact ⟨rfl, HB.out⟩
set_option maxRecDepth 100000 in
set_option maxHeartbeats 2000000 in
theorem races_skip5 (h1 : (N : Int) ≤ 40) (h2 : 0 < N) (h3 : (F : Int) ≤ 8) (h4 : 0 < F) (h : 600 < (O : Int)) : Calls Try.prog 4 #[.slice a N cap, .slice b F capf, .slice c O capo] w fun e w' => e = .returned (.bool true) ∧ Below w.heap.size w w' := by
  have d1 : decide (40 < (N : Int)) = false := by simp; omega
  have d2 : ((N : Int) == 0) = false := by simp; omega
  have d3 : decide (8 < (F : Int)) = false := by simp; omega
  have d4 : ((F : Int) == 0) = false := by simp; omega
  have d5 : decide (600 < (O : Int)) = true := by simp; omega
  clear h h1 h2 h3 h4
  go_enter Try.func4, Try.ntmps4
  go_wp2_with (go_at_call 7; refine (awake_any _).mono ?_; rintro e w1 ⟨rfl, hb⟩; have HB := Lib.hid hb; clear hb)
  go_returns
  exact ⟨rfl, HB.out⟩
end
theorem races_any (w : World) (a b c : Option Addr) (ws fs os : List Int) (N F O cap capf capo : Nat) (hN : ws.length = N) (hF : fs.length = F) (hO : os.length = O)
    (hw : Words w a ws) (hr : ∀ x ∈ ws, 0 ≤ x ∧ x < 18446744073709551616) (hf : BytesAt w b fs) (ho : BytesAt w c os) :
    Calls Try.prog 4 #[.slice a N cap, .slice b F capf, .slice c O capo] w fun e w' => e = .returned (.bool true) ∧ Below w.heap.size w w' := by
  by_cases h1 : (N : Int) ≤ 40
  · by_cases h2 : 0 < N
    · by_cases h3 : (F : Int) ≤ 8
      · by_cases h4 : 0 < F
        · by_cases h5 : (O : Int) ≤ 600
          · exact races_main w a b c ws fs os N F O cap capf capo hN hF hO h2 h1 h4 h3 h5 hw hr hf ho
          · exact races_skip5 w a b c N F O cap capf capo h1 h2 h3 h4 (by omega)
        · obtain rfl : F = 0 := by omega
          exact races_skip4 w a b c N O cap capf capo h1 h2
      · exact races_skip3 w a b c N F O cap capf capo h1 h2 (by omega)
    · obtain rfl : N = 0 := by omega
      exact races_skip2 w a b c F O cap capf capo
  · exact races_skip1 w a b c N F O cap capf capo (by omega)
end Go.Proofs.Ytglkpajnhdamkaa.life
