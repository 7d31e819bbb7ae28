/- The law LifeAround answers true at any lives, node and number. -/
import Derived.Test.YtglkpajnhdamkaaLAwake
import Derived.Test.YtglkpajnhdamkaaLCount
import Derived.Deep.QuietTactic
import Derived.BigQuiet
namespace Go.Proofs.Ytglkpajnhdamkaa.life
open Go.RowKit mem

/-- The law's own list is made. -/
structure WantSt (W w : World) (E b X Y : Nat) (t n : Int) (zs : List Int) (v : Value) (L : List Int) : Prop where
  room : Room W w b X Y t n zs
  own : w.ownsRow E 3 1 v L.length (L.map (Value.int .i64))
  bE : b < E
  xE : X < E
  yE : Y < E
  WE : W.heap.size ≤ E
theorem owns_later {w w1 : World} {E : Nat} {v : Value} {L : List Int} (h : w.ownsRow E 3 1 v L.length (L.map (Value.int .i64))) (hb : Below w.heap.size w w1) : w1.ownsRow E 3 1 v L.length (L.map (Value.int .i64)) := by
  obtain ⟨hl, ⟨rfl, h0⟩ | ⟨g, cap, cur, rfl, hb2, hg, hn, hc, hs, ht⟩⟩ := h
  · exact ⟨hl, Or.inl ⟨rfl, h0⟩⟩
  · exact ⟨hl, Or.inr ⟨g, cap, cur, rfl, hb2, (hb.block g (Array.getElem?_eq_some_iff.1 hg).1).trans hg, hn, hc, hs, ht⟩⟩
theorem WantSt.next {W w w1 : World} {E b X Y : Nat} {t n : Int} {zs : List Int} {v : Value} {L : List Int} (h : WantSt W w E b X Y t n zs v L) (hb : Below w.heap.size w w1) : WantSt W w1 E b X Y t n zs v L :=
  ⟨h.room.next hb, owns_later h.own hb, h.bE, h.xE, h.yE, h.WE⟩
theorem WantSt.more {W w w1 : World} {E b X Y : Nat} {t n x : Int} {zs : List Int} {v v' : Value} {L : List Int} {T : TypeId} (h : WantSt W w E b X Y t n zs v L)
    (hown : w1.ownsRow E 3 1 v' (L.length + 1) (L.map (Value.int .i64) ++ [.int .i64 x]))
    (hg : (w.alloc (.cells #[.int .i64 x] T)).grownBy w1 v.ownBlock) : WantSt W w1 E b X Y t n zs v' (L ++ [x]) := by
  have hlt := h.room.lt
  have hE : ∀ c, some c = v.ownBlock → E ≤ c := by
    intro c he
    rcases h.own.2 with ⟨rfl, _⟩ | ⟨g, cap, cur, rfl, hge, _⟩
    · cases he
    · obtain rfl : c = g := Option.some.inj he
      exact hge
  have hkeep : ∀ c, c < w.heap.size → c < E → w1.heap[c]? = w.heap[c]? := fun c hc hcE => by
    rw [hg.block c (by simp; omega) (fun he => by have := hE c he; omega), Below.heap_alloc _ _ _ hc]
  have r := h.room
  have bE := h.bE
  have xE := h.xE
  have yE := h.yE
  have WE := h.WE
  refine ⟨⟨(hkeep b hlt.1 bE).trans r.lay, r.mem.moved (hkeep X hlt.2.1 xE) (hkeep Y hlt.2.2.1 yE), ?_, r.b0, r.x0, r.y0, r.bx, r.by'⟩, ?_, bE, xE, yE, WE⟩
  · refine (r.below.alloc r.below.size _).grown hg (by have := r.below.size; simp; omega) ?_
    intro k hk
    have := hE k hk.symm
    omega
  · rw [List.length_append, List.map_append]
    exact hown

/-- .. and machines take nodes, one behind the other. -/
structure Arnd (W w : World) (E b X Y : Nat) (t n : Int) (zs : List Int) (a : Option Addr) (L : List Int) : Prop where
  room : Room W w b X Y t n zs
  list : ListAt w E a L
  bE : b < E
  xE : X < E
  yE : Y < E
theorem Arnd.next {W w w1 : World} {E b X Y : Nat} {t n : Int} {zs : List Int} {a : Option Addr} {L : List Int} (h : Arnd W w E b X Y t n zs a L) (hb : Below w.heap.size w w1) : Arnd W w1 E b X Y t n zs a L :=
  ⟨h.room.next hb, h.list.below hb, h.bE, h.xE, h.yE⟩
theorem Arnd.turn {W w w1 w2 : World} {E b X Y C : Nat} {t n : Int} {zs ys : List Int} {a : Option Addr} {L : List Int} {o : Obj} {l l' : Al} (h : Arnd W w E b X Y t n zs a L) (hn : NewAl w C t n l w1) (hd : Did (w1.alloc o) X Y C t n ys l' w2) : Arnd W w2 E b X Y t n ys a L := by
  have h1 := h.room.lt
  have hc := hn.c
  have h3 := (h.next hn.below).next ((Below.refl _ w1).alloc (Nat.le_refl _) o)
  refine ⟨h3.room.did hd (by omega) (by omega), ?_, h.bE, h.xE, h.yE⟩
  have xE := h.xE
  have yE := h.yE
  rcases h.list with hl | ⟨g, hg1, hg2, hg3⟩
  · exact Or.inl hl
  · have hlt := hg3.lt
    rcases h3.list with hl | ⟨g', hg1', hg2', hg3'⟩
    · exact Or.inl hl
    · rw [hg1] at hg1'
      obtain rfl : g = g' := by injection hg1' with e; injection e
      exact Or.inr ⟨g, hg1, hg2, hg3'.moved (hd.apart.block g hg3'.lt (by omega) (by omega) (by omega))⟩
/-- Where a machine stands apart from the rest. -/
theorem Arnd.apart {W w w1 : World} {E b X Y C : Nat} {t n : Int} {zs : List Int} {a : Option Addr} {L : List Int} {l : Al} (h : Arnd W w E b X Y t n zs a L) (hn : NewAl w C t n l w1) : C ≠ X ∧ C ≠ Y := by
  have h1 := h.room.lt
  have hc := hn.c
  omega

set_option maxHeartbeats 1000000 in
theorem around_long (w : World) (from' many : Int) (a : Option Addr) (N cap : Nat) (hl : 40 < (N : Int)) :
    Calls Try.prog 6 #[.slice a N cap, .int .u8 from', .int .u8 many] w fun e w' => e = .returned (.bool true) ∧ Below w.heap.size w w' := by
  have hd : decide (40 < (N : Int)) = true := by simp; omega
  go_enter Try.func6, Try.ntmps6
  go_wp2_with (go_at_call 7; refine (awake_any _).mono ?_; rintro e w1 ⟨rfl, hb⟩; have HB := Lib.hid hb; clear hb)
  go_returns
  exact ⟨rfl, HB.out⟩
set_option maxHeartbeats 1000000 in
theorem around_none (w : World) (from' many : Int) (a : Option Addr) (cap : Nat) :
    Calls Try.prog 6 #[.slice a 0 cap, .int .u8 from', .int .u8 many] w fun e w' => e = .returned (.bool true) ∧ Below w.heap.size w w' := by
  go_enter Try.func6, Try.ntmps6
  go_wp2_with (go_at_call 7; refine (awake_any _).mono ?_; rintro e w1 ⟨rfl, hb⟩; have HB := Lib.hid hb; clear hb)
  go_returns
  exact ⟨rfl, HB.out⟩
theorem words_at {w : World} {bb : Addr} {ws : List Int} (h : Words w (some bb) ws) (i : Nat) (hi : i < ws.length) {x : Int} (hx : x = ws.getD i 0) : w.cell? (bb.add i) = some (.int .u64 x) := by
  obtain ⟨b, hb, hc⟩ := h i hi
  obtain rfl := Option.some.inj hb
  rw [hx]
  exact hc
theorem words_some {w : World} {a : Option Addr} {ws : List Int} (h : Words w a ws) (h0 : 0 < ws.length) : ∃ b, a = some b := by
  obtain ⟨b, hb, _⟩ := h 0 h0
  exact ⟨b, hb⟩
theorem mod_round {n a k : Int} (a0 : 1 ≤ a) (a1 : a ≤ n) (k0 : 0 ≤ k) (k1 : k < n) : (a - 1 + k) % n + 1 = nodeAt n a k := by
  unfold nodeAt
  split
  · rw [Int.emod_eq_of_lt (by omega) (by omega)]; omega
  · have : (a - 1 + k) % n = (a - 1 + k - n) % n := by rw [Int.sub_emod_right]
    rw [this, Int.emod_eq_of_lt (by omega) (by omega)]; omega
theorem mod_wrap {n a k : Int} (a0 : 1 ≤ a) (a1 : a ≤ n) (n1 : n ≤ 300) (k0 : 0 ≤ k) (k1 : k < n) : wrap64 ((a - 1 + k) % n + 1) = nodeAt n a k := by
  have h := mod_round a0 a1 k0 k1
  have h2 := nodeAt_in a0 a1 k0 k1
  rw [h, IntWalk.wrap64_in _ (by omega)]

set_option maxRecDepth 100000 in
set_option maxHeartbeats 4000000 in
theorem around_short (w : World) (from' many : Int) (bb : Addr) (ws : List Int) (N cap : Nat) (hN : ws.length = N) (h0 : 0 < N) (hl : (N : Int) ≤ 40) (hw : Words w (some bb) ws) (hr : ∀ x ∈ ws, 0 ≤ x ∧ x < 18446744073709551616) (f0 : 0 ≤ from') (f1 : from' < 256) (m0 : 0 ≤ many) (m1 : many < 256) :
    Calls Try.prog 6 #[.slice (some bb) N cap, .int .u8 from', .int .u8 many] w fun e w' => e = .returned (.bool true) ∧ Below w.heap.size w w' := by
  have hd1 : decide (40 < (N : Int)) = false := by simp; omega
  have hd2 : ((N : Int) == 0) = false := by simp; omega
  have hAA : 1 ≤ wrap64 (from' % (N : Int) + 1) ∧ wrap64 (from' % (N : Int) + 1) ≤ N := by
    have h1 := Int.emod_nonneg from' (show (N : Int) ≠ 0 by omega)
    have h2 := Int.emod_lt_of_pos from' (show (0 : Int) < N by omega)
    rw [IntWalk.wrap64_in _ (by omega)]
    omega
  obtain ⟨a0, a1⟩ := hAA
  have HW := Lib.hid hw
  have HN := Lib.hid hN
  have HRG := Lib.hid hr
  clear hw hN hr
  go_enter Try.func6, Try.ntmps6
  go_wp2_with (first
    | (go_at_call 7; refine (awake_any _).mono ?_; rintro e w1 ⟨rfl, hb⟩; have HB := Lib.hid hb; clear hb)
    | (go_at_call 8; refine (memory_any _ 2 N (some bb) ws N cap HN.out (by omega) (by omega) (by omega) (by omega) (by omega) (HW.out.later HB.out) HRG.out).mono ?_; rintro e w2 ⟨X, Y, zs, rfl, hnn, hs, hlv⟩; have R0 : Hid (Room w (w2.alloc (.cells (layCells 2 N) 26)) w2.heap.size X Y 2 N zs) := Lib.hid (Room.made HB.out hnn); have HS := Lib.hid hs; have HLV := Lib.hid hlv; clear hnn hs hlv))
  generalize wrap64 (from' % (N : Int) + 1) = A at *
  obtain ⟨E, hE⟩ : ∃ E, E = (w2.alloc (.cells (layCells 2 N) 26)).heap.size := ⟨_, rfl⟩
  have W0 : Hid (WantSt w (w2.alloc (.cells (layCells 2 N) 26)) E w2.heap.size X Y 2 N zs (.slice none 0 0) []) := by
    have h := R0.out.lt
    exact ⟨R0.out, World.ownsRow_nil _ _ _ _, by omega, by omega, by omega, by omega⟩
  have hE' := hE
  clear R0 hE
  go_loopw [10, 12] (fun v i wr => ∃ k : Nat, k ≤ N ∧ i = .int .i64 k ∧ E ≤ wr.heap.size ∧ WantSt w wr E w2.heap.size X Y 2 N zs v (wantTo N A zs k)) (fun _ i _ => N - (intOf i).toNat)
  case atStart => exact ⟨0, Nat.zero_le _, rfl, by simp at hE' ⊢; omega, W0.out⟩
  case round =>
    clear W0
    obtain ⟨k, hk, rfl, hEw, hst⟩ := hrel
    have HF := Lib.hid hst
    clear hst
    by_cases hlt : k < N
    · have hmod := mod_wrap (k := (k : Int)) a0 a1 (by omega) (by omega) (by omega)
      have hin := nodeAt_in (k := (k : Int)) a0 a1 (by omega) (by omega)
      obtain ⟨I, hI⟩ : ∃ I, I = nodeAt N A k := ⟨_, rfl⟩
      rw [← hI] at hmod hin
      have HI := Lib.hid hI
      clear hI
      obtain ⟨p, rfl⟩ : ∃ p : Nat, I = (p : Int) + 1 := ⟨(I - 1).toNat, by omega⟩
      obtain ⟨x, hx⟩ : ∃ x, x = ws.getD p 0 := ⟨_, rfl⟩
      have hc := words_at (HW.out.later HF.out.room.below) p (by rw [HN.out]; omega) hx
      have hpN : (p : Int) < N := by omega
      have ht : takenB N zs ((p : Int) + 1) = (x % 2 == 1) := by unfold takenB; rw [HLV.out p hpN, hx]
      have x0 : 0 ≤ x := by rw [hx]; exact (HRG.out _ (by rw [List.getD_eq_getElem?_getD, List.getElem?_eq_getElem (by rw [HN.out]; omega)]; exact List.getElem_mem _)).1
      have HT := Lib.hid ht
      clear hx ht hin
      by_cases hev : x % 2 = 0
      · have hd : (x % 2 == 0) = true := by simpa using hev
        have HE : Hid (wantTo N A zs (k + 1) = wantTo N A zs k ++ [(p : Int) + 1]) := by
          show wantTo N A zs (k + 1) = _
          rw [wantTo, ← HI.out, HT.out, if_neg (by simp; omega)]
        clear hev
        obtain ⟨i0, hi, hz0, hz1, hz2⟩ := info_parts Tryinfo_int
        have hlen := wantTo_length N A zs k
        have hml : (wantTo N A zs k).length + 1 ≤ maxLen := by unfold maxLen; omega
        go_wp2_with (at_builtin; go_loud (refine wpList_append_own _ rfl (.tmp 60) (.tmp 62) 42 rfl E 3 i0 (.int .i64 0) 1 8 Try.underlying42 hi hz0 hz1 hz2 rfl (by decide) _ (wantTo N A zs k).length ((wantTo N A zs k).map (Value.int .i64)) rfl (HF.out.own.alloc (.cells #[.int .i64 ((p : Int) + 1)] 3)) ⟨wr.heap.size, 0, none⟩ 1 1 [.int .i64 ((p : Int) + 1)] rfl rfl (cell_one _ _ _ rfl) (one_cell _ rfl) hml (by omega) (by simp; omega) ?_; intro v' w3 hown' hgrow hiff; have hE3 : E ≤ w3.heap.size := (by have := hgrow.size; simp at this; omega); have F3 := Lib.hid (HF.out.more hown' hgrow); clear hown' hgrow hiff))
        go_roundw
        case rel => exact ⟨k + 1, by omega, by go_num, hE3, by rw [HE.out]; exact F3.out⟩
        case measure => simp [intOf]; omega
      · have hd : (x % 2 == 0) = false := by simpa using hev
        have HE : Hid (wantTo N A zs (k + 1) = wantTo N A zs k) := by
          show wantTo N A zs (k + 1) = _
          rw [wantTo, ← HI.out, HT.out, if_pos (by simp; omega), List.append_nil]
        clear hev
        go_wp2
        go_roundw
        case rel => exact ⟨k + 1, by omega, by go_num, hEw, by rw [HE.out]; exact HF.out⟩
        case measure => simp [intOf]; omega
    · obtain rfl : k = N := by omega
      obtain ⟨wa, wc, rfl, hla⟩ := list_of_owns HF.out.own
      have A0 : Hid (Arnd w wr E w2.heap.size X Y 2 k zs wa (wantTo k A zs k)) := Lib.hid ⟨HF.out.room, hla, HF.out.bE, HF.out.xE, HF.out.yE⟩
      have hlen := wantTo_length k A zs k
      have HLE : Hid (wantTo k A zs k = wantTo k A zs k) := rfl
      clear hla HF HLE
      generalize hL : wantTo k A zs k = L at *
      have HL := Lib.hid hL
      clear hL
      go_wp2
      go_loopw [14] (fun i wr => ∃ (j : Nat) (ys : List Int), (j : Int) ≤ many % 60 ∧ i = .int .i64 j ∧ Sound 2 k ys ∧ Turned k A zs ys j ∧ Arnd w wr E w2.heap.size X Y 2 k ys wa L) (fun i _ => (many % 60).toNat - (intOf i).toNat)
      case atStart => exact ⟨0, zs, by omega, rfl, HS.out, turned_start k A zs, A0.out⟩
      case round =>
        clear A0
        obtain ⟨j, ys, hj, rfl, hsj, htj, har⟩ := hrel
        have HSJ := Lib.hid hsj
        have HTJ := Lib.hid htj
        have HAR := Lib.hid har
        clear hsj htj har
        have q0 : wr.cell? ⟨w2.heap.size, 0, none⟩ = some (.int .i64 2) := HAR.out.room.lay.at 0 rfl
        have q1 : wr.cell? ⟨w2.heap.size, 1, none⟩ = some (.int .i64 k) := HAR.out.room.lay.at 1 rfl
        by_cases hjm : (j : Int) < many % 60
        · by_cases hjl : j < L.length
          · have d1 : decide ((j : Int) < (L.length : Int)) = true := by simp; omega
            have d2 : decide (L.length ≤ j) = false := by simp; omega
            obtain ⟨q, hq, hodd, hfree, hget, hturn⟩ := turned_next HSJ.out a0 a1 HTJ.out (by rw [HL.out]; exact hjl)
            rw [HL.out] at hget
            have hin := nodeAt_in (n := k) (a := A) (k := q) a0 a1 (by omega) (by omega)
            have hup := up_range HSJ.out hfree
            obtain ⟨I, hI⟩ : ∃ I, I = nodeAt k A q := ⟨_, rfl⟩
            rw [← hI] at hfree hget hturn hin hup
            obtain ⟨i0, i1⟩ := hin
            have HS2 : Hid (Sound 2 k (putLife k ys I (lifeIn k ys I + 1))) := Lib.hid (HSJ.out.put _ _ hup.1 hup.2)
            have HI := Lib.hid hI
            have HO := Lib.hid hodd
            have HF := Lib.hid hfree
            have HG := Lib.hid hget
            have HT2 := Lib.hid hturn
            clear hI hodd hfree hget hturn hup
            obtain ⟨g, rfl, hc⟩ := HAR.out.list.cell hjl
            clear hc
            go_wp2_with (first
              | (go_at_call 12; refine (new_in _ 2 k A (by omega) (by omega) (by omega) (by omega) a0 a1).mono ?_; rintro e w5 ⟨C, rfl, ha⟩; have HC := Lib.hid (HAR.out.apart ha); have HN5 := Lib.hid ha; have A5 := Lib.hid (HAR.out.next ha.below); clear ha)
              | (go_at_call 13; refine (run_hit' (lf := 0) HSJ.out a0 a1 HC.out.1 HC.out.2 q (by omega) HO.out I ((q : Int) + 2) (lifeIn k ys I + 1) HI.out rfl rfl HF.out (A5.out.room.alloc _).mem (HN5.out.box.alloc _) (by simp) (by omega) (by omega)).mono ?_; rintro e w6 ⟨rfl, lf, hd⟩; have A6 := Lib.hid (HAR.out.turn HN5.out hd); obtain ⟨e0, e1, e2, e3, e4, e5, e6, f2⟩ := row7 hd.box; clear hd))
            obtain ⟨g2, hg2, hc⟩ := A6.out.list.cell hjl
            obtain rfl : g = g2 := by injection hg2 with e; injection e
            rw [HG.out] at hc
            clear hg2
            refine wp_region_quiet_lit (by kernel_rfl) (by kernel_rfl) ?_
            repeat (go_big_quiet_step (fail))
            refine wpQuiet_nil ?_
            rintro _ ⟨nq, rfl⟩
            go_wp2
            go_roundw
            case rel => exact ⟨j + 1, _, by omega, by go_num, HS2.out, HT2.out, A6.out.next (below_draws _ _ _)⟩
            case measure => simp [intOf]; omega
          · have d1 : decide ((j : Int) < (L.length : Int)) = false := by simp; omega
            have d2 : decide (L.length ≤ j) = true := by simp; omega
            have d3 : decide (j < L.length) = false := by simp; omega
            obtain ⟨hodd, hturn⟩ := turned_none HTJ.out (by rw [HL.out]; omega)
            have HO : Hid (∀ p : Nat, (p : Int) < k → takenB k ys (nodeAt k A p) = true) := Lib.hid (fun p hp => hodd p (by omega))
            have HT2 := Lib.hid hturn
            clear hodd hturn
            go_wp2_with (first
              | (go_at_call 12; refine (new_in _ 2 k A (by omega) (by omega) (by omega) (by omega) a0 a1).mono ?_; rintro e w5 ⟨C, rfl, ha⟩; have HC := Lib.hid (HAR.out.apart ha); have HN5 := Lib.hid ha; have A5 := Lib.hid (HAR.out.next ha.below); clear ha)
              | (go_at_call 13; refine (run_none (lf := 0) HSJ.out a0 a1 HC.out.1 HC.out.2 HO.out (A5.out.room.alloc _).mem (HN5.out.box.alloc _) (by simp) (by omega) (by omega)).mono ?_; rintro e w6 ⟨rfl, nd, lf, hd⟩; have A6 := Lib.hid (HAR.out.turn HN5.out hd); obtain ⟨e0, e1, e2, e3, e4, e5, e6, f2⟩ := row7 hd.box; clear hd))
            refine wp_region_quiet_lit (by kernel_rfl) (by kernel_rfl) ?_
            repeat (go_big_quiet_step (fail))
            refine wpQuiet_nil ?_
            rintro _ ⟨nq, rfl⟩
            go_wp2
            go_roundw
            case rel => exact ⟨j + 1, _, by omega, by go_num, HSJ.out, HT2.out, A6.out.next (below_draws _ _ _)⟩
            case measure => simp [intOf]; omega
        · have hfin := turned_end a0 a1 HTJ.out
          rw [HL.out] at hfin
          have HFIN : Hid (((freeL k ys).length : Int) = max ((L.length : Int) - many % 60) 0) := by show _ = _; omega
          clear hfin
          go_wp2_with (go_at_call 17; refine (free_any _ X Y 2 k ys HSJ.out HAR.out.room.mem).mono ?_; rintro e w5 ⟨fa, fc, rfl, hla, hb⟩; have A5 := Lib.hid (HAR.out.next hb); clear hb hla)
          all_goals
            go_returns
            exact ⟨ret_bool (by rw [HFIN.out]; first | (simp; done) | (simp; omega)), A5.out.room.below⟩

theorem around_any (w : World) (from' many : Int) (a : Option Addr) (ws : List Int) (N cap : Nat) (hN : ws.length = N) (hw : Words w a ws) (hr : ∀ x ∈ ws, 0 ≤ x ∧ x < 18446744073709551616) (f0 : 0 ≤ from') (f1 : from' < 256) (m0 : 0 ≤ many) (m1 : many < 256) :
    Calls Try.prog 6 #[.slice a N cap, .int .u8 from', .int .u8 many] w fun e w' => e = .returned (.bool true) ∧ Below w.heap.size w w' := by
  by_cases hl : (N : Int) ≤ 40
  · by_cases h0 : 0 < N
    · obtain ⟨b, rfl⟩ := words_some hw (by omega)
      exact around_short w from' many b ws N cap hN h0 hl hw hr f0 f1 m0 m1
    · obtain rfl : N = 0 := by omega
      exact around_none w from' many a cap
  · exact around_long w from' many a N cap (by omega)
end Go.Proofs.Ytglkpajnhdamkaa.life
