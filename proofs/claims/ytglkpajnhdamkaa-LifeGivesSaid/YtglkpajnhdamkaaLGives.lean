/- The law LifeGives answers true at any number and list. -/
import Derived.Test.YtglkpajnhdamkaaLGiveP
import Derived.Test.YtglkpajnhdamkaaLAwake
import Derived.Deep.RegionHeld3
namespace Go.Proofs.Ytglkpajnhdamkaa.life
open Go.RowKit mem

/-- What the law's walk carries. -/
structure Giv (W w : World) (b X Y r : Nat) (n : Int) (zs : List Int) (c : Nat) (f : Int → Bool) : Prop where
  room : Room W w b X Y 2 n zs
  map : Seen w r c f
  r0 : W.heap.size ≤ r
  rb : r ≠ b
  rX : r ≠ X
  rY : r ≠ Y
section
variable {W w w1 w2 : World} {b X Y r C : Nat} {n : Int} {zs ys : List Int} {c c' : Nat} {f f' : Int → Bool}
theorem Giv.next (h : Giv W w b X Y r n zs c f) (hb : Below w.heap.size w w1) : Giv W w1 b X Y r n zs c f := ⟨h.room.next hb, h.map.below hb, h.r0, h.rb, h.rX, h.rY⟩
theorem Giv.alloc (h : Giv W w b X Y r n zs c f) (o : Obj) : Giv W (w.alloc o) b X Y r n zs c f := h.next ((Below.refl _ _).alloc (Nat.le_refl _) o)
theorem Giv.drew (h : Giv W w b X Y r n zs c f) : Giv W w.drew b X Y r n zs c f := h.next ((Below.refl _ _).drew)
theorem Giv.lt (h : Giv W w b X Y r n zs c f) : b < w.heap.size ∧ X < w.heap.size ∧ Y < w.heap.size ∧ W.heap.size ≤ w.heap.size ∧ r < w.heap.size := ⟨h.room.lt.1, h.room.lt.2.1, h.room.lt.2.2.1, h.room.lt.2.2.2, h.map.lt⟩
theorem Giv.entry (h : Giv W w b X Y r n zs c f) (hm : Seen w1 r c' f') (hg : w.grownBy w1 (some r)) : Giv W w1 b X Y r n zs c' f' := by
  have hl := h.lt
  have k : ∀ d, d < w.heap.size → d ≠ r → w1.heap[d]? = w.heap[d]? := fun d hd hr => hg.block d hd (fun e => hr (Option.some.inj e))
  exact ⟨⟨(k b hl.1 (Ne.symm h.rb)).trans h.room.lay, h.room.mem.moved (k X hl.2.1 (Ne.symm h.rX)) (k Y hl.2.2.1 (Ne.symm h.rY)), h.room.below.grown hg h.room.below.size (fun k hk => by obtain rfl := Option.some.inj hk; exact h.r0), h.room.b0, h.room.x0, h.room.y0, h.room.bx, h.room.by'⟩, hm, h.r0, h.rb, h.rX, h.rY⟩
theorem Giv.moved (h : Giv W w b X Y r n zs c f) (hm : MemS w1 X Y 2 n ys) (ha : Apart3 X Y C w w1) (hc : W.heap.size ≤ C) (cb : C ≠ b) (cr : C ≠ r) : Giv W w1 b X Y r n ys c f :=
  ⟨⟨ha.box h.room.lay h.room.bx h.room.by' (Ne.symm cb), hm, ha.below h.room.below h.room.below.size h.room.x0 h.room.y0 hc, h.room.b0, h.room.x0, h.room.y0, h.room.bx, h.room.by'⟩, h.map.moved (ha.block r h.lt.2.2.2.2 h.rX h.rY (Ne.symm cr)), h.r0, h.rb, h.rX, h.rY⟩
end
/-- .. and the law's own list is made. -/
structure GivL (W w : World) (E b X Y r : Nat) (n : Int) (zs : List Int) (c : Nat) (f : Int → Bool) (v : Value) (L : List Int) : Prop where
  giv : Giv W w b X Y r n zs c f
  own : w.ownsRow E 3 1 v L.length (L.map (Value.int .i64))
  bE : b < E
  xE : X < E
  yE : Y < E
  rE : r < E
  WE : W.heap.size ≤ E
  nil : L = [] → v = .slice none 0 0
theorem GivL.more {W w w1 : World} {E b X Y r : Nat} {n x : Int} {zs : List Int} {c : Nat} {f : Int → Bool} {v v' : Value} {L : List Int} {T : TypeId} (h : GivL W w E b X Y r n zs c f v L)
    (hown : w1.ownsRow E 3 1 v' (L.length + 1) (L.map (Value.int .i64) ++ [.int .i64 x]))
    (hg : (w.alloc (.cells #[.int .i64 x] T)).grownBy w1 v.ownBlock) : GivL W w1 E b X Y r n zs c f v' (L ++ [x]) := by
  have hlt := h.giv.lt
  have hE : ∀ d, some d = v.ownBlock → E ≤ d := by
    intro d he
    rcases h.own.2 with ⟨rfl, _⟩ | ⟨g, cap, cur, rfl, hge, _⟩
    · cases he
    · obtain rfl : d = g := Option.some.inj he
      exact hge
  have hkeep : ∀ d, d < w.heap.size → d < E → w1.heap[d]? = w.heap[d]? := fun d hd hdE => by
    rw [hg.block d (by simp; omega) (fun he => by have := hE d he; omega), Below.heap_alloc _ _ _ hd]
  have q := h.giv
  have bE := h.bE
  have xE := h.xE
  have yE := h.yE
  have rE := h.rE
  have WE := h.WE
  refine ⟨⟨⟨(hkeep b hlt.1 bE).trans q.room.lay, q.room.mem.moved (hkeep X hlt.2.1 xE) (hkeep Y hlt.2.2.1 yE), ?_, q.room.b0, q.room.x0, q.room.y0, q.room.bx, q.room.by'⟩, q.map.moved (hkeep r hlt.2.2.2.2 rE), q.r0, q.rb, q.rX, q.rY⟩, ?_, bE, xE, yE, rE, WE, fun h => absurd h (by simp)⟩
  · refine (q.room.below.alloc q.room.below.size _).grown hg (by have := q.room.below.size; simp; omega) ?_
    intro k hk
    have := hE k hk.symm
    omega
  · rw [List.length_append, List.map_append]
    exact hown
/-- A new map, behind a new memory. -/
theorem Giv.made {W w : World} {b X Y : Nat} {n : Int} {zs : List Int} {g : Nat} (h : Room W w b X Y 2 n zs) (hg : w.heap.size = g) : Giv W (w.alloc (.map #[] 0)) b X Y g n zs 0 (fun _ => false) := by
  subst hg
  have hl := h.lt
  exact ⟨h.alloc _, ⟨_, World.ownsMap_made w _ _ _, Maps.isMap_empty, fun _ => rfl⟩, by omega, by omega, by omega, by omega⟩
theorem IntRow.one (w : World) (x : Int) {g : Nat} (hg : w.heap.size = g) : IntRow (w.alloc (.cells #[.int .i64 x] 3)) g [x] := by
  subst hg
  refine ⟨#[], ?_⟩
  show (w.heap.push _)[w.heap.size]? = _
  simp [intCells]

set_option maxRecDepth 100000 in
set_option maxHeartbeats 1000000 in
theorem gives_long (w : World) (many : Int) (a : Option Addr) (N cap : Nat) (hl : 60 < (N : Int)) :
    Calls Try.prog 5 #[.int .u8 many, .slice a N cap] w fun e w' => e = .returned (.bool true) ∧ Below w.heap.size w w' := by
  go_enter Try.func5, Try.ntmps5
  go_wp2_with (go_at_call 7; refine (awake_any _).mono ?_; rintro e w1 ⟨rfl, hb⟩; have HB := Lib.hid hb; clear hb)
  go_returns
  exact ⟨rfl, HB.out⟩

set_option maxRecDepth 100000 in
set_option maxHeartbeats 4000000 in
theorem gives_short (w : World) (many : Int) (a : Option Addr) (xs : List Int) (N cap : Nat) (hN : xs.length = N) (hl : (N : Int) ≤ 60) (hx : BytesAt w a xs) (m0 : 0 ≤ many) (m1 : many < 256) :
    Calls Try.prog 5 #[.int .u8 many, .slice a N cap] w fun e w' => e = .returned (.bool true) ∧ Below w.heap.size w w' := by
  have n0 : 1 ≤ 1 + many % 40 := by omega
  have n1 : 1 + many % 40 ≤ 40 := by omega
  have HX := Lib.hid hx
  have HN := Lib.hid hN
  clear hx hN
  go_enter Try.func5, Try.ntmps5
  go_wp2_with (go_at_call 7; refine (awake_any _).mono ?_; rintro e w1 ⟨rfl, hb⟩; have HB := Lib.hid hb; clear hb)
  generalize 1 + many % 40 = n at *
  refine (memory_any _ 2 n none [] 0 0 rfl (by omega) (by omega) (by omega) n0 (by omega) (Words.none _) (by simp)).mono ?_
  rintro e w2 ⟨X, Y, zs0, rfl, hnn, hs, hlv⟩
  have R0 : Hid (Room w (w2.alloc (.cells (layCells 2 n) 26)) w2.heap.size X Y 2 n zs0) := Lib.hid (Room.made HB.out hnn)
  have HS := Lib.hid hs
  have HL0 : Hid (∀ i : Int, 1 ≤ i → i ≤ n → takenB n zs0 i = false) := Lib.hid (fun i i0 i1 => by rw [taken_of hlv i i0 i1]; simp)
  have G0 : Hid (Giv w ((w2.alloc (.cells (layCells 2 n) 26)).alloc (.map #[] 0)) w2.heap.size X Y (w2.heap.size + 1) n zs0 0 (fun _ => false)) := Lib.hid (Giv.made R0.out (by simp))
  clear hnn hs hlv R0
  have hmm := @run_makeMap Try.prog
  go_wp2
  clear hmm
  go_loopw [39] (fun i wr => ∃ (j c : Nat) (zs : List Int) (f : Int → Bool), j ≤ N ∧ i = .int .i64 j ∧ c ≤ j ∧ Sound 2 n zs ∧ (∀ i : Int, 1 ≤ i → i ≤ n → takenB n zs i = f i) ∧ Giv w wr w2.heap.size X Y (w2.heap.size + 1) n zs c f) (fun i _ => N - (intOf i).toNat)
  case atStart => exact ⟨0, 0, zs0, _, Nat.zero_le _, rfl, Nat.le_refl _, HS.out, HL0.out, G0.out⟩
  case round =>
    clear G0 HS HL0
    obtain ⟨j, c, zs, f, hj, rfl, hcj, hs, hag, hgv⟩ := hrel
    have HS := Lib.hid hs
    have HA := Lib.hid hag
    have HG := Lib.hid hgv
    clear hs hag hgv
    have q0 : wr.cell? ⟨w2.heap.size, 0, none⟩ = some (.int .i64 2) := HG.out.room.lay.at 0 rfl
    have q1 : wr.cell? ⟨w2.heap.size, 1, none⟩ = some (.int .i64 n) := HG.out.room.lay.at 1 rfl
    by_cases hlt : j < N
    · obtain ⟨x0, x1, b, rfl, hc⟩ := (HX.out.later HG.out.room.below) j (by rw [HN.out]; exact hlt)
      generalize xs.getD j 0 = x at *
      have hmod : 1 ≤ wrap64 (1 + x % n) ∧ wrap64 (1 + x % n) ≤ n := by
        have h1 := Int.emod_nonneg x (show n ≠ 0 by omega)
        have h2 := Int.emod_lt_of_pos x (show 0 < n by omega)
        rw [IntWalk.wrap64_in _ (by omega)]
        omega
      obtain ⟨I, hI⟩ : ∃ I, wrap64 (1 + x % n) = I := ⟨_, rfl⟩
      rw [hI] at hmod
      obtain ⟨i0, i1⟩ := hmod
      obtain ⟨z, hz⟩ : ∃ z, z = lifeIn n zs I := ⟨_, rfl⟩
      have HZ := Lib.hid hz
      clear hz
      cases hf : f I
      · have HF := Lib.hid hf
        have ht : takenB n zs I = false := by rw [HA.out I i0 i1]; exact hf
        have HT := Lib.hid ht
        have hup := up_range HS.out ht
        have hwr := up_of_free HS.out ht
        rw [← HZ.out] at hup hwr
        have HS2 : Hid (Sound 2 n (putLife n zs I (z + 1))) := Lib.hid (HS.out.put _ _ hup.1 hup.2)
        have HP : Hid (wordAt (putLife n zs I (z + 1)) (n + 4 + I) = IntKind.u64.wrap (z + 1)) := by show _ = _; rw [hwr]; exact lifeIn_put_same HS.out i0 i1
        have HT2 : Hid (takenB n (putLife n zs I (z + 1)) I = true) := by show _ = _; rw [HZ.out]; exact taken_put_same HS.out i0 i1 ht
        have HA2 : Hid (∀ i : Int, 1 ≤ i → i ≤ n → takenB n (putLife n zs I (z + 1)) i = (i == I || f i)) := by
          intro i a0 a1
          by_cases he : i = I
          · rw [he, HT2.out]; simp
          · rw [taken_put_other (Ne.symm he), HA.out i a0 a1, show (i == I) = false by simpa using he, Bool.false_or]
        have hHA : (I == I || f I) = true := by simp
        clear hf ht hup hwr hHA
        go_wp2_with (first
          | (go_at_call 11; refine (Life_any _ 2 n I (by omega) (by omega) (by omega) (by omega)).mono ?_; rintro e w5 ⟨rfl, hb⟩; have G1 := Lib.hid (HG.out.next hb); clear hb; have d0 : w5.cell? ⟨w2.heap.size, 0, none⟩ = some (.int .i64 2) := G1.out.room.lay.at 0 rfl; have d1 : w5.cell? ⟨w2.heap.size, 1, none⟩ = some (.int .i64 n) := G1.out.room.lay.at 1 rfl; have hlook := G1.out.map.look (a := I) (by omega) (by omega); rw [HF.out] at hlook)
          | (go_at_call 10; refine (Peek_s G1.out.room.mem (n + 4 + I) z HZ.out.symm).mono ?_; rintro e w6 ⟨rfl, rfl⟩)
          | (go_at_call 12; refine (new_in _ 2 n I (by omega) (by omega) n0 (by omega) i0 i1).mono ?_; rintro e w6 ⟨C, rfl, hng⟩; have HNG := Lib.hid hng; have G2 := Lib.hid (G1.out.next hng.below); have HC : Hid (C ≠ X ∧ C ≠ Y ∧ C ≠ w2.heap.size ∧ C ≠ w2.heap.size + 1 ∧ w.heap.size ≤ C) := Lib.hid (by have h1 := G1.out.lt; have h2 := hng.c; omega); clear hng)
          | (go_at_call 13; go_loud (refine (run_hit' (lf := 0) HS.out i0 i1 HC.out.1 HC.out.2.1 0 (by omega) (by intro j hj; omega) I 2 (z + 1) (nodeAt_zero i1).symm (by omega) (by rw [← HZ.out]) HT.out (G2.out.alloc _).room.mem (HNG.out.box.alloc _) (by simp) (by omega) (by omega)).mono ?_; rintro e w7 ⟨rfl, lf, hd⟩; have G3 : Hid (Giv w w7 w2.heap.size X Y (w2.heap.size + 1) n (putLife n zs I (z + 1)) c f) := Lib.hid ((G2.out.alloc _).moved hd.mem hd.apart HC.out.2.2.2.2 HC.out.2.2.1 HC.out.2.2.2.1); obtain ⟨e0, e1, e2, e3, e4, e5, e6, f2⟩ := row7 hd.box; clear hd; obtain ⟨w8, hrun, hs8, hg8⟩ := G3.out.map.put (by unfold maxLen; omega) (a := I) (by omega) (by omega); have G4 := Lib.hid (G3.out.entry hs8 hg8); clear hs8 hg8)))
        clear hrun hlook e0 e1 e2 e3 e4 e5 e6 f2
        have hl8 : (Instr.lookup 49 (.map (some (w2.heap.size + 1))) (.int .i64 I) false).run Try.prog w8.drew = .ok (.bool true) w8.drew := by have h := G4.out.drew.map.look (a := I) (by omega) (by omega); rwa [show (I == I || f I) = true by simp] at h
        have d8 : w8.drew.cell? ⟨w2.heap.size, 0, none⟩ = some (.int .i64 2) := G4.out.drew.room.lay.at 0 rfl
        have d9 : w8.drew.cell? ⟨w2.heap.size, 1, none⟩ = some (.int .i64 n) := G4.out.drew.room.lay.at 1 rfl
        go_region_held3 (fun wx => wx.cell? ⟨w2.heap.size, 0, none⟩ = some (.int .i64 2) ∧ wx.cell? ⟨w2.heap.size, 1, none⟩ = some (.int .i64 n) ∧ (Instr.lookup 49 (.map (some (w2.heap.size + 1))) (.int .i64 I) false).run Try.prog wx = .ok (.bool true) wx) (first | go_keep | exact ⟨d8, d9, hl8⟩ | exact ⟨d10, d11, hl9⟩ | exact ⟨d12, d13, hl10⟩) (first
          | (go_at_call 11; refine (Life_any _ 2 n I (by omega) (by omega) (by omega) (by omega)).mono ?_; rintro e w9 ⟨rfl, hb⟩; have G5 := Lib.hid (G4.out.drew.next hb); clear hb; have d10 : w9.cell? ⟨w2.heap.size, 0, none⟩ = some (.int .i64 2) := G5.out.room.lay.at 0 rfl; have d11 : w9.cell? ⟨w2.heap.size, 1, none⟩ = some (.int .i64 n) := G5.out.room.lay.at 1 rfl; have hl9 : (Instr.lookup 49 (.map (some (w2.heap.size + 1))) (.int .i64 I) false).run Try.prog w9 = .ok (.bool true) w9 := (by have h := G5.out.map.look (a := I) (by omega) (by omega); rwa [show (I == I || f I) = true by simp] at h))
          | (go_at_call 10; refine (Peek_s G5.out.room.mem (n + 4 + I) (IntKind.u64.wrap (z + 1)) HP.out).mono ?_; rintro e w10 ⟨rfl, rfl⟩)
          | (go_at_call 20; refine (taken_in HS2.out G5.out.room.mem I i0 i1).mono ?_; rintro e w11 ⟨rfl, hb⟩; rw [HT2.out]; have G6 := Lib.hid (G5.out.next hb); clear hb; have d12 : w11.cell? ⟨w2.heap.size, 0, none⟩ = some (.int .i64 2) := G6.out.room.lay.at 0 rfl; have d13 : w11.cell? ⟨w2.heap.size, 1, none⟩ = some (.int .i64 n) := G6.out.room.lay.at 1 rfl; have hl10 : (Instr.lookup 49 (.map (some (w2.heap.size + 1))) (.int .i64 I) false).run Try.prog w11 = .ok (.bool true) w11 := (by have h := G6.out.map.look (a := I) (by omega) (by omega); rwa [show (I == I || f I) = true by simp] at h)))
        all_goals
          go_wp2
          go_roundw
          case rel => exact ⟨j + 1, c + 1, _, _, by omega, by go_num, by omega, HS2.out, HA2.out, G6.out⟩
          case measure => simp [intOf]; omega
      · have HF := Lib.hid hf
        have ht : takenB n zs I = true := by rw [HA.out I i0 i1]; exact hf
        have HT := Lib.hid ht
        have HS2 : Hid (Sound 2 n (putLife n zs I (IntKind.u64.wrap (lifeIn n zs I + 1)))) := Lib.hid (HS.out.put _ _ (wrap_word _).1 (wrap_word _).2)
        have HP : Hid (wordAt (putLife n zs I (IntKind.u64.wrap (lifeIn n zs I + 1))) (n + 4 + I) = IntKind.u64.wrap (z + 1)) := by show _ = _; rw [HZ.out]; exact lifeIn_put_same HS.out i0 i1
        have HT2 : Hid (takenB n (putLife n zs I (IntKind.u64.wrap (lifeIn n zs I + 1))) I = false) := by show _ = _; rw [taken_up_same HS.out i0 i1, ht]; rfl
        have HA2 : Hid (∀ i : Int, 1 ≤ i → i ≤ n → takenB n (putLife n zs I (IntKind.u64.wrap (lifeIn n zs I + 1))) i = (if i = I then false else f i)) := by
          intro i a0 a1
          by_cases he : i = I
          · rw [he, HT2.out, if_pos rfl]
          · rw [taken_put_other (Ne.symm he), HA.out i a0 a1, if_neg he]
        clear hf ht
        go_wp2_with (first
          | (go_at_call 11; refine (Life_any _ 2 n I (by omega) (by omega) (by omega) (by omega)).mono ?_; rintro e w5 ⟨rfl, hb⟩; have G1 := Lib.hid (HG.out.next hb); clear hb; have d0 : w5.cell? ⟨w2.heap.size, 0, none⟩ = some (.int .i64 2) := G1.out.room.lay.at 0 rfl; have d1 : w5.cell? ⟨w2.heap.size, 1, none⟩ = some (.int .i64 n) := G1.out.room.lay.at 1 rfl; have hlook := G1.out.map.look (a := I) (by omega) (by omega); rw [HF.out] at hlook)
          | (go_at_call 10; refine (Peek_s G1.out.room.mem (n + 4 + I) z HZ.out.symm).mono ?_; rintro e w6 ⟨rfl, rfl⟩)
          | (go_at_call 21; refine (back_some _ 2 n _ 1 1 [I] rfl (by omega) (by omega) (IntRow.one _ I rfl)).mono ?_; rintro e w6 ⟨C, g, c2, rfl, hng, hrow, hg0, hgc, hc0, hc1⟩; have HNG := Lib.hid hng; have HRW := Lib.hid hrow; have G2 := Lib.hid ((G1.out.alloc _).next hng.below); have HC : Hid (C ≠ X ∧ C ≠ Y ∧ C ≠ w2.heap.size ∧ C ≠ w2.heap.size + 1 ∧ w.heap.size ≤ C ∧ g ≠ X ∧ g ≠ Y ∧ g ≠ C) := Lib.hid (by have h1 := (G1.out.alloc (.cells #[.int .i64 I] 3)).lt; have h2 := hng.c; omega); have HCC := Lib.hid (And.intro hc0 hc1); clear hng hrow hg0 hgc hc0 hc1)
          | (go_at_call 13; go_loud (refine (give_run HS.out [I] (by intro y hy; obtain rfl := List.mem_singleton.1 hy; exact ⟨i0, i1⟩) (by simp) (by simp) HC.out.1 HC.out.2.1 g HC.out.2.2.2.2.2.1 HC.out.2.2.2.2.2.2.1 HC.out.2.2.2.2.2.2.2 c2 HCC.out.1 HCC.out.2 (G2.out.alloc _).room.mem (HNG.out.box.alloc _) (HRW.out.below ((Below.refl _ _).alloc (Nat.le_refl _) _)) 5 _ (by simp) (by simp) (by omega)).mono ?_; rintro e w7 ⟨rfl, gv, hd⟩; have G3 : Hid (Giv w w7 w2.heap.size X Y (w2.heap.size + 1) n (putLife n zs I (IntKind.u64.wrap (lifeIn n zs I + 1))) c f) := Lib.hid ((G2.out.alloc _).moved hd.mem hd.apart HC.out.2.2.2.2.1 HC.out.2.2.1 HC.out.2.2.2.1); clear hd; obtain ⟨w8, hrun, hs8, hg8⟩ := Seen.del G3.out.map (a := I) (by omega) (by omega) 0; have G4 := Lib.hid (G3.out.entry hs8 hg8); clear hs8 hg8)))
        clear hrun hlook
        have hl8 : (Instr.lookup 49 (.map (some (w2.heap.size + 1))) (.int .i64 I) false).run Try.prog w8.drew = .ok (.bool false) w8.drew := by have h := G4.out.drew.map.look (a := I) (by omega) (by omega); rwa [if_pos rfl] at h
        have d8 : w8.drew.cell? ⟨w2.heap.size, 0, none⟩ = some (.int .i64 2) := G4.out.drew.room.lay.at 0 rfl
        have d9 : w8.drew.cell? ⟨w2.heap.size, 1, none⟩ = some (.int .i64 n) := G4.out.drew.room.lay.at 1 rfl
        go_region_held3 (fun wx => wx.cell? ⟨w2.heap.size, 0, none⟩ = some (.int .i64 2) ∧ wx.cell? ⟨w2.heap.size, 1, none⟩ = some (.int .i64 n) ∧ (Instr.lookup 49 (.map (some (w2.heap.size + 1))) (.int .i64 I) false).run Try.prog wx = .ok (.bool false) wx) (first | go_keep | exact ⟨d8, d9, hl8⟩ | exact ⟨d10, d11, hl9⟩ | exact ⟨d12, d13, hl10⟩) (first
          | (go_at_call 11; refine (Life_any _ 2 n I (by omega) (by omega) (by omega) (by omega)).mono ?_; rintro e w9 ⟨rfl, hb⟩; have G5 := Lib.hid (G4.out.drew.next hb); clear hb; have d10 : w9.cell? ⟨w2.heap.size, 0, none⟩ = some (.int .i64 2) := G5.out.room.lay.at 0 rfl; have d11 : w9.cell? ⟨w2.heap.size, 1, none⟩ = some (.int .i64 n) := G5.out.room.lay.at 1 rfl; have hl9 : (Instr.lookup 49 (.map (some (w2.heap.size + 1))) (.int .i64 I) false).run Try.prog w9 = .ok (.bool false) w9 := (by have h := G5.out.map.look (a := I) (by omega) (by omega); rwa [if_pos rfl] at h))
          | (go_at_call 10; refine (Peek_s G5.out.room.mem (n + 4 + I) (IntKind.u64.wrap (z + 1)) HP.out).mono ?_; rintro e w10 ⟨rfl, rfl⟩)
          | (go_at_call 20; refine (taken_in HS2.out G5.out.room.mem I i0 i1).mono ?_; rintro e w11 ⟨rfl, hb⟩; rw [HT2.out]; have G6 := Lib.hid (G5.out.next hb); clear hb; have d12 : w11.cell? ⟨w2.heap.size, 0, none⟩ = some (.int .i64 2) := G6.out.room.lay.at 0 rfl; have d13 : w11.cell? ⟨w2.heap.size, 1, none⟩ = some (.int .i64 n) := G6.out.room.lay.at 1 rfl; have hl10 : (Instr.lookup 49 (.map (some (w2.heap.size + 1))) (.int .i64 I) false).run Try.prog w11 = .ok (.bool false) w11 := (by have h := G6.out.map.look (a := I) (by omega) (by omega); rwa [if_pos rfl] at h)))
        all_goals
          go_wp2
          go_roundw
          case rel => exact ⟨j + 1, c, _, _, by omega, by go_num, by omega, HS2.out, HA2.out, G6.out⟩
          case measure => simp [intOf]; omega
    · have GL0 : Hid (GivL w wr wr.heap.size w2.heap.size X Y (w2.heap.size + 1) n zs c f (.slice none 0 0) []) := by
        have h := HG.out.lt
        exact ⟨HG.out, World.ownsRow_nil _ _ _ _, h.1, h.2.1, h.2.2.1, h.2.2.2.2, h.2.2.2.1, fun _ => rfl⟩
      obtain ⟨E, hE⟩ : ∃ E, E = wr.heap.size := ⟨_, rfl⟩
      rw [← hE] at GL0
      have hEr : E ≤ wr.heap.size := by omega
      clear hE hcj HX HN
      go_wp2
      go_loopw [18, 19] (fun v i ws => ∃ k : Nat, (k : Int) ≤ n ∧ i = .int .i64 (k + 1) ∧ E ≤ ws.heap.size ∧ GivL w ws E w2.heap.size X Y (w2.heap.size + 1) n zs c f v (allTo f k)) (fun _ i _ => n.toNat + 1 - (intOf i).toNat)
      case atStart => exact ⟨0, by omega, by go_num, hEr, GL0.out⟩
      case round =>
        clear GL0 HG q0 q1
        obtain ⟨k, hk, rfl, hEw, hgl⟩ := hrel
        have HL := Lib.hid hgl
        clear hgl
        by_cases hkn : (k : Int) < n
        · have hlook := HL.out.giv.map.look (a := (k : Int) + 1) (by omega) (by omega)
          have hcast : ((k + 1 : Nat) : Int) = (k : Int) + 1 := by omega
          cases hf : f ((k : Int) + 1)
          · have HE : Hid (allTo f (k + 1) = allTo f k) := by show _ = _; rw [allTo, hcast, hf]; simp
            rw [hf] at hlook
            clear hf hcast
            go_wp2
            go_roundw
            case rel => exact ⟨k + 1, by omega, by go_num, hEw, by rw [HE.out]; exact HL.out⟩
            case measure => simp [intOf]; omega
          · have HE : Hid (allTo f (k + 1) = allTo f k ++ [(k : Int) + 1]) := by show _ = _; rw [allTo, hcast, hf]; simp
            rw [hf] at hlook
            clear hf hcast
            obtain ⟨i0, hi, hz0, hz1, hz2⟩ := info_parts Tryinfo_int
            have hlen := allTo_length f k
            have hml : (allTo f k).length + 1 ≤ maxLen := by unfold maxLen; omega
            go_wp2_with (at_builtin; go_loud (refine wpList_append_own _ rfl (.tmp 125) (.tmp 127) 42 rfl E 3 i0 (.int .i64 0) 1 8 Try.underlying42 hi hz0 hz1 hz2 rfl (by decide) _ (allTo f k).length ((allTo f k).map (Value.int .i64)) rfl (HL.out.own.alloc (.cells #[.int .i64 ((k : Int) + 1)] 3)) ⟨wr.heap.size, 0, none⟩ 1 1 [.int .i64 ((k : Int) + 1)] rfl rfl (cell_one _ _ _ rfl) (one_cell _ rfl) hml (by omega) (by simp; omega) ?_; intro v' w3 hown' hgrow hiff; have hE3 : E ≤ w3.heap.size := (by have := hgrow.size; simp at this; omega); have L3 := Lib.hid (HL.out.more hown' hgrow); clear hown' hgrow hiff))
            go_roundw
            case rel => exact ⟨k + 1, by omega, by go_num, hE3, by rw [HE.out]; exact L3.out⟩
            case measure => simp [intOf]; omega
        · have hkk : ¬ (k : Int) < n := hkn
          have hkn : n = (k : Int) := by omega
          have hcnt := free_and_all n zs f k (fun i hi => HA.out _ (by omega) (by omega))
          have hall : ∀ x ∈ allTo f k, 1 ≤ x ∧ x ≤ n := fun x hx => by rw [mem_allTo] at hx; omega
          have hnd := nodup_allTo f k
          have hfree : (freeL n zs).length = (freeTo n zs k).length := by unfold freeL; rw [hkn]; rfl
          have hend : ∀ ys, (∀ x : Int, 1 ≤ x → x ≤ n → takenB n ys x = false) → (freeL n ys).length = k := fun ys h => by
            unfold freeL
            rw [hkn, show ((k : Int)).toNat = k by omega]
            rw [← hkn]
            exact freeTo_all n ys k (fun i hi => h _ (by omega) (by omega))
          have hmem : ∀ x : Int, 1 ≤ x → x ≤ n → (x ∈ allTo f k ↔ takenB n zs x = true) := fun x x0 x1 => by
            rw [mem_allTo, HA.out x x0 x1]
            exact ⟨fun h => h.2.2, fun h => ⟨x0, by omega, h⟩⟩
          have HALL := Lib.hid hall
          have HND := Lib.hid hnd
          have HEND := Lib.hid hend
          have HMEM := Lib.hid hmem
          have hlen := allTo_length f k
          generalize allTo f k = L at *
          have hne : (((freeL n zs).length : Int) != n - (L.length : Int)) = false := by
            have : ((freeL n zs).length : Int) = n - (L.length : Int) := by omega
            rw [this]; simp
          clear hcnt hall hnd hfree hend hmem
          have HK := Lib.hid hkn
          clear hkn
          have p0 : wr.cell? ⟨w2.heap.size, 0, none⟩ = some (.int .i64 2) := HL.out.giv.room.lay.at 0 rfl
          have p1 : wr.cell? ⟨w2.heap.size, 1, none⟩ = some (.int .i64 n) := HL.out.giv.room.lay.at 1 rfl
          by_cases hL0 : L = []
          · subst hL0
            have hv := HL.out.nil rfl
            subst hv
            have HS3 : Hid (Sound 2 n zs) := HS
            have hno : ∀ x : Int, 1 ≤ x → x ≤ n → takenB n zs x = false := by
              intro x x0 x1
              have h := (HMEM.out x x0 x1).2
              cases hc : takenB n zs x
              · rfl
              · exact absurd (h hc) (by simp)
            have hfin : (((freeL n zs).length : Int) == n) = true := by
              rw [HEND.out zs hno, ← HK.out]
              simp
            clear hno
            go_wp2_with (first
              | (go_at_call 17; refine (free_any _ X Y 2 n _ HS3.out G3.out.room.mem).mono ?_; rintro e w8 ⟨fa2, fc2, rfl, _, hb⟩; have G4 := Lib.hid (G3.out.next hb); clear hb; have p4 : w8.cell? ⟨w2.heap.size, 0, none⟩ = some (.int .i64 2) := G4.out.room.lay.at 0 rfl; have p5 : w8.cell? ⟨w2.heap.size, 1, none⟩ = some (.int .i64 n) := G4.out.room.lay.at 1 rfl)
              | (go_at_call 17; refine (free_any _ X Y 2 n zs HS.out HL.out.giv.room.mem).mono ?_; rintro e w5 ⟨fa, fc, rfl, _, hb⟩; have G1 := Lib.hid (HL.out.giv.next hb); clear hb; have p2 : w5.cell? ⟨w2.heap.size, 0, none⟩ = some (.int .i64 2) := G1.out.room.lay.at 0 rfl; have p3 : w5.cell? ⟨w2.heap.size, 1, none⟩ = some (.int .i64 n) := G1.out.room.lay.at 1 rfl)
              | (go_at_call 21; refine (back_none _ 2 n).mono ?_; rintro e w6 ⟨C, rfl, hng⟩; have HNG := Lib.hid hng; have G2 := Lib.hid (G1.out.next hng.below); have HC : Hid (C ≠ X ∧ C ≠ Y ∧ C ≠ w2.heap.size ∧ C ≠ w2.heap.size + 1 ∧ w.heap.size ≤ C) := Lib.hid (by have h1 := G1.out.lt; have h2 := hng.c; omega); clear hng)
              | (go_at_call 13; go_loud (refine (give_run_none HC.out.1 HC.out.2.1 none 0 (G2.out.alloc _).room.mem (HNG.out.box.alloc _) 100 _ (by simp) (by omega) (by omega)).mono ?_; rintro e w7 ⟨rfl, hd⟩; have G3 : Hid (Giv w w7 w2.heap.size X Y (w2.heap.size + 1) n zs c f) := Lib.hid ((G2.out.alloc _).moved hd.mem hd.apart HC.out.2.2.2.2 HC.out.2.2.1 HC.out.2.2.2.1); clear hd; have p6 : w7.cell? ⟨w2.heap.size, 0, none⟩ = some (.int .i64 2) := G3.out.room.lay.at 0 rfl; have p7 : w7.cell? ⟨w2.heap.size, 1, none⟩ = some (.int .i64 n) := G3.out.room.lay.at 1 rfl))
              | (go_at_call 20; refine (taken_out HS3.out G5.out.room.mem (n + 1) (by omega)).mono ?_; rintro e w10 ⟨rfl, hb⟩; have G6 := Lib.hid (G5.out.next hb); clear hb)
              | (go_at_call 20; refine (taken_out HS3.out G4.out.room.mem 0 (by omega)).mono ?_; rintro e w9 ⟨rfl, hb⟩; have G5 := Lib.hid (G4.out.next hb); clear hb; have p8 : w9.cell? ⟨w2.heap.size, 0, none⟩ = some (.int .i64 2) := G5.out.room.lay.at 0 rfl; have p9 : w9.cell? ⟨w2.heap.size, 1, none⟩ = some (.int .i64 n) := G5.out.room.lay.at 1 rfl))
            all_goals
              go_returns
              exact ⟨rfl, G6.out.room.below⟩
          · have hpos : 0 < L.length := by
              rcases L with _ | ⟨y, ys⟩
              · exact absurd rfl hL0
              · simp
            obtain ⟨g, gc, rfl, hge, hrow, hc0, hc1⟩ := row_of_ints hpos HL.out.own
            have HROW := Lib.hid hrow
            clear hge hrow hc0 hc1 hL0
            have HS3 : Hid (Sound 2 n (giveTo n zs L L.length)) := Lib.hid (giveTo_sound HS.out L _)
            have hno : ∀ x : Int, 1 ≤ x → x ≤ n → takenB n (giveTo n zs L L.length) x = false := by
              intro x x0 x1
              have h := HMEM.out x x0 x1
              rw [taken_giveTo HS.out L HALL.out HND.out x L.length (Nat.le_refl _), List.take_length]
              by_cases hx : x ∈ L
              · rw [if_pos hx, h.1 hx]
                rfl
              · rw [if_neg hx]
                cases hc : takenB n zs x
                · rfl
                · exact absurd (h.2 hc) hx
            have hfin : (((freeL n (giveTo n zs L L.length)).length : Int) == n) = true := by
              rw [HEND.out _ hno, ← HK.out]
              simp
            clear hno
            have HPOS := Lib.hid hpos
            have HL1 : Hid (L.length ≤ 1000) := by show _ ≤ _; omega
            go_wp2_with (first
              | (go_at_call 17; refine (free_any _ X Y 2 n _ HS3.out G3.out.room.mem).mono ?_; rintro e w8 ⟨fa2, fc2, rfl, _, hb⟩; have G4 := Lib.hid (G3.out.next hb); clear hb; have p4 : w8.cell? ⟨w2.heap.size, 0, none⟩ = some (.int .i64 2) := G4.out.room.lay.at 0 rfl; have p5 : w8.cell? ⟨w2.heap.size, 1, none⟩ = some (.int .i64 n) := G4.out.room.lay.at 1 rfl)
              | (go_at_call 17; refine (free_any _ X Y 2 n zs HS.out HL.out.giv.room.mem).mono ?_; rintro e w5 ⟨fa, fc, rfl, _, hb⟩; have G1 := Lib.hid (HL.out.giv.next hb); have HROW1 := Lib.hid (HROW.out.below hb); clear hb; have p2 : w5.cell? ⟨w2.heap.size, 0, none⟩ = some (.int .i64 2) := G1.out.room.lay.at 0 rfl; have p3 : w5.cell? ⟨w2.heap.size, 1, none⟩ = some (.int .i64 n) := G1.out.room.lay.at 1 rfl)
              | (go_at_call 21; refine (back_some _ 2 n g L.length gc L rfl HPOS.out HL1.out HROW1.out).mono ?_; rintro e w6 ⟨C, g2, c2, rfl, hng, hrow, hg0, hgc, hc0, hc1⟩; have HNG := Lib.hid hng; have HRW := Lib.hid hrow; have G2 := Lib.hid (G1.out.next hng.below); have HC : Hid (C ≠ X ∧ C ≠ Y ∧ C ≠ w2.heap.size ∧ C ≠ w2.heap.size + 1 ∧ w.heap.size ≤ C ∧ g2 ≠ X ∧ g2 ≠ Y ∧ g2 ≠ C) := Lib.hid (by have h1 := G1.out.lt; have h2 := hng.c; omega); have HCC := Lib.hid (And.intro hc0 hc1); clear hng hrow hg0 hgc hc0 hc1)
              | (go_at_call 13; go_loud (refine (give_run HS.out L HALL.out HPOS.out HL1.out HC.out.1 HC.out.2.1 g2 HC.out.2.2.2.2.2.1 HC.out.2.2.2.2.2.2.1 HC.out.2.2.2.2.2.2.2 c2 HCC.out.1 HCC.out.2 (G2.out.alloc _).room.mem (HNG.out.box.alloc _) (HRW.out.below ((Below.refl _ _).alloc (Nat.le_refl _) _)) 100 _ (by simp) (by omega) (by omega)).mono ?_; rintro e w7 ⟨rfl, gv, hd⟩; have G3 : Hid (Giv w w7 w2.heap.size X Y (w2.heap.size + 1) n (giveTo n zs L L.length) c f) := Lib.hid ((G2.out.alloc _).moved hd.mem hd.apart HC.out.2.2.2.2.1 HC.out.2.2.1 HC.out.2.2.2.1); clear hd; have p6 : w7.cell? ⟨w2.heap.size, 0, none⟩ = some (.int .i64 2) := G3.out.room.lay.at 0 rfl; have p7 : w7.cell? ⟨w2.heap.size, 1, none⟩ = some (.int .i64 n) := G3.out.room.lay.at 1 rfl))
              | (go_at_call 20; refine (taken_out HS3.out G5.out.room.mem (n + 1) (by omega)).mono ?_; rintro e w10 ⟨rfl, hb⟩; have G6 := Lib.hid (G5.out.next hb); clear hb)
              | (go_at_call 20; refine (taken_out HS3.out G4.out.room.mem 0 (by omega)).mono ?_; rintro e w9 ⟨rfl, hb⟩; have G5 := Lib.hid (G4.out.next hb); clear hb; have p8 : w9.cell? ⟨w2.heap.size, 0, none⟩ = some (.int .i64 2) := G5.out.room.lay.at 0 rfl; have p9 : w9.cell? ⟨w2.heap.size, 1, none⟩ = some (.int .i64 n) := G5.out.room.lay.at 1 rfl))
            all_goals
              go_returns
              exact ⟨rfl, G6.out.room.below⟩

theorem gives_any (w : World) (many : Int) (a : Option Addr) (xs : List Int) (N cap : Nat) (hN : xs.length = N) (hx : BytesAt w a xs) (m0 : 0 ≤ many) (m1 : many < 256) :
    Calls Try.prog 5 #[.int .u8 many, .slice a N cap] w fun e w' => e = .returned (.bool true) ∧ Below w.heap.size w w' := by
  by_cases hl : (N : Int) ≤ 60
  · exact gives_short w many a xs N cap hN hl hx m0 m1
  · exact gives_long w many a N cap (by omega)
end Go.Proofs.Ytglkpajnhdamkaa.life
