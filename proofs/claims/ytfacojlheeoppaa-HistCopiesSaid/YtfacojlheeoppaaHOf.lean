/- The law HistOf answers true at every list of events. -/
import Derived.Test.YtfacojlheeoppaaHOfP
namespace Go.Proofs.Ytfacojlheeoppaa.hist
open Go.RowKit

theorem bare_as (w : World) (u b : EvV) (hb : bareE u = b) :
    Calls Try.prog 13 #[.agg #[.int .i64 u.T, .bool u.E, .int .i64 u.K, .int .i64 u.Y, .int .i64 u.C, .bool u.O, .int .i64 u.V]] w fun e w' => e = .returned (.agg #[.int .i64 b.T, .bool b.E, .int .i64 b.K, .int .i64 b.Y, .int .i64 b.C, .bool b.O, .int .i64 b.V]) ∧ Below w.heap.size w w' := by
  subst hb
  exact bare_any w u
theorem error_as (w : World) (a : Option Addr) (l : List EvV) (N cap : Nat) (hN : l.length = N) (hl : N ≤ 1000) (hx : At cells7 7 w a l) (u : EvV) :
    Calls Try.prog 12 #[.slice a N cap, .agg #[.int .i64 u.T, .bool u.E, .int .i64 u.K, .int .i64 u.Y, .int .i64 u.C, .bool u.O, .int .i64 u.V]] w fun e w' => e = .returned (.int .i64 (errE l u)) ∧ Below w.heap.size w w' := error_any w a l N cap hN hl hx u
/-- Two rows of unlike types lie in two blocks. -/
theorem Own.unlike {α β : Type} {f : Nat → α → List Value} {f' : Nat → β → List Value} {k k' : Nat} {T T' : TypeId} {w : World} {v v' : Value} {L : List α} {L' : List β} (h : Own f k T w v L) (h' : Own f' k' T' w v' L') (hT : T ≠ T') {g : Nat} (hg : v.ownBlock = some g) : v'.ownBlock ≠ some g := by
  intro hg'
  obtain ⟨_, ⟨rfl, _⟩ | ⟨g1, _, _, rfl, _, h1, _⟩⟩ := h
  · simp [Value.ownBlock] at hg
  · obtain ⟨_, ⟨rfl, _⟩ | ⟨g2, _, _, rfl, _, h2, _⟩⟩ := h'
    · simp [Value.ownBlock] at hg'
    · have e1 : g1 = g := by simpa [Value.ownBlock] using hg
      have e2 : g2 = g := by simpa [Value.ownBlock] using hg'
      subst e1
      subst e2
      rw [h1] at h2
      simp at h2
      exact hT h2.2
/-- Another row has grown. -/
theorem Grow.other {α : Type} {f : Nat → α → List Value} {k : Nat} {T : TypeId} {W w w' : World} {v : Value} {L : List α} (h : Grow f k T W w v L) {row : Option Nat} (hg : w.grownBy w' row) (hr : ∀ b, row = some b → W.heap.size ≤ b) (hv : ∀ g, v.ownBlock = some g → row ≠ some g) : Grow f k T W w' v L :=
  ⟨h.own.moved fun g hg' => hg.block g (h.own.lt hg') (fun e => hv g hg' e.symm), h.new, h.below.grown hg h.below.size hr⟩

/-- Two rows: the events handed to Of, and those that the law took. -/
structure Two (W w : World) (ve vt : Value) (L R : List EvV) : Prop where
  e : Grow cells7 7 42 W w ve L
  t : Grow cells7 7 32 W w vt R
theorem Two.next {W w w' : World} {ve vt : Value} {L R : List EvV} (h : Two W w ve vt L R) (hb : Below w.heap.size w w') : Two W w' ve vt L R := ⟨h.e.next hb, h.t.next hb⟩
theorem Two.moreE {W w w' : World} {ve vt v' : Value} {L R : List EvV} (h : Two W w ve vt L R) {a : EvV} (ho : Own cells7 7 42 w' v' (L ++ [a])) (hg : w.grownBy w' ve.ownBlock) (hat : v'.ownBlock = ve.ownBlock ∨ v'.ownBlock = some w.heap.size) : Two W w' v' vt (L ++ [a]) R :=
  ⟨h.e.more ho hg hat, h.t.other hg h.e.new fun _ hg' => Own.unlike h.t.own h.e.own (by decide) hg'⟩
theorem Two.moreT {W w w' : World} {ve vt v' : Value} {L R : List EvV} (h : Two W w ve vt L R) {a : EvV} (ho : Own cells7 7 32 w' v' (R ++ [a])) (hg : w.grownBy w' vt.ownBlock) (hat : v'.ownBlock = vt.ownBlock ∨ v'.ownBlock = some w.heap.size) : Two W w' ve v' L (R ++ [a]) :=
  ⟨h.e.other hg h.t.new fun _ hg' => Own.unlike h.e.own h.t.own (by decide) hg', h.t.more ho hg hat⟩
/-- What the law wants, so far. -/
def Wants (l : List EvV) (k : Nat) (x : Int) (R : List EvV) : Prop := (x = 0 ∧ Right l k ∧ R = (l.take k).map bareE) ∨ (x ≠ 0 ∧ x = firstE [] l)
theorem wants_stay {l : List EvV} {k : Nat} {x : Int} {R : List EvV} (h : Wants l k x R) (hx : x ≠ 0) : Wants l (k + 1) x R := by
  rcases h with ⟨h, _⟩ | h
  · exact absurd h hx
  · exact Or.inr h
theorem wants_next {l : List EvV} {k : Nat} {R : List EvV} (h : Wants l k 0 R) (hk : k < l.length) : Wants l (k + 1) (errE R l[k]) (R ++ [bareE l[k]]) := by
  rcases h with ⟨_, h1, rfl⟩ | h
  · by_cases he : errE ((l.take k).map bareE) l[k] = 0
    · exact Or.inl ⟨he, right_next h1 (List.getElem?_eq_getElem hk) he, (take_bare hk).symm⟩
    · exact Or.inr ⟨he, (first_wrong hk h1 he).symm⟩
  · exact absurd rfl h.1

set_option maxRecDepth 100000 in
set_option maxHeartbeats 8000000 in
theorem of_law (w : World) (a : Option Addr) (l : List EvV) (N cap : Nat) (hN : l.length = N) (hx : At cells7 7 w a l) :
    Calls Try.prog 4 #[.slice a N cap] w fun e w' => e = .returned (.bool true) ∧ Below w.heap.size w w' := by
  have HX := Lib.hid hx
  have HN := Lib.hid hN
  clear hx hN
  by_cases h60 : N ≤ 60
  · have hl0 : (N : Int) ≤ 60 := by omega
    go_enter Try.func4, Try.ntmps4
    go_wp2_with (go_at_call 8; go_loud (refine (awake_any _).mono ?_; rintro e w1 ⟨rfl, hb⟩; have A1 := Lib.hid hb; clear hb))
    go_loopw [3, 4, 5, 17] (fun ve vt xv i wr => ∃ (k : Nat) (x : Int) (R : List EvV), k ≤ N ∧ i = .int .i64 (k : Int) ∧ xv = .int .i64 x ∧ Two w wr ve vt (l.take k) R ∧ R.length ≤ k ∧ Wants l k x R) (fun _ _ _ i _ => N - (intOf i).toNat)
    case atStart => exact ⟨0, 0, [], Nat.zero_le _, rfl, rfl, ⟨Grow.nil _ _ _ A1.out, Grow.nil _ _ _ A1.out⟩, Nat.le_refl _, Or.inl ⟨rfl, right_zero l, rfl⟩⟩
    case round =>
      obtain ⟨k, x, R, hk, rfl, rfl, hp, hr, hwt⟩ := hrel
      have HP := Lib.hid hp
      have HR := Lib.hid hr
      have HW := Lib.hid hwt
      clear hp hr hwt
      obtain ⟨A4, c4, rfl, -, -, ha4⟩ := HP.out.t.told len7
      have HA4 := Lib.hid ha4
      clear ha4
      by_cases hlt : k < N
      · have hkl : k < l.length := by rw [HN.out]; exact hlt
        have hki : (k : Int) < (N : Int) := by omega
        obtain ⟨b, rfl, p0, p1, p2, p3, p4, p5, p6⟩ := (HX.out.later HP.out.e.below).ev k hkl
        have hbl := World.block_lt_of_cell? wr _ p0
        have HT : Hid (l.take (k + 1) = l.take k ++ [l[k]]) := Lib.hid (List.take_succ_eq_append_getElem hkl)
        have HWN : Hid (x = 0 → Wants l (k + 1) (errE R l[k]) (R ++ [bareE l[k]])) := Lib.hid fun h => wants_next (by have := HW.out; rwa [h] at this) hkl
        have HL : Hid ((l.take k).length ≤ 60) := by show _ ≤ _; rw [List.length_take]; omega
        generalize l[k] = u at *
        have BA : Hid (Below wr.heap.size wr (wr.alloc (.cells #[.int .i64 u.T, .bool u.E, .int .i64 u.K, .int .i64 u.Y, .int .i64 u.C, .bool u.O, .int .i64 u.V] 32))) := Lib.hid ((Below.refl _ _).alloc (Nat.le_refl _) _)
        have B0 : Hid (Blk7 (wr.alloc (.cells #[.int .i64 u.T, .bool u.E, .int .i64 u.K, .int .i64 u.Y, .int .i64 u.C, .bool u.O, .int .i64 u.V] 32)) wr.heap.size u) := Lib.hid ⟨new_block _ _ _⟩
        obtain ⟨i0, hi, hz0, hz1, hz2⟩ := info_parts Tryinfo_ev
        obtain ⟨j0, hj, yz0, yz1, yz2⟩ := info_parts Tryinfo_rev
        -- the worlds of the first append
        obtain ⟨wa, hwa⟩ : ∃ wa, wa = (wr.alloc (.cells #[.int .i64 u.T, .bool u.E, .int .i64 u.K, .int .i64 u.Y, .int .i64 u.C, .bool u.O, .int .i64 u.V] 32)) := ⟨_, rfl⟩
        obtain ⟨v3, w3, hrun, hown, hgr, hat, -⟩ := append_row len7 (wa.alloc (.cells #[.int .i64 u.T, .bool u.E, .int .i64 u.K, .int .i64 u.Y, .int .i64 u.C, .bool u.O, .int .i64 u.V] 42)) 41 41 42 i0 _ 56 Try.underlying41 hi hz0 hz1 hz2 rfl (by decide) _ (l.take k) u (((HP.out.next (by rw [hwa]; exact BA.out)).next ((Below.refl _ _).alloc (Nat.le_refl _) _)).e.own) wa.heap.size (new_cells wa (cells7 0 u) _) (one7 _ _) (by have := HL.out; unfold maxLen; omega) (by have := HL.out; omega)
        have P3 := Lib.hid (((HP.out.next (by rw [hwa]; exact BA.out)).next ((Below.refl _ _).alloc (Nat.le_refl _) (.cells #[.int .i64 u.T, .bool u.E, .int .i64 u.K, .int .i64 u.Y, .int .i64 u.C, .bool u.O, .int .i64 u.V] 42))).moreE hown hgr hat)
        have B3 : Hid (Blk7 w3 wr.heap.size u) := Lib.hid (((by rw [hwa]; exact B0.out : Blk7 wa wr.heap.size u).below ((Below.refl _ _).alloc (Nat.le_refl _) _)).grown hgr (fun h => absurd (HP.out.e.own.lt h.symm) (Nat.lt_irrefl _)))
        have HRUN := Lib.hid hrun
        have hwsz : wa.heap.size = wr.heap.size + 1 := by rw [hwa]; simp
        rw [hwsz] at HRUN
        subst hwa
        clear hrun hown hgr hat hwsz
        by_cases h0 : x = 0
        · subst h0
          have HB : Hid (∃ bu, bareE u = bu) := Lib.hid ⟨_, rfl⟩
          obtain ⟨bu, hbu⟩ := HB.out
          have HBU := Lib.hid hbu
          clear hbu HB
          go_wp2_with (first
            | (at_builtin; have _t := P5.out; go_loud (obtain ⟨v6, w6, hrun, hown, hgr, hat, -⟩ := append_row len7 (w5.alloc (.cells #[.int .i64 bu.T, .bool bu.E, .int .i64 bu.K, .int .i64 bu.Y, .int .i64 bu.C, .bool bu.O, .int .i64 bu.V] 32)) 22 22 32 j0 _ 56 Try.underlying22 hj yz0 yz1 yz2 rfl (by decide) _ R bu ((P5.out.next ((Below.refl _ _).alloc (Nat.le_refl _) _)).t.own) w5.heap.size (new_cells w5 (cells7 0 bu) _) (one7 _ _) (by have := HR.out; unfold maxLen; omega) (by have := HR.out; omega); have P6 := Lib.hid ((P5.out.next ((Below.refl _ _).alloc (Nat.le_refl _) (.cells #[.int .i64 bu.T, .bool bu.E, .int .i64 bu.K, .int .i64 bu.Y, .int .i64 bu.C, .bool bu.O, .int .i64 bu.V] 32))).moreT hown hgr hat); refine wpList_known rfl (.tmp 38) (.tmp 41) 22 rfl _ _ _ w6 rfl rfl hrun ?_; clear hown hgr hat hrun))
            | (go_at_call 13; have _t := P4.out; go_loud (refine (bare_as w4 u bu HBU.out).mono ?_; rintro e w5 ⟨rfl, hb⟩; have P5 := Lib.hid (P4.out.next hb); clear hb))
            | (go_at_call 12; go_loud (refine (error_as w3 A4 R R.length c4 rfl (by have := HR.out; omega) (P3.out.t.own.at len7) u).mono ?_; rintro e w4 ⟨rfl, hb⟩; have P4 := Lib.hid (P3.out.next hb); obtain ⟨m0, m1, m2, m3, m4, m5, m6⟩ := (B3.out.below hb).cells; clear hb))
            | (at_builtin; go_loud (refine wpList_known rfl (.tmp 21) (.tmp 31) 41 rfl _ _ v3 w3 rfl rfl HRUN.out ?_; obtain ⟨n0, n1, n2, n3, n4, n5, n6⟩ := B3.out.cells)))
          go_roundw
          case rel => exact ⟨k + 1, errE R u, R ++ [bu], by omega, by go_num, rfl, by rw [HT.out]; exact P6.out, by have := HR.out; simp; omega, by have h := HWN.out (by simp); rwa [HBU.out] at h⟩
          case measure => simp [intOf] <;> omega
        · have hx0 : (x == 0) = false := beq_eq_false_iff_ne.2 h0
          have HS := Lib.hid (wants_stay HW.out h0)
          clear h0
          go_wp2_with (at_builtin; go_loud (refine wpList_known rfl (.tmp 21) (.tmp 31) 41 rfl _ _ v3 w3 rfl rfl HRUN.out ?_; obtain ⟨n0, n1, n2, n3, n4, n5, n6⟩ := B3.out.cells))
          go_roundw
          case rel => exact ⟨k + 1, x, R, by omega, by go_num, rfl, by rw [HT.out]; exact P3.out, by have := HR.out; omega, HS.out⟩
          case measure => simp [intOf] <;> omega
      · have hge : ¬ ((k : Int) < (N : Int)) := by omega
        have e : l.take k = l := List.take_of_length_le (by rw [HN.out]; omega)
        rw [e] at HP
        have hrl := HR.out
        obtain ⟨A3, c3, rfl, -, -, ha3⟩ := HP.out.e.told len7
        have HA3 := Lib.hid ha3
        clear ha3
        by_cases h0 : x = 0
        · subst h0
          have HWF : Hid (firstE [] l = 0 ∧ R = l.map bareE) := by
            rcases HW.out with ⟨_, h1, h2⟩ | h
            · refine Lib.hid ⟨first_all fun j v hj hv => h1 j v (by rw [HN.out] at hj; omega) hv, ?_⟩
              rw [h2, e]
            · exact absurd rfl h.1
          clear e
          go_wp2_with (first
            | (go_at_call 17; have _t := S2.out; go_loud (refine (callsAre_any _ X f R (HH.out.below S2.out) A4 R.length c4 rfl (by omega) (HA4.out.later (past S1.out S2.out))).mono ?_; rintro e w6 ⟨rfl, hb⟩; have S3 := Lib.hid (past S2.out hb); clear hb))
            | (go_at_call 16; have _t := S1.out; go_loud (refine (same_any _ X f R HH.out (by rw [HWF.out.2]; exact bare_map l) A4 R.length c4 rfl (by omega) (HA4.out.later S1.out)).mono ?_; rintro e w5 ⟨rfl, hb⟩; have S2 := Lib.hid hb; clear hb))
            | (go_at_call 18; go_loud (refine (of_any _ A3 l l.length c3 rfl (by rw [HN.out]; omega) HA3.out).mono ?_; rintro e w4 ⟨ht, hb⟩; rcases ht with ⟨_, X, f, rfl, hm, hn⟩ | ⟨h, _⟩; rotate_left; exact absurd HWF.out.1 h; have S1 := Lib.hid hb; have HH : Hid (Hst w4 X f R) := Lib.hid (by rw [HWF.out.2]; exact hm); clear hm hn hb)))
          go_returns
          exact ⟨rfl, past HP.out.e.below (past S1.out S3.out)⟩
        · have hx0 : (x == 0) = false := beq_eq_false_iff_ne.2 h0
          have HWF : Hid (firstE [] l = x) := by
            rcases HW.out with ⟨h1, _⟩ | h
            · exact absurd h1 h0
            · exact h.2.symm
          have H0 := Lib.hid h0
          clear h0 e
          go_wp2_with (go_at_call 18; go_loud (refine (of_any _ A3 l l.length c3 rfl (by rw [HN.out]; omega) HA3.out).mono ?_; rintro e w4 ⟨ht, hb⟩; rcases ht with ⟨h, _⟩ | ⟨_, rfl⟩; exact absurd (HWF.out.symm.trans h) H0.out; have S1 := Lib.hid hb; rw [HWF.out]; clear hb))
          go_returns
          exact ⟨rfl, past HP.out.e.below S1.out⟩
  · have h61 : (60 : Int) < (N : Int) := by omega
    go_enter Try.func4, Try.ntmps4
    go_wp2_with (go_at_call 8; go_loud (refine (awake_any _).mono ?_; rintro e w1 ⟨rfl, hb⟩; have A1 := Lib.hid hb; clear hb))
    go_returns
    exact ⟨rfl, A1.out⟩
end Go.Proofs.Ytfacojlheeoppaa.hist
