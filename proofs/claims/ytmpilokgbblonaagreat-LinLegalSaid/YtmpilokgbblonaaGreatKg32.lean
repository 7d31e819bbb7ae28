/- The history of events, or the first error. -/
import Derived.Test.YtmpilokgbblonaaGreatKg29
import Derived.Test.YtmpilokgbblonaaGreatKg26
import Derived.Test.YtmpilokgbblonaaGreatKg19
namespace Go.Proofs.YtmpilokgbblonaaGreat.hist
open Go.RowKit

/-- The first error, as a number. -/
def firstE : List EvV → List EvV → Int
  | _, [] => 0
  | t, v :: l => if errE t v = 0 then firstE (t ++ [bareE v]) l else errE t v
/-- What is reached behind the first k events, as long as each is right. -/
theorem first_take (l : List EvV) : ∀ (t : List EvV), firstE t l = 0 → ∀ k, k < l.length → ∀ v, l[k]? = some v → errE (t ++ (l.take k).map bareE) v = 0 := by
  induction l with
  | nil => intro t _ k hk; simp at hk
  | cons u l ih =>
    intro t h k hk v hv
    unfold firstE at h
    split at h
    · rename_i hu
      cases k with
      | zero =>
        obtain rfl : u = v := by simpa using hv
        simpa using hu
      | succ k =>
        have := ih (t ++ [bareE u]) h k (by simpa using hk) v (by simpa using hv)
        simpa using this
    · rename_i hu
      exact absurd h hu
/-- The state ahead of event k: no error so far. -/
def Right (l : List EvV) (k : Nat) : Prop := ∀ j v, j < k → l[j]? = some v → errE ((l.take j).map bareE) v = 0
theorem right_zero (l : List EvV) : Right l 0 := fun j v hj => absurd hj (by omega)
theorem right_next {l : List EvV} {k : Nat} {v : EvV} (h : Right l k) (hv : l[k]? = some v) (he : errE ((l.take k).map bareE) v = 0) : Right l (k + 1) := by
  intro j u hj hu
  by_cases hjk : j = k
  · subst hjk
    obtain rfl := Option.some.inj (hv.symm.trans hu)
    exact he
  · exact h j u (by omega) hu
theorem take_bare {l : List EvV} {k : Nat} (hk : k < l.length) : (l.take (k + 1)).map bareE = (l.take k).map bareE ++ [bareE l[k]] := by
  rw [List.take_succ_eq_append_getElem hk, List.map_append]
  rfl
theorem first_go (l : List EvV) : ∀ (n k : Nat), n = l.length - k → k ≤ l.length → Right l k → firstE [] l = firstE ((l.take k).map bareE) (l.drop k) := by
  intro n k
  induction k generalizing n with
  | zero => intro _ _ _; rfl
  | succ k ih =>
    intro hn hk hr
    have hk' : k < l.length := by omega
    rw [ih (l.length - k) rfl (by omega) (fun j v hj hv => hr j v (by omega) hv), List.drop_eq_getElem_cons hk', firstE, if_pos (hr k _ (by omega) (List.getElem?_eq_getElem hk')), take_bare hk']
/-- All right. -/
theorem first_all {l : List EvV} (h : Right l l.length) : firstE [] l = 0 := by
  rw [first_go l 0 l.length (by omega) (Nat.le_refl _) h, List.drop_length, firstE]
/-- The first one that is wrong. -/
theorem first_wrong {l : List EvV} {k : Nat} (hk : k < l.length) (h : Right l k) (he : errE ((l.take k).map bareE) l[k] ≠ 0) : firstE [] l = errE ((l.take k).map bareE) l[k] := by
  rw [first_go l (l.length - k) k rfl (by omega) h, List.drop_eq_getElem_cons hk, firstE, if_neg he]
theorem bare_map (l : List EvV) : BareE (l.map bareE) := by
  intro v hv
  obtain ⟨u, _, rfl⟩ := List.mem_map.1 hv
  exact bare_bare u
/-- What Of tells. -/
def Told (w : World) (l : List EvV) (e : Ending) (w' : World) : Prop :=
  (firstE [] l = 0 ∧ ∃ X f, e = .returned (.tuple #[.pointer (some ⟨X, 0, none⟩), .int .i64 0]) ∧ Hst w' X f (l.map bareE) ∧ ∀ b, f b → w.heap.size ≤ b) ∨ (firstE [] l ≠ 0 ∧ e = .returned (.tuple #[.pointer none, .int .i64 (firstE [] l)]))
def Of (w : World) (l : List EvV) (e : Ending) (w' : World) : Prop := Told w l e w' ∧ Below w.heap.size w w'
/-- A history being made of events, behind world W. -/
structure Made (W w : World) (X : Nat) (f : Nat → Prop) (L : List EvV) : Prop where
  hst : Hst w X f L
  foot : ∀ b, f b → W.heap.size ≤ b
  below : Below W.heap.size W w
theorem Made.next {W w w' : World} {X : Nat} {f : Nat → Prop} {L : List EvV} (h : Made W w X f L) (hb : Below w.heap.size w w') : Made W w' X f L := ⟨h.hst.below hb, h.foot, past h.below hb⟩
theorem Made.step {W w w' : World} {X : Nat} {f f' : Nat → Prop} {L L' : List EvV} (h : Made W w X f L) (hm : Hst w' X f' L') (hw : Went f f' w w') : Made W w' X f' L' := ⟨hm, hw.from h.below.size h.foot, hw.below h.below h.below.size h.foot⟩

set_option maxHeartbeats 2000000 in
/-- An event of the history's own kind. -/
theorem add_any (w : World) (X : Nat) (f : Nat → Prop) (l : List EvV) (h : Hst w X f l) (hl : l.length ≤ 1000) (v : EvV) :
    Calls Tryz.prog 45 #[.pointer (some ⟨X, 0, none⟩), evV v] w (Steps w X f l v) := by
  have HH := Lib.hid h
  have HL := Lib.hid hl
  clear h hl
  obtain ⟨T, E, K, Y, C, O, V⟩ := v
  unfold evV
  simp only
  cases E
  · have BA : Hid (Below w.heap.size w (w.alloc (.cells #[.int .i64 T, .bool false, .int .i64 K, .int .i64 Y, .int .i64 C, .bool O, .int .i64 V] 63))) := Lib.hid ((Below.refl _ _).alloc (Nat.le_refl _) _)
    go_enter Tryz.func45, Tryz.ntmps45
    go_wp2_with (go_at_call 21; go_loud (refine (begin_step _ X f l (HH.out.below BA.out) HL.out ⟨T, false, K, Y, C, O, V⟩ rfl).mono ?_; rintro e w1 ⟨f1, rfl, hm, hw⟩; have M1 := Lib.hid hm; have W1 := Lib.hid hw; clear hm hw))
    go_returns
    exact ⟨f1, rfl, M1.out, Went.ahead BA.out W1.out⟩
  · have BA : Hid (Below w.heap.size w (w.alloc (.cells #[.int .i64 T, .bool true, .int .i64 K, .int .i64 Y, .int .i64 C, .bool O, .int .i64 V] 63))) := Lib.hid ((Below.refl _ _).alloc (Nat.le_refl _) _)
    go_enter Tryz.func45, Tryz.ntmps45
    go_wp2_with (go_at_call 22; go_loud (refine (end_step _ X f l (HH.out.below BA.out) HL.out ⟨T, true, K, Y, C, O, V⟩ rfl).mono ?_; rintro e w1 ⟨f1, rfl, hm, hw⟩; have M1 := Lib.hid hm; have W1 := Lib.hid hw; clear hm hw))
    go_returns
    exact ⟨f1, rfl, M1.out, Went.ahead BA.out W1.out⟩

set_option maxRecDepth 100000 in
set_option maxHeartbeats 4000000 in
theorem of_any (w : World) (a : Option Addr) (l : List EvV) (N cap : Nat) (hN : l.length = N) (hl : N ≤ 60) (hx : At cells7 7 w a l) :
    Calls Tryz.prog 24 #[.slice a N cap] w (Of w l) := by
  have HX := Lib.hid hx
  have HN := Lib.hid hN
  have hl0 : (N : Int) ≤ 60 := by omega
  clear hx hN
  go_enter Tryz.func24, Tryz.ntmps24
  go_wp2_with (go_at_call 20; go_loud (refine (new_any _).mono ?_; rintro e w2 ⟨X, f, rfl, hm, hn, hb⟩; have P0 : Hid (Made w w2 X f []) := Lib.hid ⟨hm, hn, hb⟩; clear hm hn hb))
  go_loopw [11] (fun i wr => ∃ (k : Nat) (f' : Nat → Prop), k ≤ N ∧ i = .int .i64 (k : Int) ∧ Made w wr X f' ((l.take k).map bareE) ∧ Right l k) (fun i _ => N - (intOf i).toNat)
  case atStart => exact ⟨0, f, Nat.zero_le _, rfl, P0.out, right_zero l⟩
  case round =>
    clear P0
    obtain ⟨k, f1, hk, rfl, hp, hr⟩ := hrel
    have HP := Lib.hid hp
    have HR := Lib.hid hr
    clear hp hr
    by_cases hlt : k < N
    · have hkl : k < l.length := by rw [HN.out]; exact hlt
      have hki : (k : Int) < (N : Int) := by omega
      obtain ⟨b, rfl, p0, p1, p2, p3, p4, p5, p6⟩ := (HX.out.later HP.out.below).ev k hkl
      have hbl := World.block_lt_of_cell? wr _ p0
      have HT := Lib.hid (take_bare hkl)
      have HW := Lib.hid (first_wrong hkl HR.out)
      have HNX := Lib.hid (right_next HR.out (List.getElem?_eq_getElem hkl))
      have HL : Hid (((l.take k).map bareE).length ≤ 1000) := by show _ ≤ _; rw [List.length_map, List.length_take]; omega
      generalize (l.take k).map bareE = L at *
      generalize l[k] = u at *
      have BA : Hid (Below wr.heap.size wr (wr.alloc (.cells #[.int .i64 u.T, .bool u.E, .int .i64 u.K, .int .i64 u.Y, .int .i64 u.C, .bool u.O, .int .i64 u.V] 63))) := Lib.hid ((Below.refl _ _).alloc (Nat.le_refl _) _)
      obtain ⟨x, hxe⟩ : ∃ x, errE L u = x := ⟨_, rfl⟩
      have HE := Lib.hid hxe
      by_cases h0 : x = 0
      · subst h0
        have HS := Lib.hid (step_yes hxe)
        clear hxe
        go_wp2_with (go_at_call 45; go_loud (refine (add_any _ X f1 L (HP.out.next BA.out).hst HL.out u).mono ?_; rintro e w3 ⟨f2, rfl, hm, hw⟩; rw [HE.out]; have P3 := Lib.hid ((HP.out.next BA.out).step hm hw); clear hm hw))
        go_roundw
        case rel => exact ⟨k + 1, f2, by omega, by go_num, by rw [HT.out, ← HS.out]; exact P3.out, HNX.out HE.out⟩
        case measure => simp [intOf] <;> omega
      · have hx0 : (x == 0) = false := beq_eq_false_iff_ne.2 h0
        have HF : Hid (firstE [] l = x) := by show _ = _; rw [HW.out (by rw [hxe]; exact h0), hxe]
        have H0 := Lib.hid h0
        clear hxe h0
        go_wp2_with (go_at_call 45; go_loud (refine (add_any _ X f1 L (HP.out.next BA.out).hst HL.out u).mono ?_; rintro e w3 ⟨f2, rfl, hm, hw⟩; rw [HE.out]; have P3 := Lib.hid ((HP.out.next BA.out).step hm hw); clear hm hw))
        go_returns
        exact ⟨Or.inr ⟨by rw [HF.out]; exact H0.out, by rw [HF.out] <;> rfl⟩, P3.out.below⟩
    · obtain rfl : k = N := by omega
      have e : l.take k = l := by rw [← HN.out, List.take_length]
      rw [e] at HP
      have HF := Lib.hid (first_all (by rw [HN.out]; exact HR.out))
      go_wp2
      go_returns
      exact ⟨Or.inl ⟨HF.out, X, f1, rfl, HP.out.hst, HP.out.foot⟩, HP.out.below⟩
end Go.Proofs.YtmpilokgbblonaaGreat.hist
/- The law's history of those events that can be taken, and they. -/
namespace Go.Proofs.YtmpilokgbblonaaGreat.lin
open Go.RowKit
open hist (ClV EvV befB past new_block Went At cells7 len7 one7 Hst Own Grow Play Blk7 append_row new_cells errE tookE stepE callsE new_any begin_step end_step error_any evV wpList_known took_take took_take_len)
/-- What is made of events. -/
def MadeQ (W : World) (l : List EvV) (e : Ending) (w' : World) : Prop := ∃ X f v, e = .returned (.tuple #[.pointer (some ⟨X, 0, none⟩), v]) ∧ Play W w' X f v (tookE l) (rawE l)
theorem raw_err' (l : List EvV) (u : EvV) : errE (rawE l) u = errE (tookE l) u := raw_err l u
theorem raw_take_len (l : List EvV) (k : Nat) : (rawE (l.take k)).length ≤ k := by rw [raw_len]; exact took_take_len l k
theorem step_yes {l : List EvV} {v : EvV} (h : errE l v = 0) : stepE l v = l ++ [hist.bareE v] := by unfold stepE; rw [if_pos h]
theorem step_no {l : List EvV} {v : EvV} (h : errE l v ≠ 0) : stepE l v = l := by unfold stepE; rw [if_neg h]
theorem error_ev (w : World) (a : Option Addr) (l : List EvV) (N cap : Nat) (hN : l.length = N) (hl : N ≤ 1000) (hx : At cells7 7 w a l) (u : EvV) :
    Calls Tryz.prog 25 #[.slice a N cap, .agg #[.int .i64 u.T, .bool u.E, .int .i64 u.K, .int .i64 u.Y, .int .i64 u.C, .bool u.O, .int .i64 u.V]] w fun e w' => e = .returned (.int .i64 (errE l u)) ∧ Below w.heap.size w w' := error_any w a l N cap hN hl hx u
set_option maxRecDepth 100000 in
set_option maxHeartbeats 8000000 in
theorem make_any (w : World) (a : Option Addr) (l : List EvV) (N cap : Nat) (hN : l.length = N) (hl : N ≤ 60) (hx : At cells7 7 w a l) :
    Calls Tryz.prog 8 #[.slice a N cap] w (MadeQ w l) := by
  have HX := Lib.hid hx
  have HN := Lib.hid hN
  have hl0 : (N : Int) ≤ 60 := by omega
  clear hx hN
  go_enter Tryz.func8, Tryz.ntmps8
  go_wp2_with (go_at_call 20; go_loud (refine (new_any _).mono ?_; rintro e w2 ⟨X, f, rfl, hm, hn, hb⟩; have P0 : Hid (Play w w2 X f (.slice none 0 0) [] []) := Lib.hid ⟨hm, Grow.nil _ _ _ hb, fun g hg => by simp [Value.ownBlock] at hg, hn⟩; clear hm hn hb))
  go_loopw [5, 11] (fun vt i wr => ∃ (k : Nat) (f' : Nat → Prop), k ≤ N ∧ i = .int .i64 (k : Int) ∧ Play w wr X f' vt (tookE (l.take k)) (rawE (l.take k))) (fun _ i _ => N - (intOf i).toNat)
  case atStart => exact ⟨0, f, Nat.zero_le _, rfl, P0.out⟩
  case round =>
    obtain ⟨k, f', hk, rfl, hp⟩ := hrel
    have HP := Lib.hid hp
    clear hp P0
    obtain ⟨A4, c4, rfl, -, -, ha4⟩ := HP.out.row.told len7
    have HA4 := Lib.hid ha4
    clear ha4
    by_cases hlt : k < N
    · have hkl : k < l.length := by rw [HN.out]; exact hlt
      have hki : (k : Int) < (N : Int) := by omega
      obtain ⟨b, rfl, p0, p1, p2, p3, p4, p5, p6⟩ := (HX.out.later HP.out.row.below).ev k hkl
      have HT := Lib.hid (took_take hkl)
      have HRW := Lib.hid (raw_take hkl)
      have HRL : Hid ((rawE (l.take k)).length ≤ 60) := Lib.hid (by have := raw_take_len l k; omega)
      have HTL : Hid ((tookE (l.take k)).length ≤ 1000) := Lib.hid (by have := took_take_len l k; omega)
      have HER := Lib.hid (raw_err' (l.take k) l[k])
      generalize l[k] = u at *
      generalize rawE (l.take k) = R at *
      generalize tookE (l.take k) = L at *
      have BA : Hid (Below wr.heap.size wr (wr.alloc (.cells #[.int .i64 u.T, .bool u.E, .int .i64 u.K, .int .i64 u.Y, .int .i64 u.C, .bool u.O, .int .i64 u.V] 64))) := Lib.hid ((Below.refl _ _).alloc (Nat.le_refl _) _)
      have B0 : Hid (Blk7 (wr.alloc (.cells #[.int .i64 u.T, .bool u.E, .int .i64 u.K, .int .i64 u.Y, .int .i64 u.C, .bool u.O, .int .i64 u.V] 64)) wr.heap.size u) := Lib.hid ⟨new_block _ _ _⟩
      have P1 := Lib.hid (HP.out.next BA.out)
      by_cases he : errE R u = 0
      · have HE := Lib.hid he
        obtain ⟨j0, hj, yz0, yz1, yz2⟩ := info_parts hist.Tryzinfo_rev
        have HJ := Lib.hid (And.intro hj (And.intro yz0 (And.intro yz1 yz2)))
        clear he hkl hj yz0 yz1 yz2
        obtain ⟨T, E, K, Y, C, O, V⟩ := u
        simp only at *
        cases E
        · go_wp2_with (first
            | (go_at_call 21; have _t := P3.out; go_loud (refine (begin_step _ X f' L P3.out.hst HTL.out ⟨T, false, K, Y, C, O, V⟩ rfl).mono ?_; rintro e w4 ⟨f4, rfl, hm, hw⟩; have P4 := Lib.hid (P3.out.step hm hw); clear hm hw))
            | (at_builtin; have _t := P2.out; go_loud (obtain ⟨v3, w3, hrun, hown, hgr, hat, -⟩ := append_row len7 (w2'.alloc (.cells #[.int .i64 T, .bool false, .int .i64 K, .int .i64 Y, .int .i64 C, .bool O, .int .i64 V] 64)) 22 22 64 j0 _ 56 Tryz.underlying22 HJ.out.1 HJ.out.2.1 HJ.out.2.2.1 HJ.out.2.2.2 rfl (by decide) _ R ⟨T, false, K, Y, C, O, V⟩ ((P2.out.next ((Below.refl _ _).alloc (Nat.le_refl _) _)).row.own) w2'.heap.size (new_cells w2' (cells7 0 ⟨T, false, K, Y, C, O, V⟩) _) (one7 _ _) (by have := HRL.out; unfold maxLen; omega) (by have := HRL.out; omega); have P3 := Lib.hid ((P2.out.next ((Below.refl _ _).alloc (Nat.le_refl _) (.cells #[.int .i64 T, .bool false, .int .i64 K, .int .i64 Y, .int .i64 C, .bool O, .int .i64 V] 64))).more hown hgr hat); have B3 := Lib.hid ((B2.out.below ((Below.refl _ _).alloc (Nat.le_refl _) _)).grown hgr (fun h => absurd (HP.out.row.own.lt h.symm) (Nat.lt_irrefl _))); obtain ⟨n0, n1, n2, n3, n4, n5, n6⟩ := B3.out.cells; refine wpList_known rfl (.tmp 19) (.tmp 21) 22 rfl _ _ v3 w3 rfl rfl hrun ?_; clear hrun hown hgr hat))
            | (go_at_call 25; go_loud (refine (error_ev _ A4 R R.length c4 rfl (by have := HRL.out; omega) (P1.out.row.own.at len7) ⟨T, false, K, Y, C, O, V⟩).mono ?_; rintro e w2' ⟨rfl, hb⟩; rw [HE.out]; have P2 := Lib.hid (P1.out.next hb); have B2 := Lib.hid (B0.out.below hb); obtain ⟨m0, m1, m2, m3, m4, m5, m6⟩ := B2.out.cells; clear hb)))
          go_roundw
          case rel => exact ⟨k + 1, f4, by omega, by go_num, by rw [HT.out, HRW.out, if_pos (HER.out ▸ HE.out)]; exact P4.out⟩
          case measure => simp [intOf]; omega
        · go_wp2_with (first
            | (go_at_call 22; have _t := P3.out; go_loud (refine (end_step _ X f' L P3.out.hst HTL.out ⟨T, true, K, Y, C, O, V⟩ rfl).mono ?_; rintro e w4 ⟨f4, rfl, hm, hw⟩; have P4 := Lib.hid (P3.out.step hm hw); clear hm hw))
            | (at_builtin; have _t := P2.out; go_loud (obtain ⟨v3, w3, hrun, hown, hgr, hat, -⟩ := append_row len7 (w2'.alloc (.cells #[.int .i64 T, .bool true, .int .i64 K, .int .i64 Y, .int .i64 C, .bool O, .int .i64 V] 64)) 22 22 64 j0 _ 56 Tryz.underlying22 HJ.out.1 HJ.out.2.1 HJ.out.2.2.1 HJ.out.2.2.2 rfl (by decide) _ R ⟨T, true, K, Y, C, O, V⟩ ((P2.out.next ((Below.refl _ _).alloc (Nat.le_refl _) _)).row.own) w2'.heap.size (new_cells w2' (cells7 0 ⟨T, true, K, Y, C, O, V⟩) _) (one7 _ _) (by have := HRL.out; unfold maxLen; omega) (by have := HRL.out; omega); have P3 := Lib.hid ((P2.out.next ((Below.refl _ _).alloc (Nat.le_refl _) (.cells #[.int .i64 T, .bool true, .int .i64 K, .int .i64 Y, .int .i64 C, .bool O, .int .i64 V] 64))).more hown hgr hat); have B3 := Lib.hid ((B2.out.below ((Below.refl _ _).alloc (Nat.le_refl _) _)).grown hgr (fun h => absurd (HP.out.row.own.lt h.symm) (Nat.lt_irrefl _))); obtain ⟨n0, n1, n2, n3, n4, n5, n6⟩ := B3.out.cells; refine wpList_known rfl (.tmp 19) (.tmp 21) 22 rfl _ _ v3 w3 rfl rfl hrun ?_; clear hrun hown hgr hat))
            | (go_at_call 25; go_loud (refine (error_ev _ A4 R R.length c4 rfl (by have := HRL.out; omega) (P1.out.row.own.at len7) ⟨T, true, K, Y, C, O, V⟩).mono ?_; rintro e w2' ⟨rfl, hb⟩; rw [HE.out]; have P2 := Lib.hid (P1.out.next hb); have B2 := Lib.hid (B0.out.below hb); obtain ⟨m0, m1, m2, m3, m4, m5, m6⟩ := B2.out.cells; clear hb)))
          go_roundw
          case rel => exact ⟨k + 1, f4, by omega, by go_num, by rw [HT.out, HRW.out, if_pos (HER.out ▸ HE.out)]; exact P4.out⟩
          case measure => simp [intOf]; omega
      · have HE : Hid ((errE R u != 0) = true) := Lib.hid (by simpa using he)
        have HEN := Lib.hid he
        clear he hkl
        generalize hx : errE R u = x at *
        have HXE := Lib.hid hx
        have hx1 := HE.out
        clear hx
        go_wp2_with (go_at_call 25; go_loud (refine (error_ev _ A4 R R.length c4 rfl (by have := HRL.out; omega) (P1.out.row.own.at len7) u).mono ?_; rintro e w2' ⟨rfl, hb⟩; rw [HXE.out]; have P2 := Lib.hid (P1.out.next hb); clear hb))
        go_roundw
        case rel => exact ⟨k + 1, f', by omega, by go_num, by rw [HT.out, HRW.out, if_neg HEN.out, step_no (by rw [← HER.out]; exact HEN.out)]; exact P2.out⟩
        case measure => simp [intOf]; omega
    · have hge : ¬ ((k : Int) < (N : Int)) := by omega
      have e : l.take k = l := List.take_of_length_le (by rw [HN.out]; omega)
      have HF : Hid (Play w wr X f' (.slice A4 (rawE (l.take k)).length c4) (tookE l) (rawE l)) := Lib.hid (by
        have h := HP.out
        rw [e] at h ⊢
        exact h)
      clear e
      go_wp2
      go_returns
      exact ⟨X, f', _, rfl, HF.out⟩
end Go.Proofs.YtmpilokgbblonaaGreat.lin
/- The document's example of orders. -/
namespace Go.Proofs.YtmpilokgbblonaaGreat.lin
open Go.RowKit
open hist (ClV EvV befB past new_block Went At cells7 cells9 len9 Blk9 Hst callsE of_any Told firstE bareE)
open spec (Rw Row)
def exA (v : Int) : List EvV := [⟨0, false, 4, 1, 0, false, 0⟩, ⟨1, false, 5, 0, 0, false, 0⟩, ⟨1, true, 0, 0, 0, true, v⟩]
def exL (v : Int) : List ClV := [⟨0, 0, -1, 4, 1, 0, false, 0⟩, ⟨1, 1, 2, 5, 0, 0, true, v⟩]
theorem ex_one : callsE ((exA 1).map bareE) = exL 1 := rfl
theorem ex_two : callsE ((exA 2).map bareE) = exL 2 := rfl
theorem ex_found1 {res : Option (List Nat)} (h : Found (sysOf 3 (exL 1)) [] res) : res = some [0, 1] := by
  rw [found_one h (least_found 2 [] ok_nil (by decide))]
  rfl
theorem ex_found2 {res : Option (List Nat)} (h : Found (sysOf 3 (exL 2)) [] res) : res = none := by
  rw [found_one h (least_found 2 [] ok_nil (by decide))]
  rfl
theorem ex_spans (v : Int) : Spans (exL v) := fun c hc => by
  unfold exL at hc
  simp at hc
  rcases hc with rfl | rfl <;> simp
theorem ex_order (w : World) (X : Nat) (f : Nat → Prop) (v : Int) (hv : v = 1 ∨ v = 2) (h : Hst w X f ((exA v).map bareE)) : Calls Tryz.prog 10 #[.int .i64 3, .pointer (some ⟨X, 0, none⟩)] w (OrdQ 3 (exL v) w) := by
  have hc : callsE ((exA v).map bareE) = exL v := by rcases hv with rfl | rfl <;> rfl
  have := order_any w X f _ h (by simp [exA]) (by rw [hc]; exact Nat.le_trans (Nat.le_of_eq (show (exL v).length = 2 from rfl)) (by decide)) 3 (by decide) (by rw [hc]; exact ex_spans v) (fun _ _ w1 w' t hns hsh => by
    rw [hc] at hns ⊢
    exact hopes_of_queue hns hsh (ex_spans v) 2 (fun g _ => cnt_len _ _) (fun g _ => cnt_len _ _) (small_budget 2 (by decide)).1)
  rw [hc] at this
  exact this
/-- The example's events as they came in. -/
abbrev exCells (v : Int) : Array Value := #[.int .i64 0, .bool false, .int .i64 4, .int .i64 1, .int .i64 0, .bool false, .int .i64 0, .int .i64 1, .bool false, .int .i64 5, .int .i64 0, .int .i64 0, .bool false, .int .i64 0, .int .i64 1, .bool true, .int .i64 0, .int .i64 0, .int .i64 0, .bool true, .int .i64 v]
theorem ex_at (w : World) (v : Int) : At cells7 7 (w.alloc (.cells (exCells v) 63)) (some ⟨w.heap.size, 0, none⟩) (exA v) := by
  have hb := new_block w (exCells v) 63
  intro i hi
  refine ⟨_, rfl, fun j u hu => ?_⟩
  rw [← hist.add_spelled, Addr.add_lit, Joins.cell_of_block hb]
  have hj : j < 7 := by have := (List.getElem?_eq_some_iff.1 hu).1; exact this
  have h3 : i < 3 := hi
  rw [← hu]
  match i, h3, j, hj with
  | 0, _, 0, _ => rfl
  | 0, _, 1, _ => rfl
  | 0, _, 2, _ => rfl
  | 0, _, 3, _ => rfl
  | 0, _, 4, _ => rfl
  | 0, _, 5, _ => rfl
  | 0, _, 6, _ => rfl
  | 1, _, 0, _ => rfl
  | 1, _, 1, _ => rfl
  | 1, _, 2, _ => rfl
  | 1, _, 3, _ => rfl
  | 1, _, 4, _ => rfl
  | 1, _, 5, _ => rfl
  | 1, _, 6, _ => rfl
  | 2, _, 0, _ => rfl
  | 2, _, 1, _ => rfl
  | 2, _, 2, _ => rfl
  | 2, _, 3, _ => rfl
  | 2, _, 4, _ => rfl
  | 2, _, 5, _ => rfl
  | 2, _, 6, _ => rfl
theorem ex_of (w : World) (v : Int) (hv : v = 1 ∨ v = 2) (a : Option Addr) (c : Nat) (h : At cells7 7 w a (exA v)) :
    Calls Tryz.prog 24 #[.slice a 3 c] w fun e w' => ∃ X f, e = .returned (.tuple #[.pointer (some ⟨X, 0, none⟩), .int .i64 0]) ∧ Hst w' X f ((exA v).map bareE) ∧ Below w.heap.size w w' := by
  have h0 : firstE [] (exA v) = 0 := by rcases hv with rfl | rfl <;> decide
  refine (of_any w a (exA v) 3 c rfl (by decide) h).mono ?_
  rintro e w' ⟨⟨_, X, f, h1, h2, _⟩ | ⟨h1, _⟩, hb⟩
  · exact ⟨X, f, h1, h2, hb⟩
  · exact absurd h0 h1
theorem two_row (w : World) : Rw (w.alloc (.cells #[.int .i64 0, .int .i64 1] 3)) w.heap.size (some ⟨w.heap.size, 0, none⟩) 2 [0, 1] := by
  refine Or.inr ⟨0, rfl, by simp, by decide, _, heap_alloc_new w _, by simp, fun j hj => ?_⟩
  match j, hj with
  | 0, _ => rfl
  | 1, _ => rfl
set_option maxRecDepth 100000 in
set_option maxHeartbeats 4000000 in
theorem awake_any (w : World) : Calls Tryz.prog 7 #[] w fun e w' => e = .returned (.bool true) ∧ Below w.heap.size w w' := by
  have HEX := Lib.hid ex_at
  go_enter Tryz.func7, Tryz.ntmps7
  go_wp2_with (first
    | (go_at_call 11; have _t := B5.out; go_loud (refine (linear_any _ X1 3 (exL 1) (ex_order _ X1 f1 1 (Or.inl rfl) (H3.out.below I5.out))).mono ?_; rintro e w6 ⟨res, rfl, hf, hb⟩; rw [ex_found1 hf]; have B6 := Lib.hid (past B5.out hb); clear hf hb))
    | (go_at_call 11; have _t := I4.out; go_loud (refine (linear_any _ X3 3 (exL 2) (ex_order _ X3 f3 2 (Or.inr rfl) (K3.out.below I4.out))).mono ?_; rintro e w5 ⟨res, rfl, hf, hb⟩; rw [ex_found2 hf]; have I5 := Lib.hid (past I4.out hb); have B5 := Lib.hid (past B4.out hb); clear hf hb))
    | (go_at_call 13; have _t := K3.out; go_loud (refine (spec.ints_any _ G2 c2 _ 2 A2 _ [0, 1] [0, 1] (R3.out.below ((Below.refl _ _).alloc (Nat.le_refl _) _)) (two_row _) (by decide) (by decide)).mono ?_; rw [decide_eq_true rfl]; rintro e w4 ⟨rfl, hw⟩; have I4 := Lib.hid (past ((Below.refl w3.heap.size w3).alloc (Nat.le_refl _) _) (spec.drewN_below hw)); have B4 := Lib.hid (past B3.out I4.out); clear hw))
    | (go_at_call 24; have _t := R2.out; go_loud (refine (ex_of _ 2 (Or.inr rfl) _ _ (HEX.out _ 2)).mono ?_; rintro e w3 ⟨X3, f3, rfl, hh, hb⟩; have K3 := Lib.hid hh; have H3 := Lib.hid (H2.out.below (past ((Below.refl _ _).alloc (Nat.le_refl _) _) hb)); have R3 := Lib.hid (R2.out.below (past ((Below.refl _ _).alloc (Nat.le_refl _) _) hb)); have B3 := Lib.hid (past B2.out (past ((Below.refl _ _).alloc (Nat.le_refl _) _) hb)); clear hh hb))
    | (go_at_call 10; have _t := H1.out; go_loud (refine (ex_order _ X1 f1 1 (Or.inl rfl) H1.out).mono ?_; rintro e w2 ⟨res, A2, c2, G2, rfl, hr, hf, hb⟩; have hres := ex_found1 hf; subst hres; have R2 : Hid (Rw w2 G2 A2 c2 [0, 1]) := Lib.hid hr; have H2 := Lib.hid (H1.out.below hb); have B2 := Lib.hid (past B1.out hb); clear hr hf hb))
    | (go_at_call 24; go_loud (refine (ex_of _ 1 (Or.inl rfl) _ _ (HEX.out _ 1)).mono ?_; rintro e w1 ⟨X1, f1, rfl, hh, hb⟩; have H1 := Lib.hid hh; have B1 := Lib.hid (past ((Below.refl w.heap.size w).alloc (Nat.le_refl _) _) hb); clear hh hb)))
  go_returns
  exact ⟨rfl, B6.out⟩
end Go.Proofs.YtmpilokgbblonaaGreat.lin
