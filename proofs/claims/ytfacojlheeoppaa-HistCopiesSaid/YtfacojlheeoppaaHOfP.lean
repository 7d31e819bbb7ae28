/- The history of events, or the first error. -/
import Derived.Test.YtfacojlheeoppaaHPlay
namespace Go.Proofs.Ytfacojlheeoppaa.hist
open Go.RowKit

/-- The first error, as a number. -/
def firstE : List EvV → List EvV → Int
  | _, [] => 0
  | t, v :: l => if errE t v = 0 then firstE (t ++ [bareE v]) l else errE t v
/-- What is reached behind the first k events, as long as each is right. -/
theorem first_take (l : List EvV) : ∀ (t : List EvV), firstE t l = 0 → ∀ k, k < l.length → ∀ v, l[k]? = some v → errE (t ++ (l.take k).map bareE) v = 0 := by
  induction l with
  | nil => intro t _ k hk; simp at hk
  | cons u l ih =>
    intro t h k hk v hv
    unfold firstE at h
    split at h
    · rename_i hu
      cases k with
      | zero =>
        obtain rfl : u = v := by simpa using hv
        simpa using hu
      | succ k =>
        have := ih (t ++ [bareE u]) h k (by simpa using hk) v (by simpa using hv)
        simpa using this
    · rename_i hu
      exact absurd h hu
/-- The state ahead of event k: no error so far. -/
def Right (l : List EvV) (k : Nat) : Prop := ∀ j v, j < k → l[j]? = some v → errE ((l.take j).map bareE) v = 0
theorem right_zero (l : List EvV) : Right l 0 := fun j v hj => absurd hj (by omega)
theorem right_next {l : List EvV} {k : Nat} {v : EvV} (h : Right l k) (hv : l[k]? = some v) (he : errE ((l.take k).map bareE) v = 0) : Right l (k + 1) := by
  intro j u hj hu
  by_cases hjk : j = k
  · subst hjk
    obtain rfl := Option.some.inj (hv.symm.trans hu)
    exact he
  · exact h j u (by omega) hu
theorem take_bare {l : List EvV} {k : Nat} (hk : k < l.length) : (l.take (k + 1)).map bareE = (l.take k).map bareE ++ [bareE l[k]] := by
  rw [List.take_succ_eq_append_getElem hk, List.map_append]
  rfl
theorem first_go (l : List EvV) : ∀ (n k : Nat), n = l.length - k → k ≤ l.length → Right l k → firstE [] l = firstE ((l.take k).map bareE) (l.drop k) := by
  intro n k
  induction k generalizing n with
  | zero => intro _ _ _; rfl
  | succ k ih =>
    intro hn hk hr
    have hk' : k < l.length := by omega
    rw [ih (l.length - k) rfl (by omega) (fun j v hj hv => hr j v (by omega) hv), List.drop_eq_getElem_cons hk', firstE, if_pos (hr k _ (by omega) (List.getElem?_eq_getElem hk')), take_bare hk']
/-- All right. -/
theorem first_all {l : List EvV} (h : Right l l.length) : firstE [] l = 0 := by
  rw [first_go l 0 l.length (by omega) (Nat.le_refl _) h, List.drop_length, firstE]
/-- The first one that is wrong. -/
theorem first_wrong {l : List EvV} {k : Nat} (hk : k < l.length) (h : Right l k) (he : errE ((l.take k).map bareE) l[k] ≠ 0) : firstE [] l = errE ((l.take k).map bareE) l[k] := by
  rw [first_go l (l.length - k) k rfl (by omega) h, List.drop_eq_getElem_cons hk, firstE, if_neg he]
theorem bare_map (l : List EvV) : BareE (l.map bareE) := by
  intro v hv
  obtain ⟨u, _, rfl⟩ := List.mem_map.1 hv
  exact bare_bare u
/-- What Of tells. -/
def Told (w : World) (l : List EvV) (e : Ending) (w' : World) : Prop :=
  (firstE [] l = 0 ∧ ∃ X f, e = .returned (.tuple #[.pointer (some ⟨X, 0, none⟩), .int .i64 0]) ∧ Hst w' X f (l.map bareE) ∧ ∀ b, f b → w.heap.size ≤ b) ∨ (firstE [] l ≠ 0 ∧ e = .returned (.tuple #[.pointer none, .int .i64 (firstE [] l)]))
def Of (w : World) (l : List EvV) (e : Ending) (w' : World) : Prop := Told w l e w' ∧ Below w.heap.size w w'
/-- A history being made of events, behind world W. -/
structure Made (W w : World) (X : Nat) (f : Nat → Prop) (L : List EvV) : Prop where
  hst : Hst w X f L
  foot : ∀ b, f b → W.heap.size ≤ b
  below : Below W.heap.size W w
theorem Made.next {W w w' : World} {X : Nat} {f : Nat → Prop} {L : List EvV} (h : Made W w X f L) (hb : Below w.heap.size w w') : Made W w' X f L := ⟨h.hst.below hb, h.foot, past h.below hb⟩
theorem Made.step {W w w' : World} {X : Nat} {f f' : Nat → Prop} {L L' : List EvV} (h : Made W w X f L) (hm : Hst w' X f' L') (hw : Went f f' w w') : Made W w' X f' L' := ⟨hm, hw.from h.below.size h.foot, hw.below h.below h.below.size h.foot⟩

set_option maxHeartbeats 2000000 in
/-- An event of the history's own kind. -/
theorem add_any (w : World) (X : Nat) (f : Nat → Prop) (l : List EvV) (h : Hst w X f l) (hl : l.length ≤ 1000) (v : EvV) :
    Calls Try.prog 29 #[.pointer (some ⟨X, 0, none⟩), evV v] w (Steps w X f l v) := by
  have HH := Lib.hid h
  have HL := Lib.hid hl
  clear h hl
  obtain ⟨T, E, K, Y, C, O, V⟩ := v
  unfold evV
  simp only
  cases E
  · have BA : Hid (Below w.heap.size w (w.alloc (.cells #[.int .i64 T, .bool false, .int .i64 K, .int .i64 Y, .int .i64 C, .bool O, .int .i64 V] 42))) := Lib.hid ((Below.refl _ _).alloc (Nat.le_refl _) _)
    go_enter Try.func29, Try.ntmps29
    go_wp2_with (go_at_call 11; go_loud (refine (begin_step _ X f l (HH.out.below BA.out) HL.out ⟨T, false, K, Y, C, O, V⟩ rfl).mono ?_; rintro e w1 ⟨f1, rfl, hm, hw⟩; have M1 := Lib.hid hm; have W1 := Lib.hid hw; clear hm hw))
    go_returns
    exact ⟨f1, rfl, M1.out, Went.ahead BA.out W1.out⟩
  · have BA : Hid (Below w.heap.size w (w.alloc (.cells #[.int .i64 T, .bool true, .int .i64 K, .int .i64 Y, .int .i64 C, .bool O, .int .i64 V] 42))) := Lib.hid ((Below.refl _ _).alloc (Nat.le_refl _) _)
    go_enter Try.func29, Try.ntmps29
    go_wp2_with (go_at_call 10; go_loud (refine (end_step _ X f l (HH.out.below BA.out) HL.out ⟨T, true, K, Y, C, O, V⟩ rfl).mono ?_; rintro e w1 ⟨f1, rfl, hm, hw⟩; have M1 := Lib.hid hm; have W1 := Lib.hid hw; clear hm hw))
    go_returns
    exact ⟨f1, rfl, M1.out, Went.ahead BA.out W1.out⟩

set_option maxRecDepth 100000 in
set_option maxHeartbeats 4000000 in
theorem of_any (w : World) (a : Option Addr) (l : List EvV) (N cap : Nat) (hN : l.length = N) (hl : N ≤ 60) (hx : At cells7 7 w a l) :
    Calls Try.prog 18 #[.slice a N cap] w (Of w l) := by
  have HX := Lib.hid hx
  have HN := Lib.hid hN
  have hl0 : (N : Int) ≤ 60 := by omega
  clear hx hN
  go_enter Try.func18, Try.ntmps18
  go_wp2_with (go_at_call 9; go_loud (refine (new_any _).mono ?_; rintro e w2 ⟨X, f, rfl, hm, hn, hb⟩; have P0 : Hid (Made w w2 X f []) := Lib.hid ⟨hm, hn, hb⟩; clear hm hn hb))
  go_loopw [11] (fun i wr => ∃ (k : Nat) (f' : Nat → Prop), k ≤ N ∧ i = .int .i64 (k : Int) ∧ Made w wr X f' ((l.take k).map bareE) ∧ Right l k) (fun i _ => N - (intOf i).toNat)
  case atStart => exact ⟨0, f, Nat.zero_le _, rfl, P0.out, right_zero l⟩
  case round =>
    clear P0
    obtain ⟨k, f1, hk, rfl, hp, hr⟩ := hrel
    have HP := Lib.hid hp
    have HR := Lib.hid hr
    clear hp hr
    by_cases hlt : k < N
    · have hkl : k < l.length := by rw [HN.out]; exact hlt
      have hki : (k : Int) < (N : Int) := by omega
      obtain ⟨b, rfl, p0, p1, p2, p3, p4, p5, p6⟩ := (HX.out.later HP.out.below).ev k hkl
      have hbl := World.block_lt_of_cell? wr _ p0
      have HT := Lib.hid (take_bare hkl)
      have HW := Lib.hid (first_wrong hkl HR.out)
      have HNX := Lib.hid (right_next HR.out (List.getElem?_eq_getElem hkl))
      have HL : Hid (((l.take k).map bareE).length ≤ 1000) := by show _ ≤ _; rw [List.length_map, List.length_take]; omega
      generalize (l.take k).map bareE = L at *
      generalize l[k] = u at *
      have BA : Hid (Below wr.heap.size wr (wr.alloc (.cells #[.int .i64 u.T, .bool u.E, .int .i64 u.K, .int .i64 u.Y, .int .i64 u.C, .bool u.O, .int .i64 u.V] 42))) := Lib.hid ((Below.refl _ _).alloc (Nat.le_refl _) _)
      obtain ⟨x, hxe⟩ : ∃ x, errE L u = x := ⟨_, rfl⟩
      have HE := Lib.hid hxe
      by_cases h0 : x = 0
      · subst h0
        have HS := Lib.hid (step_yes hxe)
        clear hxe
        go_wp2_with (go_at_call 29; go_loud (refine (add_any _ X f1 L (HP.out.next BA.out).hst HL.out u).mono ?_; rintro e w3 ⟨f2, rfl, hm, hw⟩; rw [HE.out]; have P3 := Lib.hid ((HP.out.next BA.out).step hm hw); clear hm hw))
        go_roundw
        case rel => exact ⟨k + 1, f2, by omega, by go_num, by rw [HT.out, ← HS.out]; exact P3.out, HNX.out HE.out⟩
        case measure => simp [intOf] <;> omega
      · have hx0 : (x == 0) = false := beq_eq_false_iff_ne.2 h0
        have HF : Hid (firstE [] l = x) := by show _ = _; rw [HW.out (by rw [hxe]; exact h0), hxe]
        have H0 := Lib.hid h0
        clear hxe h0
        go_wp2_with (go_at_call 29; go_loud (refine (add_any _ X f1 L (HP.out.next BA.out).hst HL.out u).mono ?_; rintro e w3 ⟨f2, rfl, hm, hw⟩; rw [HE.out]; have P3 := Lib.hid ((HP.out.next BA.out).step hm hw); clear hm hw))
        go_returns
        exact ⟨Or.inr ⟨by rw [HF.out]; exact H0.out, by rw [HF.out] <;> rfl⟩, P3.out.below⟩
    · obtain rfl : k = N := by omega
      have e : l.take k = l := by rw [← HN.out, List.take_length]
      rw [e] at HP
      have HF := Lib.hid (first_all (by rw [HN.out]; exact HR.out))
      go_wp2
      go_returns
      exact ⟨Or.inl ⟨HF.out, X, f1, rfl, HP.out.hst, HP.out.foot⟩, HP.out.below⟩
end Go.Proofs.Ytfacojlheeoppaa.hist
