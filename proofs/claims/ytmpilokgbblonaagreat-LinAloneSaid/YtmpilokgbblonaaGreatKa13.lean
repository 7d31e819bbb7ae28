/- sort.Find, walked: the first place whose item isn't less than the key; whether the key is there. -/
import Derived.Test.YtmpilokgbblonaaGreatKa12
namespace Go.Proofs.YtmpilokgbblonaaGreat.spec
open Go.RowKit task

/-- All items ahead of a place are less than a key, and all from it on aren't. -/
structure Place (L : List Int) (y : Int) (i : Nat) : Prop where
  le : i ≤ L.length
  less : ∀ k, k < i → L.getD k 0 < y
  more : ∀ k, i ≤ k → k < L.length → y ≤ L.getD k 0
theorem rise_get {L : List Int} (hp : L.Pairwise (· < ·)) {a b : Nat} (hab : a < b) (hb : b < L.length) : L.getD a 0 < L.getD b 0 := by
  rw [List.pairwise_iff_getElem] at hp
  have := hp a b (by omega) hb hab
  simpa [List.getD_eq_getElem?_getD, List.getElem?_eq_getElem hb, List.getElem?_eq_getElem (show a < L.length by omega)] using this
theorem cmp_sign (x y : Int) : (0 < Lib.compareInt x y ↔ y < x) ∧ (Lib.compareInt x y = 0 ↔ x = y) := by
  unfold Lib.compareInt
  split
  · omega
  · split <;> omega
theorem cmp_not {x y : Int} (h : ¬ x < y) : Lib.compareInt y x = 0 ∨ Lib.compareInt y x = -1 := by
  unfold Lib.compareInt
  by_cases h1 : y < x
  · rw [if_pos h1]; exact Or.inr rfl
  · rw [if_neg h1, if_neg (by omega)]; exact Or.inl rfl
theorem place_mem {L : List Int} {y : Int} {i : Nat} (hp : L.Pairwise (· < ·)) (h : Place L y i) : y ∈ L ↔ i < L.length ∧ L.getD i 0 = y := by
  constructor
  · intro hm
    obtain ⟨k, hk, he⟩ := List.getElem_of_mem hm
    have hg : L.getD k 0 = y := by simp [List.getD_eq_getElem?_getD, List.getElem?_eq_getElem hk, he]
    by_cases h1 : k < i
    · have := h.less k h1
      omega
    · by_cases h2 : k = i
      · subst h2; exact ⟨hk, hg⟩
      · have h3 := h.more i (Nat.le_refl _) (by omega)
        have h4 := rise_get hp (show i < k by omega) hk
        omega
  · rintro ⟨hi, hg⟩
    rw [← hg]
    simp [List.getD_eq_getElem?_getD, List.getElem?_eq_getElem hi]

set_option maxHeartbeats 1000000 in
theorem find_walk (w : World) (K P X : Nat) (y s : Int) (t : Parts) (hq : Ask w K P X y) (h : Two w X s t) (hl : t.items.length ≤ 1000) (hp : t.items.Pairwise (· < ·)) :
    Calls Tryz.prog 81 #[.int .i64 (t.items.length : Nat), .func (.func 83) #[] #[.pointer (some ⟨K, 0, none⟩), .pointer (some ⟨P, 0, none⟩)]] w fun e w' =>
      (∃ i : Nat, Place t.items y i ∧ e = .returned (.tuple #[.int .i64 i, .bool (decide (y ∈ t.items))])) ∧ ∃ n, w' = w.drewN n := by
  have H := Lib.hid h
  have HL := Lib.hid hl
  have HP := Lib.hid hp
  have HQ := Lib.hid hq
  clear h hp hq
  generalize hN : t.items.length = N at *
  have HN := Lib.hid hN
  clear hN
  go_enter Tryz.func81, Tryz.ntmps81
  go_wp2
  go_loopw [4, 6] (fun i j wr => ∃ a b n : Nat, a ≤ b ∧ b ≤ N ∧ i = .int .i64 a ∧ j = .int .i64 b ∧ wr = w.drewN n ∧ (∀ k, k < a → t.items.getD k 0 < y) ∧ (∀ k, b ≤ k → k < N → y ≤ t.items.getD k 0)) (fun i j _ => (intOf j - intOf i).toNat)
  case atStart => exact ⟨0, N, 0, by omega, Nat.le_refl _, rfl, rfl, rfl, fun k hk => absurd hk (by omega), fun k h1 h2 => absurd h2 (by omega)⟩
  case round =>
    obtain ⟨a, b, n, hab, hbN, rfl, rfl, rfl, hless, hmore⟩ := hrel
    have HLS := Lib.hid hless
    have HMR := Lib.hid hmore
    clear hless hmore
    by_cases hlt : a < b
    · obtain ⟨m, hm⟩ : ∃ m : Nat, m = (a + b) / 2 := ⟨_, rfl⟩
      have hmi : ((a : Int) + (b : Int)) / 2 = (m : Int) := by omega
      have hmN : m < t.items.length := by have := HN.out; omega
      have hma : a ≤ m := by omega
      have hmb : m < b := by omega
      clear hm
      by_cases hy : t.items.getD m 0 < y
      · have hcmp : Lib.compareInt y (t.items.getD m 0) = 1 := by unfold Lib.compareInt; rw [if_neg (by omega), if_pos (by omega)]
        have HC := Lib.hid hcmp
        have HY := Lib.hid hy
        have HM := Lib.hid hmN
        clear hcmp hy hmN
        go_wp2_with (go_at_call 83; refine (cmp_any _ K P X y s t (HQ.out.drewN _) (H.out.drewN _) (by rw [HN.out]; exact HL.out) m _ (by omega) HM.out).mono ?_; rw [HC.out]; rintro e w1 ⟨rfl, n1, rfl⟩)
        go_roundw
        case rel => exact ⟨m + 1, b, n + n1, by omega, by omega, by go_num, rfl, rfl, fun k hk => by
          by_cases hkm : k = m
          · subst hkm; exact HY.out
          · exact Int.lt_trans (rise_get HP.out (show k < m by omega) HM.out) HY.out, HMR.out⟩
        case measure => simp [intOf]; omega
      · have hcmp : Lib.compareInt y (t.items.getD m 0) = 0 ∨ Lib.compareInt y (t.items.getD m 0) = -1 := cmp_not hy
        have HY := Lib.hid hy
        have HM := Lib.hid hmN
        clear hy hmN
        rcases hcmp with hcmp | hcmp
        all_goals
          have HC := Lib.hid hcmp
          clear hcmp
          go_wp2_with (go_at_call 83; refine (cmp_any _ K P X y s t (HQ.out.drewN _) (H.out.drewN _) (by rw [HN.out]; exact HL.out) m _ (by omega) HM.out).mono ?_; rw [HC.out]; rintro e w1 ⟨rfl, n1, rfl⟩)
          go_roundw
          case rel => exact ⟨a, m, n + n1, hma, by omega, rfl, rfl, rfl, HLS.out, fun k hk hkN => by
            have hY := HY.out
            by_cases hkm : k = m
            · subst hkm; omega
            · have := rise_get HP.out (show m < k by omega) (by have := HN.out; omega)
              omega⟩
          case measure => simp [intOf]; omega
    · have hab2 : b = a := by omega
      subst hab2
      have HPL : Hid (Place t.items y b) := ⟨by have := HN.out; omega, HLS.out, fun k h1 h2 => HMR.out k h1 (by have := HN.out; omega)⟩
      have HME := Lib.hid (place_mem HP.out HPL.out)
      by_cases hbN2 : b < N
      · have hbl : b < t.items.length := by have := HN.out; omega
        by_cases hy : t.items.getD b 0 = y
        · have hcmp : Lib.compareInt y (t.items.getD b 0) = 0 := by rw [hy]; unfold Lib.compareInt; rw [if_neg (by omega), if_neg (by omega)]
          have HD : Hid (decide (y ∈ t.items) = true) := decide_eq_true (HME.out.2 ⟨hbl, hy⟩)
          have HC := Lib.hid hcmp
          have HM := Lib.hid hbl
          clear hcmp hbl hy
          go_wp2_with (go_at_call 83; refine (cmp_any _ K P X y s t (HQ.out.drewN _) (H.out.drewN _) (by rw [HN.out]; exact HL.out) b _ rfl HM.out).mono ?_; rw [HC.out]; rintro e w1 ⟨rfl, n1, rfl⟩)
          go_returns
          exact ⟨⟨b, HPL.out, by rw [HD.out] <;> rfl⟩, n + n1, rfl⟩
        · have hcmp : Lib.compareInt y (t.items.getD b 0) = -1 := by
            have := HPL.out.more b (Nat.le_refl _) hbl
            unfold Lib.compareInt
            rw [if_pos (by omega)]
          have HD : Hid (decide (y ∈ t.items) = false) := decide_eq_false (fun h => hy (HME.out.1 h).2)
          have HC := Lib.hid hcmp
          have HM := Lib.hid hbl
          clear hcmp hbl hy
          go_wp2_with (go_at_call 83; refine (cmp_any _ K P X y s t (HQ.out.drewN _) (H.out.drewN _) (by rw [HN.out]; exact HL.out) b _ rfl HM.out).mono ?_; rw [HC.out]; rintro e w1 ⟨rfl, n1, rfl⟩)
          go_returns
          exact ⟨⟨b, HPL.out, by rw [HD.out] <;> rfl⟩, n + n1, rfl⟩
      · have HD : Hid (decide (y ∈ t.items) = false) := decide_eq_false (fun h => by have := (HME.out.1 h).1; have := HN.out; omega)
        go_wp2
        go_returns
        exact ⟨⟨b, HPL.out, by rw [HD.out] <;> rfl⟩, n, rfl⟩
end Go.Proofs.YtmpilokgbblonaaGreat.spec
/- A key's place is found; a key is put in, an item is taken out. -/
namespace Go.Proofs.YtmpilokgbblonaaGreat.spec
open Go.RowKit task

theorem Two.alloc {w : World} {X : Nat} {s : Int} {t : Parts} (h : Two w X s t) (o : Obj) : Two (w.alloc o) X s t := h.below ((Below.refl _ _).alloc (Nat.le_refl _) o)

/-- The blocks of a meaning. -/
def Parts.own (t : Parts) (X : Nat) : Nat → Prop := fun b => b = X ∨ b = t.p ∨ b = t.q
theorem Two.keptA {w w2 : World} {X : Nat} {s : Int} {t : Parts} {F : Nat → Prop} (h : Two w X s t) (hw : Went (fun b => t.A ≠ none ∧ b = t.p) F w w2) : w2.cell? ⟨X, 0, none⟩ = some (.slice t.A t.us.length t.ca) ∧ w2.frozen? ⟨X, 0, none⟩ = false := by
  have hb := (hw.block X h.lt fun hx => h.pX hx.1 hx.2.symm).trans h.box
  exact ⟨by rw [Joins.cell_of_block hb]; rfl, Joins.unfrozen_of_block hb 0⟩
theorem Two.keptB {w w2 : World} {X : Nat} {s : Int} {t : Parts} {F : Nat → Prop} (h : Two w X s t) (hw : Went (fun b => t.B ≠ none ∧ b = t.q) F w w2) : w2.cell? ⟨X, 1, none⟩ = some (.slice t.B t.vs.length t.cb) ∧ w2.frozen? ⟨X, 1, none⟩ = false := by
  have hb := (hw.block X h.lt fun hx => h.qX hx.1 hx.2.symm).trans h.box
  exact ⟨by rw [Joins.cell_of_block hb]; rfl, Joins.unfrozen_of_block hb 1⟩
theorem Two.putA {w w2 : World} {X : Nat} {s : Int} {t : Parts} (h : Two w X s t) {g c : Nat} {A : Option Addr} {us : List Int} (hr : Rw w2 g A c us) (hA : A ≠ none) (hw : Went (fun b => t.A ≠ none ∧ b = t.p) (fun b => b = g) w w2) :
    Two (w2.setCell ⟨X, 0, none⟩ (.slice A us.length c)) X s ⟨g, t.q, A, t.B, c, t.cb, us, t.vs⟩ ∧ Went (t.own X) (Parts.own ⟨g, t.q, A, t.B, c, t.cb, us, t.vs⟩ X) w (w2.setCell ⟨X, 0, none⟩ (.slice A us.length c)) ∧ g < w2.heap.size := by
  have hX : w2.heap[X]? = w.heap[X]? := hw.block X h.lt fun hx => h.pX hx.1 hx.2.symm
  have hb2 := hX.trans h.box
  obtain ⟨k, hk⟩ := hr.kind hA
  have hgX := shape_ne hb2 hk
  have hqw : t.B ≠ none → w2.heap[t.q]? = w.heap[t.q]? := fun hB => hw.block _ (h.b.lt hB) fun hx => h.ne hx.1 hB hx.2.symm
  refine ⟨⟨Joins.block_setCell (i := 0) hb2 _, hr.moved fun _ => Below.heap_setCell _ _ _ _ hgX, h.b.moved fun hB => (Below.heap_setCell _ _ _ _ (h.qX hB)).trans (hqw hB), fun _ hB => ?_⟩, ?_, hr.lt hA⟩
  · rcases hw.more g rfl with hx | hx
    · show g ≠ t.q
      rw [hx.2]
      exact h.ne hx.1 hB
    · have := h.b.lt hB
      show g ≠ t.q
      omega
  · refine ⟨hw.os, hw.tape, hw.output, by simpa using hw.size, fun b hb hf => ?_, fun b hb => ?_⟩
    · rw [Below.heap_setCell _ _ _ _ (fun e => hf (Or.inl e))]
      exact hw.block b hb fun hx => hf (Or.inr (Or.inl hx.2))
    · rcases hb with rfl | rfl | rfl
      · exact Or.inl (Or.inl rfl)
      · rcases hw.more b rfl with hx | hx
        · exact Or.inl (Or.inr (Or.inl hx.2))
        · exact Or.inr hx
      · exact Or.inl (Or.inr (Or.inr rfl))
theorem Two.putB {w w2 : World} {X : Nat} {s : Int} {t : Parts} (h : Two w X s t) {g c : Nat} {B : Option Addr} {vs : List Int} (hr : Rw w2 g B c vs) (hB : B ≠ none) (hw : Went (fun b => t.B ≠ none ∧ b = t.q) (fun b => b = g) w w2) :
    Two (w2.setCell ⟨X, 1, none⟩ (.slice B vs.length c)) X s ⟨t.p, g, t.A, B, t.ca, c, t.us, vs⟩ ∧ Went (t.own X) (Parts.own ⟨t.p, g, t.A, B, t.ca, c, t.us, vs⟩ X) w (w2.setCell ⟨X, 1, none⟩ (.slice B vs.length c)) ∧ g < w2.heap.size := by
  have hX : w2.heap[X]? = w.heap[X]? := hw.block X h.lt fun hx => h.qX hx.1 hx.2.symm
  have hb2 := hX.trans h.box
  obtain ⟨k, hk⟩ := hr.kind hB
  have hgX := shape_ne hb2 hk
  have hpw : t.A ≠ none → w2.heap[t.p]? = w.heap[t.p]? := fun hA => hw.block _ (h.a.lt hA) fun hx => h.ne hA hx.1 hx.2
  refine ⟨⟨Joins.block_setCell (i := 1) hb2 _, h.a.moved fun hA => (Below.heap_setCell _ _ _ _ (h.pX hA)).trans (hpw hA), hr.moved fun _ => Below.heap_setCell _ _ _ _ hgX, fun hA _ => ?_⟩, ?_, hr.lt hB⟩
  · rcases hw.more g rfl with hx | hx
    · show t.p ≠ g
      rw [hx.2]
      exact h.ne hA hx.1
    · have := h.a.lt hA
      show t.p ≠ g
      omega
  · refine ⟨hw.os, hw.tape, hw.output, by simpa using hw.size, fun b hb hf => ?_, fun b hb => ?_⟩
    · rw [Below.heap_setCell _ _ _ _ (fun e => hf (Or.inl e))]
      exact hw.block b hb fun hx => hf (Or.inr (Or.inr hx.2))
    · rcases hb with rfl | rfl | rfl
      · exact Or.inl (Or.inl rfl)
      · exact Or.inl (Or.inr (Or.inl rfl))
      · rcases hw.more b rfl with hx | hx
        · exact Or.inl (Or.inr (Or.inr hx.2))
        · exact Or.inr hx
/-- A meaning behind a call: its items; nothing but it has changed. -/
def Moved (w : World) (X : Nat) (s : Int) (t : Parts) (L : List Int) (w' : World) : Prop := ∃ t' : Parts, Two w' X s t' ∧ t'.items = L ∧ Went (t.own X) (t'.own X) w w' ∧ (t'.p = t.p ∨ t'.p < w'.heap.size) ∧ (t'.q = t.q ∨ t'.q < w'.heap.size)
theorem Mean.after {w w' : World} {X : Nat} {f : Nat → Prop} {s : Int} {L : List Int} {t : Parts} (hf : f X ∧ f t.p ∧ f t.q ∧ ∀ b, f b → b < w.heap.size) (hm : Moved w X s t L w') : ∃ f', Mean w' X f' s L ∧ Went f f' w w' := by
  obtain ⟨f1, f2, f3, f4⟩ := hf
  obtain ⟨t', h1, h2, h3, h4, h5⟩ := hm
  refine ⟨fun b => f b ∨ t'.own X b, ⟨t', h1, h2, Or.inl f1, Or.inr (Or.inr (Or.inl rfl)), Or.inr (Or.inr (Or.inr rfl)), fun b hb => ?_⟩, h3.weak (fun b hb => ?_) fun b hb => ?_⟩
  · rcases hb with hb | rfl | rfl | rfl
    · exact Nat.lt_of_lt_of_le (f4 b hb) h3.size
    · exact h1.lt
    · rcases h4 with h4 | h4
      · rw [h4]; exact Nat.lt_of_lt_of_le (f4 _ f2) h3.size
      · exact h4
    · rcases h5 with h5 | h5
      · rw [h5]; exact Nat.lt_of_lt_of_le (f4 _ f3) h3.size
      · exact h5
  · rcases hb with rfl | rfl | rfl
    · exact f1
    · exact f2
    · exact f3
  · rcases hb with hb | hb
    · exact Or.inl hb
    · rcases h3.more b hb with hb | hb
      · rcases hb with rfl | rfl | rfl
        · exact Or.inl f1
        · exact Or.inl f2
        · exact Or.inl f3
      · exact Or.inr hb

theorem ins_ahead (us vs : List Int) (k : Nat) (y : Int) (hk : k ≤ us.length) : (insL (us.length - k) y us).reverse ++ vs = insL k y (us.reverse ++ vs) := by
  unfold insL
  rw [List.take_append_of_le_length (by simpa using hk), List.drop_append_of_le_length (by simpa using hk), List.reverse_append, List.reverse_cons, List.take_reverse, List.drop_reverse]
  simp
theorem take_behind (us vs : List Int) (k : Nat) (hk : us.length ≤ k) : (us.reverse ++ vs).take k = us.reverse ++ vs.take (k - us.length) := by
  have hl : us.reverse.length = us.length := by simp
  rw [List.take_append, hl, List.take_of_length_le (l := us.reverse) (by omega)]
theorem drop_behind (us vs : List Int) (k : Nat) (hk : us.length ≤ k) : (us.reverse ++ vs).drop k = vs.drop (k - us.length) := by
  have hl : us.reverse.length = us.length := by simp
  have hd : us.reverse.drop k = [] := List.drop_eq_nil_of_le (by omega)
  rw [List.drop_append, hl, hd, List.nil_append]
theorem ins_behind (us vs : List Int) (k : Nat) (y : Int) (hk : us.length ≤ k) : us.reverse ++ insL (k - us.length) y vs = insL k y (us.reverse ++ vs) := by
  unfold insL
  rw [take_behind us vs k hk, drop_behind us vs k hk]
  simp
theorem del_ahead (us vs : List Int) (k : Nat) (hk : k < us.length) : (delL (us.length - 1 - k) us).reverse ++ vs = delL k (us.reverse ++ vs) := by
  unfold delL
  rw [List.take_append_of_le_length (by simp; omega), List.drop_append_of_le_length (by simp; omega), List.reverse_append, List.take_reverse, List.drop_reverse, show us.length - 1 - k + 1 = us.length - k by omega, show us.length - (k + 1) = us.length - 1 - k by omega]
  simp
theorem del_behind (us vs : List Int) (k : Nat) (hk : us.length ≤ k) : us.reverse ++ delL (k - us.length) vs = delL k (us.reverse ++ vs) := by
  unfold delL
  rw [take_behind us vs k hk, drop_behind us vs (k + 1) (by omega), show k + 1 - us.length = k - us.length + 1 by omega]
  simp

theorem new_block (w : World) (cs : Array Value) (T : TypeId) : (w.alloc (.cells cs T)).heap[w.heap.size]? = some (.cells cs T (0, 0)) := heap_alloc_new w _

set_option maxHeartbeats 1000000 in
theorem find_any (w : World) (X : Nat) (y s : Int) (t : Parts) (h : Two w X s t) (hl : t.items.length ≤ 1000) (hp : t.items.Pairwise (· < ·)) :
    Calls Tryz.prog 72 #[.pointer (some ⟨X, 0, none⟩), .int .i64 y] w fun e w' =>
      (∃ i : Nat, Place t.items y i ∧ e = .returned (.tuple #[.int .i64 i, .bool (decide (y ∈ t.items))])) ∧ Below w.heap.size w w' := by
  have H := Lib.hid h
  have HL := Lib.hid hl
  have HP := Lib.hid hp
  have hX := h.lt
  clear h hl hp
  go_enter Tryz.func72, Tryz.ntmps72
  go_wp2_with (first
    | (go_at_call 82; refine (len_any _ X s t ((H.out.alloc _).alloc _) HL.out).mono ?_; rintro e w1 ⟨rfl, n, rfl⟩)
    | (go_at_call 81; refine (find_walk _ (w.heap.size + 1) w.heap.size X y s t ⟨by go_simp, by go_simp⟩ (((H.out.alloc _).alloc _).drewN _) HL.out HP.out).mono ?_; rintro e w2 ⟨⟨i, hi, rfl⟩, n2, rfl⟩; have HI := Lib.hid hi; clear hi))
  go_returns
  exact ⟨⟨i, HI.out, rfl⟩, below_drewN (((Below.refl _ _).alloc (Nat.le_refl _) _).alloc (by simp) _) _⟩

set_option maxRecDepth 100000 in
set_option maxHeartbeats 1000000 in
theorem put_any (w : World) (X : Nat) (y s : Int) (t : Parts) (h : Two w X s t) (hl : t.items.length ≤ 999) (k : Nat) (z : Int) (hz : z = (k : Int)) (hk : k ≤ t.items.length) :
    Calls Tryz.prog 73 #[.pointer (some ⟨X, 0, none⟩), .int .i64 z, .int .i64 y] w fun e w' => e = .returned (.tuple #[]) ∧ Moved w X s t (insL k y t.items) w' := by
  subst hz
  have c0 := h.c0
  have c1 := h.c1
  have hX := h.lt
  have H := Lib.hid h
  clear h
  obtain ⟨p, q, A, B, ca, cb, us, vs⟩ := t
  rw [Parts.items_len] at hl hk
  simp only at *
  by_cases hlt : k = 0 ∨ k < us.length
  · have hku : k ≤ us.length := by omega
    have HI := Lib.hid (ins_ahead us vs k y hku)
    have hi : (us.length : Int) - (k : Int) = ((us.length - k : Nat) : Int) := by omega
    have HL : Hid (us.length - k ≤ us.length) := by show _ ≤ _; omega
    have HN : Hid (us.length ≤ 1000) := by show _ ≤ _; omega
    have h0 : ((k : Int) == 0) = true ∨ (((k : Int) == 0) = false ∧ (k : Int) < (us.length : Int)) := by
      rcases hlt with h | h
      · exact Or.inl (beq_iff_eq.2 (by omega))
      · by_cases h1 : (k : Int) = 0
        · exact Or.inl (beq_iff_eq.2 h1)
        · exact Or.inr ⟨beq_eq_false_iff_ne.2 h1, by omega⟩
    clear hlt
    generalize hz : (k : Int) = z at *
    have HZ := Lib.hid hz
    have hlu : us.length - k ≤ us.length := by omega
    have HJ := Lib.hid hi
    have z0 : 0 ≤ z := by omega
    have z1 : z ≤ (us.length : Int) := by omega
    have z2 : (us.length : Int) ≤ 1000 := by omega
    clear hz hk hl hi
    rcases h0 with h0 | ⟨h0, h1⟩
    all_goals
      go_enter Tryz.func73, Tryz.ntmps73
      go_wp2_with (go_at_call 86; refine (insert_any _ p ca A us (us.length - k) y _ w.heap.size ((H.out.a.below ((Below.refl _ _).alloc (Nat.le_refl _) _))) HJ.out HL.out HN.out (new_block _ _ _) (fun hA => by have := H.out.a.lt hA; simp only at this; omega)).mono ?_; rintro e w2 ⟨g', A', c', rfl, hr, hA', hw⟩; have R := Lib.hid (H.out.putA hr hA' (Went.ahead ((Below.refl _ _).alloc (Nat.le_refl _) _) hw)); obtain ⟨d0, d1⟩ := H.out.keptA (Went.ahead ((Below.refl _ _).alloc (Nat.le_refl _) _) hw); clear hr hA' hw)
      go_returns
      have r := R.out
      rw [insL_len HL.out] at r
      exact ⟨rfl, _, r.1, HI.out, r.2.1, Or.inr (by simpa using r.2.2), Or.inl rfl⟩
  · have hku : us.length ≤ k := by omega
    have hkl : k - us.length ≤ vs.length := by omega
    have HI := Lib.hid (ins_behind us vs k y hku)
    have HJ : Hid ((k : Int) - (us.length : Int) = ((k - us.length : Nat) : Int)) := by show _ = _; omega
    have HL := Lib.hid hkl
    have HN : Hid (vs.length ≤ 1000) := by show _ ≤ _; omega
    have h0 : ((k : Int) == 0) = false := beq_eq_false_iff_ne.2 (by omega)
    generalize hz : (k : Int) = z at *
    have z0 : 0 ≤ z := by omega
    have z1 : ¬ z < (us.length : Int) := by omega
    have z2 : z ≤ 1000 := by omega
    clear hz hk hl hku hlt hkl
    go_enter Tryz.func73, Tryz.ntmps73
    go_wp2_with (go_at_call 86; refine (insert_any _ q cb B vs (k - us.length) y _ w.heap.size ((H.out.b.below ((Below.refl _ _).alloc (Nat.le_refl _) _))) HJ.out HL.out HN.out (new_block _ _ _) (fun hB => by have := H.out.b.lt hB; simp only at this; omega)).mono ?_; rintro e w2 ⟨g', A', c', rfl, hr, hA', hw⟩; have R := Lib.hid (H.out.putB hr hA' (Went.ahead ((Below.refl _ _).alloc (Nat.le_refl _) _) hw)); obtain ⟨d0, d1⟩ := H.out.keptB (Went.ahead ((Below.refl _ _).alloc (Nat.le_refl _) _) hw); clear hr hA' hw)
    go_returns
    have r := R.out
    rw [insL_len HL.out] at r
    exact ⟨rfl, _, r.1, HI.out, r.2.1, Or.inl rfl, Or.inr (by simpa using r.2.2)⟩

theorem Row.tail {w : World} {g o c : Nat} {x : Int} {xs : List Int} (h : Row w g o c (x :: xs)) : Row w g (o + 1) (c - 1) xs := by
  have hl := h.len
  have hb := h.big
  simp at hl
  obtain ⟨cur, h1, h2, h3⟩ := h.blk
  refine ⟨by omega, by omega, cur, h1, by omega, fun j hj => ?_⟩
  have := h3 (j + 1) (by simpa using hj)
  rw [show o + 1 + j = o + (j + 1) by omega, this]
  rfl
theorem Row.empty {w : World} {g o c : Nat} {xs : List Int} (h : Row w g o c xs) : Row w g o 0 [] := by
  have hb := h.big
  obtain ⟨cur, h1, h2, h3⟩ := h.blk
  exact ⟨Nat.le_refl _, by omega, cur, h1, by omega, fun j hj => absurd hj (by simp)⟩

set_option maxRecDepth 100000 in
set_option maxHeartbeats 1000000 in
theorem drop_any (w : World) (X : Nat) (s : Int) (t : Parts) (h : Two w X s t) (hl : t.items.length ≤ 1000) (k : Nat) (z : Int) (hz : z = (k : Int)) (hk : k < t.items.length) :
    Calls Tryz.prog 80 #[.pointer (some ⟨X, 0, none⟩), .int .i64 z] w fun e w' => e = .returned (.tuple #[]) ∧ Moved w X s t (delL k t.items) w' := by
  subst hz
  have c0 := h.c0
  have c1 := h.c1
  have hX := h.lt
  have H := Lib.hid h
  clear h
  obtain ⟨p, q, A, B, ca, cb, us, vs⟩ := t
  rw [Parts.items_len] at hl hk
  simp only at *
  by_cases hlt : k < us.length
  · have HI := Lib.hid (del_ahead us vs k hlt)
    have HJ : Hid ((us.length : Int) - 1 - (k : Int) = ((us.length - 1 - k : Nat) : Int)) := by show _ = _; omega
    have HJ2 : Hid ((us.length : Int) - (k : Int) = ((us.length - 1 - k + 1 : Nat) : Int)) := by show _ = _; omega
    have HL : Hid (us.length - 1 - k < us.length) := by show _ < _; omega
    have HA : Hid (A ≠ none) := by
      intro hA
      rcases H.out.a with ⟨_, _, h⟩ | ⟨o, h, _⟩
      · simp only at h; subst h; simp at hlt
      · simp only at h; rw [hA] at h; simp at h
    generalize hz : (k : Int) = z at *
    have z0 : 0 ≤ z := by omega
    have z1 : z < (us.length : Int) := by omega
    have z2 : (us.length : Int) ≤ 1000 := by omega
    clear hz hk hl hlt
    go_enter Tryz.func80, Tryz.ntmps80
    go_wp2_with (go_at_call 94; refine (delete_any _ p ca A us (us.length - 1 - k) _ _ H.out.a HJ.out HJ2.out HL.out).mono ?_; rintro e w2 ⟨rfl, hr, hw⟩; have R := Lib.hid (H.out.putA hr HA.out (Went.own HA.out hw)); obtain ⟨d0, d1⟩ := H.out.keptA hw; clear hr hw)
    go_returns
    have r := R.out
    rw [delL_len HL.out] at r
    exact ⟨rfl, _, r.1, HI.out, r.2.1, Or.inr (by simpa using r.2.2), Or.inl rfl⟩
  · have hku : us.length ≤ k := by omega
    have HI := Lib.hid (del_behind us vs k hku)
    have HL : Hid (k - us.length < vs.length) := by show _ < _; omega
    have HB : Hid (B ≠ none) := by
      intro hB
      rcases H.out.b with ⟨_, _, h⟩ | ⟨o, h, _⟩
      · simp only at h; subst h; simp at hk; omega
      · simp only at h; rw [hB] at h; simp at h
    by_cases he : k = us.length
    · subst he
      cases vs with
      | nil => simp at hk
      | cons x vs =>
        rcases H.out.b with ⟨h, _⟩ | ⟨o, hB, hr⟩
        · exact absurd h HB.out
        simp only at hB hr
        subst hB
        have hlen := hr.len
        have hbig := hr.big
        have z1 : ¬ (us.length : Int) < (us.length : Int) := by omega
        have hvl : ((x :: vs).length : Int) = (vs.length : Int) + 1 := by simp
        simp only [List.length_cons] at c1 hlen
        by_cases hc1 : cb = 1
        · subst hc1
          have hv0 : vs = [] := List.eq_nil_of_length_eq_zero (by omega)
          subst hv0
          clear hk hl hku hlen hbig hvl
          have R := Lib.hid (H.out.putB (g := q) (c := 0) (B := some ⟨q, o, none⟩) (vs := []) (Or.inr ⟨o, rfl, hr.empty⟩) (by simp) ⟨rfl, rfl, rfl, Nat.le_refl _, fun _ _ _ => rfl, fun b hb => Or.inl ⟨HB.out, hb⟩⟩)
          have d1 := H.out.free 1
          clear hr
          go_enter Tryz.func80, Tryz.ntmps80
          go_wp2
          go_returns
          have r := R.out
          exact ⟨rfl, _, r.1, ((show us.reverse ++ [] = us.reverse ++ delL (us.length - us.length) [x] by rw [Nat.sub_self]; rfl).trans HI.out), r.2.1, Or.inl rfl, Or.inr (by simpa using r.2.2)⟩
        · clear hk hl hku hvl
          have R := Lib.hid (H.out.putB (g := q) (c := cb - 1) (B := some ⟨q, o + 1, none⟩) (vs := vs) (Or.inr ⟨o + 1, rfl, hr.tail⟩) (by simp) ⟨rfl, rfl, rfl, Nat.le_refl _, fun _ _ _ => rfl, fun b hb => Or.inl ⟨HB.out, hb⟩⟩)
          have d1 := H.out.free 1
          clear hr
          go_enter Tryz.func80, Tryz.ntmps80
          go_wp2
          go_returns
          have r := R.out
          exact ⟨rfl, _, r.1, ((show us.reverse ++ vs = us.reverse ++ delL (us.length - us.length) (x :: vs) by rw [Nat.sub_self]; rfl).trans HI.out), r.2.1, Or.inl rfl, Or.inr (by simpa using r.2.2)⟩
    · have HJ : Hid ((k : Int) - (us.length : Int) = ((k - us.length : Nat) : Int)) := by show _ = _; omega
      have HJ2 : Hid ((k : Int) - (us.length : Int) + 1 = ((k - us.length + 1 : Nat) : Int)) := by show _ = _; omega
      generalize hz : (k : Int) = z at *
      have z0 : 0 ≤ z := by omega
      have z1 : ¬ z < (us.length : Int) := by omega
      have z2 : z ≤ 1000 := by omega
      have z3 : (z == (us.length : Int)) = false := beq_eq_false_iff_ne.2 (by omega)
      clear hz hk hl hlt hku he
      go_enter Tryz.func80, Tryz.ntmps80
      go_wp2_with (go_at_call 94; refine (delete_any _ q cb B vs (k - us.length) _ _ H.out.b HJ.out HJ2.out HL.out).mono ?_; rintro e w2 ⟨rfl, hr, hw⟩; have R := Lib.hid (H.out.putB hr HB.out (Went.own HB.out hw)); obtain ⟨d0, d1⟩ := H.out.keptB hw; clear hr hw)
      go_returns
      have r := R.out
      rw [delL_len HL.out] at r
      exact ⟨rfl, _, r.1, HI.out, r.2.1, Or.inl rfl, Or.inr (by simpa using r.2.2)⟩
end Go.Proofs.YtmpilokgbblonaaGreat.spec
