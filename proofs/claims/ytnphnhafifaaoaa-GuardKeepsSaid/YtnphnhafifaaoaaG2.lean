/- Two lists of the call's own, made side by side; a list without those that slots told, made anew. -/
import Derived.Test.YtnphnhafifaaoaaGScan
import Derived.Test.YtnphnhafifaaoaaL2
import Derived.Deep.QuietTactic
import Derived.BigQuiet
namespace Go.Proofs.Ytnphnhafifaaoaa.guard
open Go.RowKit mem life

theorem owns_block {w : World} {E : Nat} {v : Value} {n : Nat} {xs : List Value} (h : w.ownsRow E 3 1 v n xs) {g : Nat} (hg : v.ownBlock = some g) : E ≤ g ∧ g < w.heap.size := by
  rcases h.2 with ⟨rfl, _⟩ | ⟨g', cap, cur, rfl, hge, hb, _⟩
  · cases hg
  · obtain rfl : g' = g := Option.some.inj hg
    exact ⟨hge, (Array.getElem?_eq_some_iff.1 hb).1⟩
theorem owns_moved {w w' : World} {E : Nat} {v : Value} {n : Nat} {xs : List Value} (h : w.ownsRow E 3 1 v n xs) (hb : ∀ g, v.ownBlock = some g → w'.heap[g]? = w.heap[g]?) : w'.ownsRow E 3 1 v n xs := by
  obtain ⟨hl, ⟨rfl, h0⟩ | ⟨g, cap, cur, rfl, hge, hg, hn, hc, hs, ht⟩⟩ := h
  · exact ⟨hl, Or.inl ⟨rfl, h0⟩⟩
  · exact ⟨hl, Or.inr ⟨g, cap, cur, rfl, hge, (hb g rfl).trans hg, hn, hc, hs, ht⟩⟩
/-- Two lists, in blocks from E on, unlike ones. -/
structure Two (w : World) (E : Nat) (kv fv : Value) (K F : List Int) : Prop where
  k : w.ownsRow E 3 1 kv K.length (K.map (Value.int .i64))
  f : w.ownsRow E 3 1 fv F.length (F.map (Value.int .i64))
  ne : ∀ g, kv.ownBlock = some g → fv.ownBlock = some g → False
  kn : K = [] → kv = .slice none 0 0
  fn : F = [] → fv = .slice none 0 0
section
variable {w w' : World} {E : Nat} {kv fv : Value} {K F : List Int}
theorem Two.swap (h : Two w E kv fv K F) : Two w E fv kv F K := ⟨h.f, h.k, fun g a b => h.ne g b a, h.fn, h.kn⟩
theorem Two.none (w : World) (E : Nat) : Two w E (.slice none 0 0) (.slice none 0 0) [] [] := ⟨World.ownsRow_nil _ _ _ _, World.ownsRow_nil _ _ _ _, fun _ h => (by cases h), fun _ => rfl, fun _ => rfl⟩
theorem Two.moved (h : Two w E kv fv K F) (hb : ∀ g, E ≤ g → g < w.heap.size → w'.heap[g]? = w.heap[g]?) : Two w' E kv fv K F :=
  ⟨owns_moved h.k fun g hg => hb g (owns_block h.k hg).1 (owns_block h.k hg).2, owns_moved h.f fun g hg => hb g (owns_block h.f hg).1 (owns_block h.f hg).2, h.ne, h.kn, h.fn⟩
theorem Two.below (h : Two w E kv fv K F) (hb : Below w.heap.size w w') : Two w' E kv fv K F := h.moved fun g _ hg => hb.block g hg
theorem Two.more {x : Int} {kv' : Value} {T : TypeId} (h : Two w E kv fv K F)
    (hown : w'.ownsRow E 3 1 kv' (K.length + 1) (K.map (Value.int .i64) ++ [.int .i64 x]))
    (hg : (w.alloc (.cells #[.int .i64 x] T)).grownBy w' kv.ownBlock) (hat : kv'.ownBlock = kv.ownBlock ∨ kv'.ownBlock = some (w.alloc (.cells #[.int .i64 x] T)).heap.size) : Two w' E kv' fv (K ++ [x]) F := by
  refine ⟨by rw [List.length_append, List.map_append]; exact hown, owns_moved h.f fun g hf => ?_, fun g hk hf => ?_, fun hn => absurd hn (by simp), h.fn⟩
  · have hlt := (owns_block h.f hf).2
    rw [hg.block g (by simp; omega) (fun he => h.ne g he.symm hf), Below.heap_alloc _ _ _ hlt]
  · rcases hat with hat | hat
    · exact h.ne g (hat.symm.trans hk) hf
    · have hlt := (owns_block h.f hf).2
      have e : (w.alloc (.cells #[.int .i64 x] T)).heap.size = g := Option.some.inj (hat.symm.trans hk)
      simp at e
      omega
/-- Blocks ahead of E are as they were. -/
theorem Two.old {x : Int} {T : TypeId} (h : Two w E kv fv K F) (hg : (w.alloc (.cells #[.int .i64 x] T)).grownBy w' kv.ownBlock) {b : Nat} (hb : b < E) (hw : b < w.heap.size) : w'.heap[b]? = w.heap[b]? := by
  rw [hg.block b (by simp; omega) (fun he => by have := (owns_block h.k he.symm).1; omega), Below.heap_alloc _ _ _ hw]
theorem nums_of {v : Value} {L : List Int} (h : w.ownsRow E 3 1 v L.length (L.map (Value.int .i64))) (hn : L = [] → v = .slice none 0 0) : Nums w E v L := by
  by_cases h0 : 0 < L.length
  · obtain ⟨g, c, rfl, hg, hrow, hc0, hc1⟩ := row_of_ints h0 h
    exact Or.inr ⟨h0, g, c, rfl, hg, hrow, hc0, hc1⟩
  · have : L = [] := List.eq_nil_of_length_eq_zero (by omega)
    exact Or.inl ⟨this, hn this⟩
end

/-- A list that is told: its length, and its row, if there are any. -/
def Rows (w : World) (lo : Nat) (v : Value) (U : List Int) : Prop := ∃ a c, v = .slice a U.length c ∧ (0 < U.length → ∃ g, a = some ⟨g, 0, none⟩ ∧ lo ≤ g ∧ IntRow w g U ∧ U.length ≤ c ∧ c ≤ maxLen)
def Untold (w : World) (U : List Int) (e : Ending) (w' : World) : Prop := ∃ v, e = .returned v ∧ Rows w' w.heap.size v U ∧ Below w.heap.size w w'

section
variable {w : World} {C : Nat}
set_option maxHeartbeats 1000000 in
theorem untold_none (w : World) (C : Nat) (ws : List Int) (h : w.cell? ⟨C, 4, none⟩ = some (.slice none 0 0)) :
    Calls Try.prog 40 #[.pointer (some ⟨C, 0, none⟩)] w (Untold w (untold ws [])) := by
  go_enter Try.func40, Try.ntmps40
  go_wp2_with (first
    | (go_at_call 35; refine (clone_ints_nil _).mono ?_; rintro e w1 ⟨rfl, rfl⟩)
    | (go_at_call 52; refine (delete_none _ _).mono ?_; rintro e w1 ⟨rfl, rfl⟩))
  go_returns
  exact ⟨_, rfl, ⟨none, 0, rfl, fun h => absurd h (by simp [untold])⟩, Below.refl _ _⟩
set_option maxHeartbeats 1000000 in
theorem untold_some (w : World) (C r g N c : Nat) (ws L : List Int) (h : Asks w C r ws) (hC : ∃ cs T, Box w C cs T) (h4 : w.cell? ⟨C, 4, none⟩ = some (.slice (some ⟨g, 0, none⟩) N c)) (hrow : IntRow w g L) (hN : L.length = N) (l0 : 0 < N) (hl : N ≤ 1000) (hL : ∀ x ∈ L, 0 ≤ x ∧ x ≤ 1000) :
    Calls Try.prog 40 #[.pointer (some ⟨C, 0, none⟩)] w (Untold w (untold ws L)) := by
  have HA := Lib.hid h
  have HR := Lib.hid hrow
  have HN := Lib.hid hN
  have HL := Lib.hid hL
  have hlt : C < w.heap.size := by obtain ⟨cs, T, h⟩ := hC; exact h.lt
  have HC := Lib.hid hlt
  have HRL := Lib.hid h.map.lt
  clear h hrow hN hL hC hlt
  go_enter Try.func40, Try.ntmps40
  go_wp2_with (first
    | (go_at_call 35; refine (clone_ints _ g N c L HN.out l0 hl HR.out).mono ?_; rintro e w1 ⟨g1, c1, rfl, hr1⟩; have R1 := Lib.hid hr1; clear hr1)
    | (go_at_call 52; rw [HN.out]; refine (delete_any _ C r g1 N c1 ws L (HA.out.below R1.out.below) R1.out.row HN.out hl HL.out (by rw [← HN.out]; exact R1.out.c0) R1.out.c1 (by have := R1.out.g0; have := HC.out; omega) (by have := R1.out.g0; have := HRL.out; omega)).mono ?_; rintro e w2 ⟨rfl, hr2, ha2⟩; have R2 := Lib.hid hr2; have A2 := Lib.hid ha2; clear hr2 ha2))
  go_returns
  have hle : (untold ws L).length ≤ L.length := List.length_filter_le _ _
  have hc0 := R1.out.c0
  have hg0 := R1.out.g0
  refine ⟨_, rfl, ⟨_, c1, rfl, fun _ => ⟨g1, rfl, hg0, R2.out, by omega, R1.out.c1⟩⟩, A2.out.below R1.out.below R1.out.below.size hg0 hg0⟩
end
end Go.Proofs.Ytnphnhafifaaoaa.guard
/- The nodes that the laws ask for, made of bytes; two lists compared. -/
namespace Go.Proofs.Ytnphnhafifaaoaa.guard
open Go.RowKit mem life

/-- Of the first k bytes: numbers from 1 to m, each once. -/
def nodesTo (m : Int) (xs : List Int) : Nat → List Int
  | 0 => []
  | k + 1 => nodesTo m xs k ++ (if 1 + xs.getD k 0 % m ∈ nodesTo m xs k then [] else [1 + xs.getD k 0 % m])
theorem nodesTo_length (m : Int) (xs : List Int) : ∀ k, (nodesTo m xs k).length ≤ k
  | 0 => by simp [nodesTo]
  | k + 1 => by
    have := nodesTo_length m xs k
    rw [nodesTo]
    split <;> simp <;> omega
theorem nodesTo_in (m : Int) (xs : List Int) (m0 : 0 < m) (x : Int) : ∀ k, x ∈ nodesTo m xs k → 1 ≤ x ∧ x ≤ m
  | 0, h => by simp [nodesTo] at h
  | k + 1, h => by
    rw [nodesTo, List.mem_append] at h
    rcases h with h | h
    · exact nodesTo_in m xs m0 x k h
    · have h1 := Int.emod_nonneg (xs.getD k 0) (show m ≠ 0 by omega)
      have h2 := Int.emod_lt_of_pos (xs.getD k 0) m0
      split at h
      · simp at h
      · have := List.mem_singleton.1 h
        omega
theorem nodesTo_nodup (m : Int) (xs : List Int) : ∀ k, (nodesTo m xs k).Nodup
  | 0 => by simp [nodesTo]
  | k + 1 => by
    have ih := nodesTo_nodup m xs k
    rw [nodesTo, List.nodup_append]
    refine ⟨ih, by split <;> simp, fun x hx y hy he => ?_⟩
    subst he
    split at hy
    · simp at hy
    · rename_i hn
      exact hn (by rw [← List.mem_singleton.1 hy]; exact hx)
/-- On the way. -/
structure NdSt (w wr : World) (v : Value) (L : List Int) : Prop where
  own : wr.ownsRow w.heap.size 3 1 v L.length (L.map (Value.int .i64))
  nil : L = [] → v = .slice none 0 0
  below : Below w.heap.size w wr
theorem NdSt.more {w wr w1 : World} {v v' : Value} {x : Int} {L : List Int} {T : TypeId} (h : NdSt w wr v L)
    (hown : w1.ownsRow w.heap.size 3 1 v' (L.length + 1) (L.map (Value.int .i64) ++ [.int .i64 x]))
    (hg : (wr.alloc (.cells #[.int .i64 x] T)).grownBy w1 v.ownBlock) : NdSt w w1 v' (L ++ [x]) := by
  refine ⟨by rw [List.length_append, List.map_append]; exact hown, fun hn => absurd hn (by simp), ?_⟩
  refine (h.below.alloc h.below.size _).grown hg (by have := h.below.size; simp; omega) ?_
  intro k hk
  exact (owns_block h.own hk).1

set_option maxHeartbeats 2000000 in
theorem nodes_any (w : World) (a : Option Addr) (xs : List Int) (N cap : Nat) (hN : xs.length = N) (hl : N ≤ 100) (hx : BytesAt w a xs) :
    Calls Try.prog 12 #[.slice a N cap, .int .i64 40] w fun e w' => ∃ v, e = .returned v ∧ Nums w' w.heap.size v (nodesTo 40 xs N) ∧ Below w.heap.size w w' := by
  have HX := Lib.hid hx
  have HN := Lib.hid hN
  clear hx hN
  go_enter Try.func12, Try.ntmps12
  go_wp2
  go_loopw [5, 11] (fun v i wr => ∃ j : Nat, j ≤ N ∧ i = .int .i64 j ∧ NdSt w wr v (nodesTo 40 xs j)) (fun _ i _ => N - (intOf i).toNat)
  case atStart => exact ⟨0, Nat.zero_le _, rfl, World.ownsRow_nil _ _ _ _, fun _ => rfl, Below.refl _ _⟩
  case round =>
    obtain ⟨j, hj, rfl, hst⟩ := hrel
    have HF := Lib.hid hst
    clear hst
    by_cases hlt : j < N
    · obtain ⟨x0, x1, b, rfl, hc⟩ := (HX.out.later HF.out.below) j (by rw [HN.out]; exact hlt)
      obtain ⟨x, hxx⟩ : ∃ x, x = xs.getD j 0 := ⟨_, rfl⟩
      rw [← hxx] at hc x0 x1
      have HXX := Lib.hid hxx
      clear hxx
      have hlen := nodesTo_length 40 xs j
      obtain ⟨av, cv, hav, hla⟩ := list_of_owns HF.out.own
      have HLA := Lib.hid hla
      clear hla
      by_cases he : 1 + x % 40 ∈ nodesTo 40 xs j
      · have hq : decide (1 + x % 40 ∈ nodesTo 40 xs j) = true := decide_eq_true he
        have HE : Hid (nodesTo 40 xs (j + 1) = nodesTo 40 xs j) := by show _ = _; rw [nodesTo, ← HXX.out, if_pos he, List.append_nil]
        clear he
        subst hav
        go_wp2_with (go_at_call 23; refine (contains_any _ w.heap.size av (nodesTo 40 xs j) _ cv (1 + x % 40) rfl (by omega) HLA.out).mono ?_; rintro e w1 ⟨rfl, rfl⟩; rw [hq])
        go_roundw
        case rel => exact ⟨j + 1, by omega, by go_num, by rw [HE.out]; exact HF.out⟩
        case measure => simp [intOf]; omega
      · have hq : decide (1 + x % 40 ∈ nodesTo 40 xs j) = false := decide_eq_false he
        have HE : Hid (nodesTo 40 xs (j + 1) = nodesTo 40 xs j ++ [1 + x % 40]) := by show _ = _; rw [nodesTo, ← HXX.out, if_neg he]
        clear he
        have hml : (nodesTo 40 xs j).length + 1 ≤ maxLen := by unfold maxLen; omega
        have HB := Lib.hid HF.out.below.size
        obtain ⟨i0, hi, hz0, hz1, hz2⟩ := info_parts Tryinfo_int
        subst hav
        go_wp2_with (first
          | (go_at_call 23; refine (contains_any _ w.heap.size av (nodesTo 40 xs j) _ cv (1 + x % 40) rfl (by omega) HLA.out).mono ?_; rintro e w1 ⟨rfl, rfl⟩; rw [hq])
          | (at_builtin; go_loud (refine wpList_append_own _ rfl (.tmp 24) (.tmp 26) 35 rfl w.heap.size 3 i0 (.int .i64 0) 1 8 Try.underlying35 hi hz0 hz1 hz2 rfl (by decide) _ (nodesTo 40 xs j).length ((nodesTo 40 xs j).map (Value.int .i64)) rfl (HF.out.own.alloc (.cells #[.int .i64 (1 + x % 40)] 3)) ⟨wr.heap.size, 0, none⟩ 1 1 [.int .i64 (1 + x % 40)] rfl rfl (cell_one _ _ _ rfl) (one_cell _ rfl) hml (by omega) (by have := HB.out; simp; omega) ?_; intro v' w3 hown' hgrow hiff; have L3 := Lib.hid (HF.out.more hown' hgrow); clear hown' hgrow hiff)))
        go_roundw
        case rel => exact ⟨j + 1, by omega, by go_num, by rw [HE.out]; exact L3.out⟩
        case measure => simp [intOf]; omega
    · have hjN : N = j := by omega
      subst hjN
      go_wp2
      go_returns
      exact ⟨_, rfl, nums_of HF.out.own HF.out.nil, HF.out.below⟩

/-- A list's cells. -/
theorem Nums.cells {w : World} {lo : Nat} {v : Value} {L : List Int} (h : Nums w lo v L) : ∃ a c, v = .slice a L.length c ∧ ∀ i, i < L.length → ∃ g, a = some ⟨g, 0, none⟩ ∧ w.cell? ⟨g, i, none⟩ = some (.int .i64 (L.getD i 0)) := by
  rcases h with ⟨rfl, rfl⟩ | ⟨h0, g, c, rfl, _, hrow, _⟩
  · exact ⟨none, 0, rfl, fun i hi => absurd hi (by simp)⟩
  · exact ⟨_, c, rfl, fun i hi => ⟨g, rfl, hrow.cell hi⟩⟩
set_option maxHeartbeats 2000000 in
theorem ints_any (w : World) (lo lo' : Nat) (v u : Value) (L M : List Int) (h : Nums w lo v L) (k : Nums w lo' u M) (hl : L.length ≤ 1000) (hm : M.length ≤ 1000) :
    Calls Try.prog 19 #[v, u] w fun e w' => e = .returned (.bool (decide (L = M))) ∧ Below w.heap.size w w' := by
  obtain ⟨a, c, rfl, hc⟩ := h.cells
  obtain ⟨b, d, rfl, hd⟩ := k.cells
  clear h k
  obtain ⟨N, hN⟩ : ∃ N, L.length = N := ⟨_, rfl⟩
  obtain ⟨Q, hQ⟩ : ∃ Q, M.length = Q := ⟨_, rfl⟩
  rw [hN] at hc hl ⊢
  rw [hQ] at hd hm ⊢
  have HC := Lib.hid hc
  have HD := Lib.hid hd
  have HN := Lib.hid hN
  have HQ := Lib.hid hQ
  clear hN hQ hc hd
  by_cases hNQ : N = Q
  · subst hNQ
    go_enter Try.func19, Try.ntmps19
    go_wp2
    go_loopw [5] (fun i wr => ∃ j : Nat, j ≤ N ∧ i = .int .i64 j ∧ L.take j = M.take j ∧ Below w.heap.size w wr) (fun i _ => N - (intOf i).toNat)
    case atStart => exact ⟨0, Nat.zero_le _, rfl, by simp, Below.refl _ _⟩
    case round =>
      obtain ⟨j, hj, rfl, ht, hb⟩ := hrel
      have HT := Lib.hid ht
      have HB := Lib.hid hb
      clear ht hb
      by_cases hlt : j < N
      · obtain ⟨g, rfl, c1⟩ := HC.out j (by have := HN.out; omega)
        obtain ⟨g2, rfl, c2⟩ := HD.out j (by have := HQ.out; omega)
        have c3 := (HB.out.cell (p := ⟨g, j, none⟩) (World.block_lt_of_cell? w _ c1)).trans c1
        have c4 := (HB.out.cell (p := ⟨g2, j, none⟩) (World.block_lt_of_cell? w _ c2)).trans c2
        clear c1 c2
        have l1 : L.take (j + 1) = L.take j ++ [L.getD j 0] := by rw [List.take_succ_eq_append_getElem (by have := HN.out; omega), List.getD_eq_getElem?_getD, List.getElem?_eq_getElem (by have := HN.out; omega)]; rfl
        have l2 : M.take (j + 1) = M.take j ++ [M.getD j 0] := by rw [List.take_succ_eq_append_getElem (by have := HQ.out; omega), List.getD_eq_getElem?_getD, List.getElem?_eq_getElem (by have := HQ.out; omega)]; rfl
        have HL1 := Lib.hid l1
        have HL2 := Lib.hid l2
        clear l1 l2
        have HV : Hid (L = M → L.getD j 0 = M.getD j 0) := Lib.hid fun h => by rw [h]
        generalize L.getD j 0 = x at *
        generalize M.getD j 0 = y at *
        have j0 : (0 : Int) ≤ (j : Int) := by omega
        have j1 : (j : Int) < (N : Int) := by omega
        by_cases hxy : x = y
        · subst hxy
          have hq : (x != x) = false := by simp
          go_wp2
          go_region
          all_goals
            go_wp2
            go_roundw
            case rel => exact ⟨j + 1, by omega, by go_num, by rw [HL1.out, HL2.out, HT.out], HB.out.drew⟩
            case measure => simp [intOf]; omega
        · have hq : (x != y) = true := by simpa using hxy
          have HXY := Lib.hid hxy
          clear hxy
          go_wp2
          go_region
          all_goals
            go_wp2
            go_returns
            exact ⟨ret_bool (decide_eq_false (fun h => HXY.out (HV.out h))).symm, HB.out.drew⟩
      · have hjN : N = j := by omega
        subst hjN
        go_wp2
        go_returns
        refine ⟨ret_bool (decide_eq_true ?_).symm, HB.out⟩
        have h := HT.out
        rwa [List.take_of_length_le (by have := HN.out; omega), List.take_of_length_le (by have := HQ.out; omega)] at h
  · have hne : ((N : Int) != (Q : Int)) = true := by simp; omega
    have HNQ := Lib.hid hNQ
    clear hNQ
    go_enter Try.func19, Try.ntmps19
    go_wp2
    go_returns
    refine ⟨ret_bool (decide_eq_false (fun h => ?_)).symm, Below.refl _ _⟩
    apply HNQ.out
    rw [← HN.out, ← HQ.out, h]
/-- Two lists that are one. -/
theorem ints_same (w : World) (lo lo' : Nat) (v u : Value) (L M : List Int) (hLM : L = M) (h : Nums w lo v L) (k : Nums w lo' u M) (hl : L.length ≤ 1000) :
    Calls Try.prog 19 #[v, u] w fun e w' => e = .returned (.bool true) ∧ Below w.heap.size w w' := by
  subst hLM
  refine (ints_any w lo lo' v u L L h k hl hl).mono ?_
  rintro e w' ⟨rfl, hb⟩
  exact ⟨ret_bool (decide_eq_true rfl), hb⟩
end Go.Proofs.Ytnphnhafifaaoaa.guard
