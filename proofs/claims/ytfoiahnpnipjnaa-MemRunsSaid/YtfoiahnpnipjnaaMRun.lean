/- Machines are run to their ends, one behind the other. -/
import Derived.Test.YtfoiahnpnipjnaaMEnd
namespace Go.Proofs.Ytfoiahnpnipjnaa.mem
open Go.RowKit

theorem sum_succ (ns : List Int) (i : Nat) (h : i < ns.length) : (ns.take (i + 1)).sum = (ns.take i).sum + ns.getD i 0 := by
  rw [List.take_succ_eq_append_getElem h, List.sum_append, List.getD_eq_getElem?_getD, List.getElem?_eq_getElem h]
  simp
/-- Numbers from 1 to 100. -/
def Small (ns : List Int) : Prop := ∀ i, i < ns.length → 1 ≤ ns.getD i 0 ∧ ns.getD i 0 ≤ 100
theorem sum_bound (ns : List Int) (h : Small ns) : ∀ i, i ≤ ns.length → 0 ≤ (ns.take i).sum ∧ (ns.take i).sum ≤ 100 * i
  | 0, _ => by simp
  | i + 1, hi => by
    have ih := sum_bound ns h i (by omega)
    have hn := h i (by omega)
    rw [sum_succ ns i (by omega)]
    omega
theorem sum_mono (ns : List Int) (h : Small ns) (i : Nat) : ∀ d, i + d ≤ ns.length → (ns.take i).sum ≤ (ns.take (i + d)).sum
  | 0, _ => by simp
  | d + 1, hd => by
    have ih := sum_mono ns h i d (by omega)
    have hn := h (i + d) (by omega)
    rw [show i + (d + 1) = i + d + 1 by omega, sum_succ ns (i + d) (by omega)]
    omega
theorem sum_all (ns : List Int) (h : Small ns) (i : Nat) (hi : i ≤ ns.length) : (ns.take i).sum ≤ ns.sum := by
  have := sum_mono ns h i (ns.length - i) (by omega)
  rwa [show i + (ns.length - i) = ns.length by omega, List.take_length] at this

/-- A machine, as an interface value. -/
abbrev mach (c : Nat) : Value := .iface 53 (.pointer (some ⟨c, 0, none⟩))
def machCells (cs : List Nat) : Array Value := (cs.map mach).toArray
theorem machCells_get (cs : List Nat) (i : Nat) (h : i < cs.length) : (machCells cs)[i]? = some (mach (cs.getD i 0)) := by
  unfold machCells
  simp [List.getElem?_eq_getElem h]

/-- The machines' blocks: unlike each other, and unlike the memory's. -/
structure Unlike (B X Y g : Nat) (cs : List Nat) : Prop where
  bx : B ≤ X
  by' : B ≤ Y
  gx : g ≠ X
  gy : g ≠ Y
  b : ∀ i, i < cs.length → B ≤ cs.getD i 0
  x : ∀ i, i < cs.length → cs.getD i 0 ≠ X
  y : ∀ i, i < cs.length → cs.getD i 0 ≠ Y
  g : ∀ i, i < cs.length → cs.getD i 0 ≠ g
  c : ∀ i j, i < j → j < cs.length → cs.getD i 0 ≠ cs.getD j 0
/-- At the head of a round: i machines have ended. -/
structure RunAt (B : Nat) (w wr : World) (X Y g : Nat) (ex : Array Value) (cs : List Nat) (ns : List Int) (i : Nat) (S : Int) : Prop where
  st : RunSt wr X Y S
  row : Box wr g (machCells cs ++ ex) 70
  boxes : ∀ k, k < cs.length → i ≤ k → Box wr (cs.getD k 0) (cnt (ns.getD k 0)) 55
  below : Below B w wr
theorem RunAt.cell {B : Nat} {w wr : World} {X Y g : Nat} {ex : Array Value} {cs : List Nat} {ns : List Int} {i : Nat} {S : Int} (h : RunAt B w wr X Y g ex cs ns i S) (hi : i < cs.length) : wr.cell? ⟨g, i, none⟩ = some (mach (cs.getD i 0)) := by
  have hr : wr.heap[g]? = some (.cells (machCells cs ++ ex) 70 (0, 0)) := h.row
  rw [Joins.cell_of_block hr, Array.getElem?_append_left (by simpa [machCells] using hi)]
  exact machCells_get cs i hi
theorem RunAt.step {B : Nat} {w wr w1 : World} {X Y g : Nat} {ex : Array Value} {cs : List Nat} {ns : List Int} {i : Nat} {S J L : Int} (h : RunAt B w wr X Y g ex cs ns i S) (u : Unlike B X Y g cs) (hB : B ≤ w.heap.size) (hi : i < cs.length) (hr : Ran wr X Y (cs.getD i 0) (S + J) L w1) : RunAt B w w1 X Y g ex cs ns (i + 1) (S + J) :=
  ⟨hr.st, hr.apart.box h.row u.gx u.gy (Ne.symm (u.g i hi)), fun k hk hik => hr.apart.box (h.boxes k hk (by omega)) (u.x k hk) (u.y k hk) (Ne.symm (u.c i k (by omega) hk)), hr.apart.below h.below (Nat.le_trans hB h.below.size) u.bx u.by' (u.b i hi)⟩

/-- What the run of all says. -/
def RanAll (B : Nat) (w : World) (X Y : Nat) (T : Int) (ok : Bool) (e : Ending) (w' : World) : Prop := e = .returned (.tuple #[.int .i64 T, .bool ok]) ∧ RunSt w' X Y T ∧ Below B w w'

set_option maxHeartbeats 1000000 in
theorem run_none (B : Nat) (w : World) (X Y : Nat) (most : Int) (hs : RunSt w X Y 0) :
    Calls Try.prog 31 #[.pointer (some ⟨X, 0, none⟩), .int .i64 most, .slice none 0 0] w (RanAll B w X Y 0 true) := by
  have HS := Lib.hid hs
  clear hs
  go_enter Try.func31, Try.ntmps31
  go_wp2
  go_rounds 1
  go_returns
  exact ⟨rfl, HS.out, Below.refl _ _⟩

set_option maxHeartbeats 4000000 in
theorem run_some (B : Nat) (w : World) (X Y g n cap : Nat) (ex : Array Value) (cs : List Nat) (ns : List Int) (most T : Int) (ok : Bool) (hn : cs.length = n) (hns : ns.length = n) (n0 : 0 < n) (n1 : n ≤ 20) (hsm : Small ns)
    (m0 : -9223372036854775808 ≤ most) (m1 : most ≤ 9223372036854775807) (hu : Unlike B X Y g cs) (hB : B ≤ w.heap.size) (h0 : RunAt B w w X Y g ex cs ns 0 0) (hT : T = min ns.sum (max most 0)) (hok : ok = decide (ns.sum ≤ most)) :
    Calls Try.prog 31 #[.pointer (some ⟨X, 0, none⟩), .int .i64 most, .slice (some ⟨g, 0, none⟩) n cap] w (RanAll B w X Y T ok) := by
  have H0 := Lib.hid h0
  have HU := Lib.hid hu
  have HN := Lib.hid hn
  have HM := Lib.hid hns
  have HS := Lib.hid hsm
  have HT := Lib.hid hT
  have HO := Lib.hid hok
  clear h0 hu hn hns hsm hT hok
  go_enter Try.func31, Try.ntmps31
  go_wp2
  go_loopw [8, 15] (fun s i wr => ∃ (k : Nat) (S : Int), k ≤ n ∧ i = .int .i64 k ∧ s = .int .i64 S ∧ S = (ns.take k).sum ∧ (k = 0 ∨ S ≤ most) ∧ RunAt B w wr X Y g ex cs ns k S) (fun _ i _ => n - (intOf i).toNat)
  case atStart => exact ⟨0, 0, Nat.zero_le _, rfl, rfl, by simp, Or.inl rfl, H0.out⟩
  case round =>
    obtain ⟨k, S, hk, rfl, rfl, hS, hle, hr⟩ := hrel
    have HR := Lib.hid hr
    have HSum := Lib.hid hS
    have hb := sum_bound ns HS.out k (by rw [HM.out]; exact hk)
    rw [← hS] at hb
    have HL := Lib.hid hle
    have hlo : -9223372036854775808 ≤ most - S := by rcases hle with h | h <;> omega
    have hhi : most - S ≤ 9223372036854775807 := by omega
    clear hr hS hle
    by_cases hlt : k < n
    · have hc := HR.out.cell (by rw [HN.out]; exact hlt)
      obtain ⟨c, hcc⟩ : ∃ c, c = cs.getD k 0 := ⟨_, rfl⟩
      have hbox := HR.out.boxes k (by rw [HN.out]; exact hlt) (Nat.le_refl _)
      rw [← hcc] at hc hbox
      obtain ⟨L, hL⟩ : ∃ L, L = ns.getD k 0 := ⟨_, rfl⟩
      rw [← hL] at hbox
      have hsl := HS.out k (by rw [HM.out]; exact hlt)
      rw [← hL] at hsl
      have HC := Lib.hid hcc
      have HLL := Lib.hid hL
      have HBX := Lib.hid hbox
      obtain ⟨l0, l1⟩ := hsl
      obtain ⟨J, hJ⟩ : ∃ J, J = min L (max (most - S) 0) := ⟨_, rfl⟩
      have HJ := Lib.hid hJ
      have j0 : 0 ≤ J := by omega
      have j1 : J ≤ 100 := by omega
      have hx : Hid (c ≠ X) := by rw [hcc]; exact HU.out.x k (by rw [HN.out]; exact hlt)
      have hy : Hid (c ≠ Y) := by rw [hcc]; exact HU.out.y k (by rw [HN.out]; exact hlt)
      clear hcc hL hJ hbox
      by_cases hb2 : L ≤ most - S
      · have hd : decide (L ≤ most - S) = true := by simpa using hb2
        have HB2 := Lib.hid hd
        clear hd
        go_wp2_with (go_at_call 45; refine (toEnd_any _ X Y c S L (most - S) J true HR.out.st HBX.out hx.out hy.out (by omega) (by omega) l0 (by omega) HJ.out HB2.out.symm).mono ?_; rintro e w1 ⟨rfl, hr1⟩; have HR1 := Lib.hid hr1; clear hr1)
        have hJL : J = L := by have := HJ.out; omega
        have hsum : S + J = (ns.take (k + 1)).sum := by rw [sum_succ ns k (by rw [HM.out]; exact hlt), ← HSum.out, ← HLL.out, hJL]
        have hfit : S + J ≤ most := by omega
        have HF := Lib.hid hfit
        have HSS := Lib.hid hsum
        have HK : Hid (RunAt B w w1 X Y g ex cs ns (k + 1) (S + J)) := HR.out.step HU.out hB (by rw [HN.out]; exact hlt) (by rw [← HC.out]; exact HR1.out)
        clear hJL hsum hfit
        go_roundw
        case rel => exact ⟨k + 1, S + J, by omega, by go_num, rfl, HSS.out, Or.inr HF.out, HK.out⟩
        case measure => simp [intOf]; omega
      · have hd : decide (L ≤ most - S) = false := by simpa using hb2
        have HB2 := Lib.hid hd
        clear hd
        have hs1 := sum_all ns HS.out (k + 1) (by rw [HM.out]; omega)
        rw [sum_succ ns k (by rw [HM.out]; exact hlt), ← HSum.out, ← HLL.out] at hs1
        have HTJ : Hid (S + J = T) := by have h1 := HJ.out; have h2 := HT.out; have h3 := HL.out; show _ = _; rcases h3 with h3 | h3 <;> omega
        have HOF : Hid (ok = false) := by rw [HO.out]; apply decide_eq_false; omega
        clear hs1
        go_wp2_with (go_at_call 45; refine (toEnd_any _ X Y c S L (most - S) J false HR.out.st HBX.out hx.out hy.out (by omega) (by omega) l0 (by omega) HJ.out HB2.out.symm).mono ?_; rintro e w1 ⟨rfl, hr1⟩; have HR1 := Lib.hid hr1; clear hr1)
        go_returns
        have HK : RunAt B w w1 X Y g ex cs ns (k + 1) (S + J) := HR.out.step HU.out hB (by rw [HN.out]; exact hlt) (by rw [← HC.out]; exact HR1.out)
        rw [HOF.out, ← HTJ.out]
        exact ⟨rfl, HK.st, HK.below⟩
    · have hkn : k = n := by omega
      have HTS : Hid (S = T) := by
        have h1 := HT.out; have h2 := HL.out; have h3 := HSum.out
        rw [hkn, ← HM.out, List.take_length] at h3
        show _ = _
        rcases h2 with h2 | h2 <;> omega
      have HOT : Hid (ok = true) := by
        have h1 := HL.out; have h3 := HSum.out
        rw [hkn, ← HM.out, List.take_length] at h3
        rw [HO.out]; apply decide_eq_true
        rcases h1 with h1 | h1 <;> omega
      clear hkn
      go_wp2
      go_returns
      rw [HOT.out, ← HTS.out]
      exact ⟨rfl, HR.out.st, HR.out.below⟩
end Go.Proofs.Ytfoiahnpnipjnaa.mem
