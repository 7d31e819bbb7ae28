/- The memory that the laws make, all of its words: the lives, and nothing else. -/
import Derived.Test.YtnphnhafifaaoaaL2
namespace Go.Proofs.Ytnphnhafifaaoaa.guard
open Go.RowKit mem life

/-- All words but the lives are 0. -/
def Rest (n : Int) (zs : List Int) : Prop := ∀ a, ¬ (n + 5 ≤ a ∧ a ≤ 2 * n + 4) → wordAt zs a = 0
theorem Rest.put {n i : Int} {zs : List Int} (h : Rest n zs) (i0 : 1 ≤ i) (i1 : i ≤ n) (x : Int) : Rest n (putLife n zs i x) := by
  intro a ha
  unfold putLife
  rw [wordAt_setAt_other _ _ _ _ (by omega)]
  exact h a ha
/-- A memory with these lives. -/
def MemFu (w : World) (t n : Int) (ws : List Int) (e : Ending) (w' : World) : Prop :=
  ∃ X Y zs, e = .returned (.tuple #[.pointer (some ⟨X, 0, none⟩), .agg #[.int .i64 t, .int .i64 n]]) ∧ NewS w t n zs X Y w' ∧ Sound t n zs ∧ Lives n zs ws ∧ Rest n zs

/-- On the way to it: k lives were stored. -/
structure MemFt (w wr : World) (X Y : Nat) (t n : Int) (ws : List Int) (k : Nat) (zs : List Int) : Prop where
  res : Box wr w.heap.size (layCells 0 0) 28
  lay : Box wr (w.heap.size + 1) (layCells t n) 28
  mem : MemS wr X Y t n zs
  below : Below w.heap.size w wr
  x0 : w.heap.size + 1 < X
  y0 : w.heap.size + 1 < Y
  sound : Sound t n zs
  done : ∀ i : Nat, (i : Int) < n → lifeIn n zs ((i : Int) + 1) = if i < k then ws.getD i 0 else 0
  rest : Rest n zs
theorem MemFt.next {w wr w1 : World} {X Y : Nat} {t n : Int} {ws : List Int} {k : Nat} {zs : List Int} (h : MemFt w wr X Y t n ws k zs) (hb : Below wr.heap.size wr w1) : MemFt w w1 X Y t n ws k zs :=
  ⟨h.res.below hb, h.lay.below hb, h.mem.below hb, past h.below hb, h.x0, h.y0, h.sound, h.done, h.rest⟩
theorem MemFt.put {w wr w1 : World} {X Y : Nat} {t n : Int} {ws : List Int} {k : Nat} {zs : List Int} (h : MemFt w wr X Y t n ws k zs) (hk : (k : Int) < n) (hx : 0 ≤ ws.getD k 0 ∧ ws.getD k 0 < 18446744073709551616)
    (hm : MemS w1 X Y t n (putLife n zs ((k : Int) + 1) (ws.getD k 0))) (ha : Apart X Y wr w1) : MemFt w w1 X Y t n ws (k + 1) (putLife n zs ((k : Int) + 1) (ws.getD k 0)) := by
  have x0 := h.x0
  have y0 := h.y0
  refine ⟨h.res.apart ha (by omega) (by omega), h.lay.apart ha (by omega) (by omega), hm, ha.below h.below h.below.size (by omega) (by omega), x0, y0, h.sound.put _ _ hx.1 hx.2, fun i hi => ?_, h.rest.put (by omega) (by omega) _⟩
  by_cases he : i = k
  · subst he
    rw [lifeIn_put_same h.sound (by omega) (by omega), if_pos (by omega)]
  · rw [lifeIn_put_other (by omega), h.done i hi]
    by_cases hlt : i < k
    · rw [if_pos hlt, if_pos (by omega)]
    · rw [if_neg hlt, if_neg (by omega)]
theorem MemFt.skip {w wr : World} {X Y : Nat} {t n : Int} {ws : List Int} {k : Nat} {zs : List Int} (h : MemFt w wr X Y t n ws k zs) (hk : n ≤ (k : Int)) : MemFt w wr X Y t n ws (k + 1) zs :=
  ⟨h.res, h.lay, h.mem, h.below, h.x0, h.y0, h.sound, fun i hi => by rw [h.done i hi, if_pos (by omega), if_pos (by omega)], h.rest⟩
theorem MemFt.made {w w1 : World} {X Y : Nat} {t n : Int} {ws : List Int} {z : Nat} (hm : MadeAt (askW w t n) t n (padTo z []) X Y w1) (hs : Sound t n (padTo z [])) : MemFt w w1 X Y t n ws 0 (padTo z []) := by
  have hx := hm.x
  have hy := hm.y
  simp at hx hy
  refine ⟨((Box.new w _ _).alloc _).below hm.below, Box.below (by have := Box.new (w.alloc (.cells (layCells 0 0) 28)) (layCells t n) 28; simpa using this) hm.below, MemS.of hm.mem, past (((Below.refl _ _).alloc (Nat.le_refl _) _).alloc (by simp) _) hm.below, by omega, by omega, hs, fun i _ => ?_, fun a _ => wordAt_zeros _ _⟩
  rw [if_neg (by omega)]
  exact wordAt_zeros _ _

set_option maxHeartbeats 2000000 in
theorem memory_full (w : World) (t n : Int) (a : Option Addr) (ws : List Int) (N cap : Nat) (hN : ws.length = N) (hl : N ≤ 1000) (t0 : 1 ≤ t) (t1 : t ≤ 8) (n0 : 1 ≤ n) (n1 : n ≤ 200) (hw : Words w a ws) (hr : ∀ x ∈ ws, 0 ≤ x ∧ x < 18446744073709551616) :
    Calls Try.prog 8 #[.int .i64 t, .int .i64 n, .slice a N cap] w (MemFu w t n ws) := by
  obtain ⟨z, hz⟩ : ∃ z : Nat, (z : Int) = 2 * n + 6 + 5 * t := ⟨(2 * n + 6 + 5 * t).toNat, by omega⟩
  have HS0 := Lib.hid (sound_zeros t0 t1 n0 n1 hz)
  have HZ := Lib.hid hz
  have HW := Lib.hid hw
  have HN := Lib.hid hN
  have HRG := Lib.hid hr
  clear hw hN hz hr
  go_enter Try.func8, Try.ntmps8
  go_wp2_with (go_at_call 25; refine (new_ok _ t n none [] 0 0 z rfl t0 t1 n0 n1 HZ.out (by simp) (Words.none _)).mono ?_; rintro e w1 ⟨X, Y, rfl, hm⟩; have S0 : Hid (MemFt w w1 X Y t n ws 0 (padTo z [])) := Lib.hid (MemFt.made hm HS0.out); clear hm)
  go_loopw [26] (fun i wr => ∃ (k : Nat) (zs : List Int), k ≤ N ∧ i = .int .i64 k ∧ MemFt w wr X Y t n ws k zs) (fun i _ => N - (intOf i).toNat)
  case atStart => exact ⟨0, _, Nat.zero_le _, rfl, S0.out⟩
  case round =>
    clear S0
    obtain ⟨k, zs, hk, rfl, hst⟩ := hrel
    have HF := Lib.hid hst
    clear hst
    have d0 : wr.cell? ⟨w.heap.size + 1, 0, none⟩ = some (.int .i64 t) := HF.out.lay.at 0 rfl
    have d1 : wr.cell? ⟨w.heap.size + 1, 1, none⟩ = some (.int .i64 n) := HF.out.lay.at 1 rfl
    by_cases hlt : k < N
    · obtain ⟨b, rfl, hc⟩ := (HW.out.later HF.out.below) k (by rw [HN.out]; exact hlt)
      have hx := HRG.out (ws.getD k 0) (by rw [List.getD_eq_getElem?_getD, List.getElem?_eq_getElem (by rw [HN.out]; exact hlt)]; exact List.getElem_mem _)
      have HX := Lib.hid hx
      clear hx
      by_cases hkn : (k : Int) < n
      · obtain ⟨x, hxx⟩ : ∃ x, x = ws.getD k 0 := ⟨_, rfl⟩
        rw [← hxx] at hc
        have HXX := Lib.hid hxx
        clear hxx
        go_wp2_with (first
          | (go_at_call 15; refine (Life_any _ t n ((k : Int) + 1) (by omega) (by omega) (by omega) (by omega)).mono ?_; rintro e w2 ⟨rfl, hb2⟩; have F2 := Lib.hid (HF.out.next hb2); clear hb2)
          | (go_at_call 9; refine (Store_s F2.out.mem (n + 4 + ((k : Int) + 1)) x).mono ?_; rintro e w3 ⟨rfl, hm3, ha3⟩; rw [HXX.out] at hm3; have F3 := Lib.hid (F2.out.put hkn HX.out hm3 ha3); clear hm3 ha3))
        go_roundw
        case rel => exact ⟨k + 1, _, by omega, by go_num, F3.out⟩
        case measure => simp [intOf]; omega
      · go_wp2
        go_roundw
        case rel => exact ⟨k + 1, _, by omega, by go_num, HF.out.skip (by omega)⟩
        case measure => simp [intOf]; omega
    · have hkN : N = k := by omega
      subst hkN
      have r0 : wr.cell? ⟨w.heap.size, 0, none⟩ = some (.int .i64 0) := HF.out.res.at 0 rfl
      have r1 : wr.cell? ⟨w.heap.size, 1, none⟩ = some (.int .i64 0) := HF.out.res.at 1 rfl
      have fr := HF.out.res.free
      have hall : Hid (Lives n zs ws) := by
        intro i hi
        rw [HF.out.done i hi]
        split
        · rfl
        · rename_i h
          rw [List.getD_eq_getElem?_getD, List.getElem?_eq_none (by rw [HN.out]; omega)]
          rfl
      go_wp2
      go_region
      all_goals
        have x0 := HF.out.x0
        have y0 := HF.out.y0
        have hbox : Box ((wr.setCell ⟨w.heap.size, 0, none⟩ (.int .i64 t)).setCell ⟨w.heap.size, 1, none⟩ (.int .i64 n)).drew w.heap.size (layCells t n) 28 := ((HF.out.res.put 0 (.int .i64 t)).put 1 (.int .i64 n)).drew
        have hnew : NewS w t n zs X Y ((wr.setCell ⟨w.heap.size, 0, none⟩ (.int .i64 t)).setCell ⟨w.heap.size, 1, none⟩ (.int .i64 n)).drew := ⟨((HF.out.mem.other (by omega) (by omega) _ _).other (by omega) (by omega) _ _).drew, ((HF.out.below.setCell (Nat.le_refl _) _).setCell (Nat.le_refl _) _).drew, by omega, by omega⟩
        generalize ((wr.setCell ⟨w.heap.size, 0, none⟩ (.int .i64 t)).setCell ⟨w.heap.size, 1, none⟩ (.int .i64 n)).drew = u at *
        have q0 : u.cell? ⟨w.heap.size, 0, none⟩ = some (.int .i64 t) := hbox.at 0 rfl
        have q1 : u.cell? ⟨w.heap.size, 1, none⟩ = some (.int .i64 n) := hbox.at 1 rfl
        go_wp2
        refine bodyPost_ret (v := .tuple #[.pointer (some ⟨X, 0, none⟩), .agg #[.int .i64 t, .int .i64 n]]) (by simp [results, Try.results8, go_sem, q0, q1]) rfl ⟨X, Y, zs, rfl, hnew, HF.out.sound, hall.out, HF.out.rest⟩
end Go.Proofs.Ytnphnhafifaaoaa.guard
