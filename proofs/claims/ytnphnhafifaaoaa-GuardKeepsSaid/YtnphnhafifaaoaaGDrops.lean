/- The law GuardDrops answers true at any numbers and list. -/
import Derived.Test.YtnphnhafifaaoaaGAwake
namespace Go.Proofs.Ytnphnhafifaaoaa.guard
open Go.RowKit mem life

/-- Two memories of one layout, unlike ones. -/
structure Duo (W w : World) (b X Y X2 Y2 : Nat) (t n : Int) (zs ys : List Int) : Prop where
  room : Room W w b X Y t n zs
  two : MemS w X2 Y2 t n ys
  ne : X2 ≠ X ∧ X2 ≠ Y ∧ Y2 ≠ X ∧ Y2 ≠ Y ∧ b ≠ X2 ∧ b ≠ Y2
  x2 : W.heap.size ≤ X2
  y2 : W.heap.size ≤ Y2
section
variable {W w w1 : World} {b X Y X2 Y2 C : Nat} {t n : Int} {zs ys zs' ys' : List Int}
theorem Duo.next (h : Duo W w b X Y X2 Y2 t n zs ys) (hb : Below w.heap.size w w1) : Duo W w1 b X Y X2 Y2 t n zs ys := ⟨h.room.next hb, h.two.below hb, h.ne, h.x2, h.y2⟩
theorem Duo.alloc (h : Duo W w b X Y X2 Y2 t n zs ys) (o : Obj) : Duo W (w.alloc o) b X Y X2 Y2 t n zs ys := h.next ((Below.refl _ _).alloc (Nat.le_refl _) o)
theorem Duo.drew (h : Duo W w b X Y X2 Y2 t n zs ys) : Duo W w.drew b X Y X2 Y2 t n zs ys := h.next ((Below.refl _ _).drew)
theorem Duo.act (h : Duo W w b X Y X2 Y2 t n zs ys) (hm : MemS w1 X Y t n zs') (ha : Apart X Y w w1) : Duo W w1 b X Y X2 Y2 t n zs' ys :=
  ⟨h.room.act hm ha, h.two.moved (ha.block X2 h.two.ltX h.ne.1 h.ne.2.1) (ha.block Y2 h.two.ltY h.ne.2.2.1 h.ne.2.2.2.1), h.ne, h.x2, h.y2⟩
theorem Duo.act2 (h : Duo W w b X Y X2 Y2 t n zs ys) (hm : MemS w1 X2 Y2 t n ys') (ha : Apart X2 Y2 w w1) : Duo W w1 b X Y X2 Y2 t n zs ys' := by
  have r := h.room
  obtain ⟨n1, n2, n3, n4, n5, n6⟩ := h.ne
  exact ⟨⟨r.lay.apart ha n5 n6, r.mem.moved (ha.block X r.mem.ltX (Ne.symm n1) (Ne.symm n3)) (ha.block Y r.mem.ltY (Ne.symm n2) (Ne.symm n4)), ha.below r.below r.below.size h.x2 h.y2, r.b0, r.x0, r.y0, r.bx, r.by'⟩, hm, h.ne, h.x2, h.y2⟩
theorem Duo.moved (h : Duo W w b X Y X2 Y2 t n zs ys) (hm : MemS w1 X Y t n zs') (ha : Apart3 X Y C w w1) (hc : W.heap.size ≤ C) (cb : C ≠ b) (cx : C ≠ X2) (cy : C ≠ Y2) : Duo W w1 b X Y X2 Y2 t n zs' ys :=
  ⟨Room_moved h.room hm ha hc cb, h.two.moved (ha.block X2 h.two.ltX h.ne.1 h.ne.2.1 (Ne.symm cx)) (ha.block Y2 h.two.ltY h.ne.2.2.1 h.ne.2.2.2.1 (Ne.symm cy)), h.ne, h.x2, h.y2⟩
theorem Duo.made (h : Room W w b X Y t n zs) (hn : NewS w t n zs X2 Y2 w1) : Duo W w1 b X Y X2 Y2 t n zs zs := by
  have hl := h.lt
  have h1 := hn.x
  have h2 := hn.y
  exact ⟨h.next hn.below, hn.mem, by omega, by omega, by omega⟩
end
/-- Two memories that are the same. -/
theorem same_yes {w : World} {X Y X2 Y2 : Nat} {t n : Int} {zs ys : List Int} (hs : Sound t n zs) (h : MemS w X Y t n zs) (g : MemS w X2 Y2 t n ys) (e : zs = ys) :
    Calls Try.prog 20 #[.pointer (some ⟨X, 0, none⟩), .pointer (some ⟨X2, 0, none⟩)] w fun e w' => e = .returned (.bool true) ∧ Below w.heap.size w w' := by
  subst e
  have := hs.len
  have := hs.t1
  have := hs.n1
  exact Same_s h g zs.length true rfl rfl (by omega) (decide_eq_true rfl)
/-- A length as a number of its own. -/
theorem sound_len {t n : Int} {zs : List Int} (hs : Sound t n zs) : ∃ z : Nat, zs.length = z ∧ 0 < z ∧ z ≤ 1000 := by
  have := hs.len
  have := hs.t1
  have := hs.n1
  have := hs.n0
  have := hs.t0
  exact ⟨zs.length, rfl, by omega, by omega⟩

set_option maxRecDepth 100000 in
set_option maxHeartbeats 1000000 in
theorem drops_long (w : World) (y x : Int) (a : Option Addr) (N cap : Nat) (hl : 40 < (N : Int)) :
    Calls Try.prog 4 #[.int .u8 y, .slice a N cap, .int .u8 x] w fun e w' => e = .returned (.bool true) ∧ Below w.heap.size w w' := by
  go_enter Try.func4, Try.ntmps4
  go_wp2_with (go_at_call 7; refine (awake_any _).mono ?_; rintro e w1 ⟨rfl, hb⟩; have HB := Lib.hid hb; clear hb)
  go_returns
  exact ⟨rfl, HB.out⟩

set_option maxRecDepth 100000 in
set_option maxHeartbeats 1000000 in
theorem drops_short (w : World) (y x : Int) (a : Option Addr) (xs : List Int) (N cap : Nat) (hN : xs.length = N) (hl : (N : Int) ≤ 40) (hx : BytesAt w a xs) (y0 : 0 ≤ y) (y1 : y < 256) (x0 : 0 ≤ x) (x1 : x < 256) :
    Calls Try.prog 4 #[.int .u8 y, .slice a N cap, .int .u8 x] w fun e w' => e = .returned (.bool true) ∧ Below w.heap.size w w' := by
  have t0 : 1 ≤ 1 + y % 8 := by omega
  have t1 : 1 + y % 8 ≤ 8 := by omega
  have HX := Lib.hid hx
  have HN := Lib.hid hN
  clear hx hN
  go_enter Try.func4, Try.ntmps4
  go_wp2_with (go_at_call 7; refine (awake_any _).mono ?_; rintro e w1 ⟨rfl, hb⟩; have HB := Lib.hid hb; clear hb)
  generalize 1 + y % 8 = t at *
  refine (memory_full _ t 40 none [] 0 0 rfl (by omega) (by omega) (by omega) (by omega) (by omega) (Words.none _) (by simp)).mono ?_
  rintro e w2 ⟨X, Y, zs0, rfl, hnn, hs, hlv, hrs⟩
  have R0 : Hid (Room w (w2.alloc (.cells (layCells t 40) 28)) w2.heap.size X Y t 40 zs0) := Lib.hid (Room.made HB.out hnn)
  have HS := Lib.hid hs
  clear hnn hs hlv hrs
  go_wp2
  go_loopw [30] (fun i wr => ∃ (j : Nat) (zs : List Int), j ≤ N ∧ i = .int .i64 j ∧ Sound t 40 zs ∧ Room w wr w2.heap.size X Y t 40 zs) (fun i _ => N - (intOf i).toNat)
  case atStart => exact ⟨0, zs0, Nat.zero_le _, rfl, HS.out, R0.out⟩
  case round =>
    clear R0 HS
    obtain ⟨j, zs, hj, rfl, hs, hr⟩ := hrel
    have HS := Lib.hid hs
    have HR := Lib.hid hr
    clear hs hr
    have q0 : wr.cell? ⟨w2.heap.size, 0, none⟩ = some (.int .i64 t) := HR.out.lay.at 0 rfl
    have q1 : wr.cell? ⟨w2.heap.size, 1, none⟩ = some (.int .i64 40) := HR.out.lay.at 1 rfl
    by_cases hlt : j < N
    · obtain ⟨b0, b1, b, rfl, hc⟩ := (HX.out.later HR.out.below) j (by rw [HN.out]; exact hlt)
      generalize xs.getD j 0 = v at *
      have hwv : IntKind.u64.wrap v = v := by rw [IntKind.wrap_u64]; omega
      by_cases hjt : (j : Int) < 2 * t
      · go_wp2_with (first
          | (go_at_call 9; refine (Store_s R1.out.mem _ _).mono ?_; rintro e w4 ⟨rfl, hm, ha⟩; have R2 := Lib.hid (R1.out.act hm ha); clear hm ha)
          | (go_at_call 10; refine (Slot_any _ t 40 ((j : Int) / 2) ((j : Int) % 2) (by omega) (by omega) (by omega) (by omega) (by omega) (by omega)).mono ?_; rintro e w3 ⟨rfl, hb⟩; have R1 := Lib.hid (HR.out.next hb); clear hb))
        go_roundw
        case rel => exact ⟨j + 1, _, by omega, by go_num, sound_set HS.out b0 (by omega), R2.out⟩
        case measure => simp [intOf]; omega
      · go_wp2
        go_roundw
        case rel => exact ⟨j + 1, _, by omega, by go_num, HS.out, HR.out⟩
        case measure => simp [intOf]; omega
    · obtain ⟨z, hz, z0, z1⟩ := sound_len HS.out
      have HZ := Lib.hid hz
      have HS2 : Hid (Sound t 40 (dropped 40 zs (x % t))) := Lib.hid (sound_set (sound_set HS.out (by omega) (by omega)) (by omega) (by omega))
      have hk0 : 0 ≤ x % t := Int.emod_nonneg x (by omega)
      have hk1 : x % t < t := Int.emod_lt_of_pos x (by omega)
      clear hz HX HN
      have hwk : wrap64 (x % t) = x % t := IntWalk.wrap64_in _ ⟨by omega, by omega⟩
      go_wp2_with (first
        | (go_at_call 20; refine (same_yes HS2.out D8.out.room.mem D8.out.two rfl).mono ?_; rintro e w11 ⟨rfl, hb⟩; have D9 := Lib.hid (D8.out.next hb); clear hb)
        | (go_at_call 9; have _t := D7.out; refine (Store_s D7.out.two _ 0).mono ?_; rintro e w10 ⟨rfl, hm, ha⟩; have D8 : Hid (Duo w w10 w2.heap.size X Y X2 Y2 t 40 (dropped 40 zs (x % t)) (dropped 40 zs (x % t))) := Lib.hid (D7.out.act2 hm ha); clear hm ha)
        | (go_at_call 10; have _t := D6.out; refine (Slot_at _ t 40 (x % t) 1 (slotA 40 (2 * (x % t) + 1)) (by omega) (by omega) hk0 (by omega) (by omega) (by omega) rfl).mono ?_; rintro e w9 ⟨rfl, hb⟩; have D7 := Lib.hid (D6.out.next hb); clear hb)
        | (go_at_call 9; have _t := D5.out; refine (Store_s D5.out.two _ 0).mono ?_; rintro e w8 ⟨rfl, hm, ha⟩; have D6 := Lib.hid (D5.out.act2 hm ha); clear hm ha; have e4 : w8.cell? ⟨w2.heap.size, 0, none⟩ = some (.int .i64 t) := D6.out.room.lay.at 0 rfl; have e5 : w8.cell? ⟨w2.heap.size, 1, none⟩ = some (.int .i64 40) := D6.out.room.lay.at 1 rfl)
        | (go_at_call 10; have _t := D4.out; refine (Slot_at _ t 40 (x % t) 0 (slotA 40 (2 * (x % t))) (by omega) (by omega) hk0 (by omega) (by omega) (by omega) (by rw [show 2 * (x % t) + 0 = 2 * (x % t) by omega])).mono ?_; rintro e w7 ⟨rfl, hb⟩; have D5 := Lib.hid (D4.out.next hb); clear hb)
        | (go_at_call 17; go_loud (refine (drop_run HS.out (C3.out.1.next ((Below.refl _ _).alloc (Nat.le_refl _) _)) hk0 hk1 10 (by omega) (by omega) _ (by simp)).mono ?_; rintro e w6 ⟨rfl, s6, hcl⟩; have D4 := Lib.hid (D3.out.moved hcl.mem hcl.apart C3.out.2.1 C3.out.2.2.1 C3.out.2.2.2.1 C3.out.2.2.2.2); clear hcl; have e2 : w6.cell? ⟨w2.heap.size, 0, none⟩ = some (.int .i64 t) := D4.out.room.lay.at 0 rfl; have e3 : w6.cell? ⟨w2.heap.size, 1, none⟩ = some (.int .i64 40) := D4.out.room.lay.at 1 rfl))
        | (go_at_call 21; go_loud (refine (Drop_any _ t 40 (x % t)).mono ?_; rintro e w5 ⟨C, rfl, hbx, hb, hC⟩; have D3 := Lib.hid (D1.out.next hb); have C3 : Hid (Cl w5 w5 X Y C t 40 zs (x % t) 0 ∧ w.heap.size ≤ C ∧ C ≠ w2.heap.size ∧ C ≠ X2 ∧ C ≠ Y2) := Lib.hid (by have h1 := D1.out.room.lt; have h2 := D1.out.two.ltX; have h3 := D1.out.two.ltY; exact ⟨⟨D3.out.room.mem, hbx, Apart3.refl _⟩, by omega, by omega, by omega, by omega⟩); clear hbx hb hC))
        | (go_at_call 11; refine (Copy_s HR.out.mem z HZ.out z0 z1).mono ?_; rintro e w4 ⟨X2, Y2, rfl, hn⟩; have D1 := Lib.hid (Duo.made HR.out hn); clear hn; have e0 : w4.cell? ⟨w2.heap.size, 0, none⟩ = some (.int .i64 t) := D1.out.room.lay.at 0 rfl; have e1 : w4.cell? ⟨w2.heap.size, 1, none⟩ = some (.int .i64 40) := D1.out.room.lay.at 1 rfl))
      go_returns
      exact ⟨rfl, D9.out.room.below⟩
theorem drops_any (w : World) (y x : Int) (a : Option Addr) (xs : List Int) (N cap : Nat) (hN : xs.length = N) (hx : BytesAt w a xs) (y0 : 0 ≤ y) (y1 : y < 256) (x0 : 0 ≤ x) (x1 : x < 256) :
    Calls Try.prog 4 #[.int .u8 y, .slice a N cap, .int .u8 x] w fun e w' => e = .returned (.bool true) ∧ Below w.heap.size w w' := by
  by_cases hl : (N : Int) ≤ 40
  · exact drops_short w y x a xs N cap hN hl hx y0 y1 x0 x1
  · exact drops_long w y x a N cap (by omega)
end Go.Proofs.Ytnphnhafifaaoaa.guard
