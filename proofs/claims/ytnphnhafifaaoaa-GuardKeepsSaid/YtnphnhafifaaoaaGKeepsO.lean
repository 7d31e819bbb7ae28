/- Pairs of bytes as they came in; a byte and bytes behind it. -/
import Derived.Test.YtnphnhafifaaoaaLTab
import Derived.Test.YtnphnhafifaaoaaGKeepsP
import Derived.Deep.Slices
import Derived.Lib.SmallJoins
import Derived.ChangeSame
import Derived.Laws.AppendOwnNone
namespace Go.Proofs.Ytnphnhafifaaoaa.guard
open Go.RowKit mem life
/-- Pairs of bytes in memory, nil or not. -/
def PairsAt (w : World) (a : Option Addr) (ps : List (Int × Int)) : Prop := ∀ i, (h : i < ps.length) → 0 ≤ ps[i].1 ∧ ps[i].1 < 256 ∧ 0 ≤ ps[i].2 ∧ ps[i].2 < 256 ∧ ∃ b, a = some b ∧ w.cell? (b.add (i * 2)) = some (.int .u8 ps[i].1) ∧ w.cell? ⟨(b.add (i * 2)).block, (b.add (i * 2)).off + 1, none⟩ = some (.int .u8 ps[i].2)
theorem PairsAt.later {w w' : World} {a : Option Addr} {ps : List (Int × Int)} (h : PairsAt w a ps) (hb : Below w.heap.size w w') : PairsAt w' a ps := by
  intro i hi
  obtain ⟨h0, h1, h2, h3, b, hb1, hc, hd⟩ := h i hi
  exact ⟨h0, h1, h2, h3, b, hb1, (hb.cell (World.block_lt_of_cell? w _ hc)).trans hc, (hb.cell (World.block_lt_of_cell? w _ hd)).trans hd⟩
theorem PairsAt.get {w : World} {a : Option Addr} {ps : List (Int × Int)} (h : PairsAt w a ps) {i : Nat} (hi : i < ps.length) : ∃ (u v : Int) (b : Addr), a = some b ∧ 0 ≤ u ∧ u < 256 ∧ 0 ≤ v ∧ v < 256 ∧ w.cell? (b.add (i * 2)) = some (.int .u8 u) ∧ w.cell? ⟨(b.add (i * 2)).block, (b.add (i * 2)).off + 1, none⟩ = some (.int .u8 v) := by
  obtain ⟨h0, h1, h2, h3, b, hb, hc, hd⟩ := h i hi
  exact ⟨_, _, b, hb, h0, h1, h2, h3, hc, hd⟩
theorem Tryinfo_byte : (Try.prog.info? 5).map (fun i => (i.zero, i.size, i.bytes)) = some (some (.int .u8 0), 1, 1) := by kernel_rfl
/-- What owns bytes is a row of them. -/
theorem bytes_of {w : World} {base n : Nat} {v : Value} {xs : List Int} (n0 : 0 < n) (hr : ∀ x ∈ xs, 0 ≤ x ∧ x < 256) (h : w.ownsRow base 5 1 v n (xs.map (Value.int .u8))) : ∃ g c, v = .slice (some ⟨g, 0, none⟩) n c ∧ BytesAt w (some ⟨g, 0, none⟩) xs := by
  obtain ⟨hl, ⟨rfl, h0⟩ | ⟨g, cap, cur, rfl, hb, hg, hn, hc, hs, ht⟩⟩ := h
  · omega
  · refine ⟨g, cap, rfl, fun i hi => ?_⟩
    have hm := hr (xs.getD i 0) (by rw [List.getD_eq_getElem?_getD, List.getElem?_eq_getElem hi]; exact List.getElem_mem _)
    refine ⟨hm.1, hm.2, _, rfl, ?_⟩
    rw [Addr.add_lit, Nat.zero_add, Joins.cell_of_block hg]
    have h1 := congrArg (fun l => l[i]?) ht
    simp only [List.getElem?_take, List.getElem?_map] at h1
    rw [List.length_map] at hl
    rw [if_pos (by omega)] at h1
    rw [List.getD_eq_getElem?_getD, List.getElem?_eq_getElem hi] at *
    simpa using h1
theorem bytes_append (w : World) (g : Nat) (x : Int) (hb : Box w g #[.int .u8 x] 5) (a2 : Option Addr) (xs : List Int) (M cap2 : Nat) (hM : xs.length = M) (hl : M ≤ 60) (hx : BytesAt w a2 xs) (h0 : a2 = none → M = 0 ∧ cap2 = 0) (x0 : 0 ≤ x) (x1 : x < 256) (ty : TypeId) :
    ∃ g' c' w', (Builtin.append_ #[22, 22] ty #[.slice (some ⟨g, 0, none⟩) 1 1, .slice a2 M cap2]).run Try.prog w = .ok (.slice (some ⟨g', 0, none⟩) (1 + M) c') w' ∧ BytesAt w' (some ⟨g', 0, none⟩) (x :: xs) ∧ w.grownBy w' (some g) := by
  obtain ⟨i0, hi, hz0, hz1, hz2⟩ := info_parts Tryinfo_byte
  have hown : w.ownsRow g 5 1 (.slice (some ⟨g, 0, none⟩) 1 1) 1 [.int .u8 x] := ⟨rfl, Or.inr ⟨g, 1, _, rfl, Nat.le_refl _, hb, Nat.le_refl _, by unfold maxLen; omega, rfl, rfl⟩⟩
  have hbytes : ∀ y ∈ xs, 0 ≤ y ∧ y < 256 := fun y hy => by
    obtain ⟨i, hi, rfl⟩ := List.getElem_of_mem hy
    obtain ⟨b0, b1, _⟩ := hx i hi
    rw [List.getD_eq_getElem?_getD, List.getElem?_eq_getElem hi] at b0 b1
    exact ⟨b0, b1⟩
  have hall : ∀ y ∈ x :: xs, 0 ≤ y ∧ y < 256 := fun y hy => by
    rcases List.mem_cons.1 hy with rfl | hy
    · exact ⟨x0, x1⟩
    · exact hbytes y hy
  cases a2 with
  | none =>
    obtain ⟨rfl, rfl⟩ := h0 rfl
    have hnil : xs = [] := List.eq_nil_of_length_eq_zero hM
    subst hnil
    have hrun := run_append_owned_none (P := Try.prog) (w := w) g 22 ty 5 i0 1 Try.underlying22 hi _ 1 [.int .u8 x] hown
    obtain ⟨g', c', he, hby⟩ := bytes_of (xs := [x]) (by omega) hall hown
    cases he
    exact ⟨g, 1, w, hrun, hby, ⟨rfl, rfl, rfl, Nat.le_refl _, fun _ _ _ => rfl⟩⟩
  | some ad =>
    have hnews : ∀ j u, (xs.map (Value.int .u8))[j]? = some u → w.cell? (ad.add j) = some u := by
      intro j u hu
      rw [List.getElem?_map] at hu
      obtain ⟨y, hy, rfl⟩ := Option.map_eq_some_iff.1 hu
      obtain ⟨hlt, hye⟩ := List.getElem?_eq_some_iff.1 hy
      obtain ⟨_, _, b, hb1, hc⟩ := hx j hlt
      cases hb1
      rw [List.getD_eq_getElem?_getD, hy] at hc
      exact hc
    obtain ⟨v', w', hrun, hown', hg, _⟩ := run_append_own (P := Try.prog) w g 22 ty 5 i0 (.int .u8 0) 1 1 Try.underlying22 hi hz0 hz1 hz2 rfl (by decide) _ 1 [.int .u8 x] hown ad M cap2 (xs.map (Value.int .u8)) (by rw [List.length_map]; omega) hnews
      (fun u hu => by obtain ⟨y, _, rfl⟩ := List.mem_map.1 hu; rfl) (by unfold maxLen; omega) (by omega) (by have := hb.lt; omega)
    have e : [Value.int .u8 x] ++ xs.map (Value.int .u8) = (x :: xs).map (Value.int .u8) := rfl
    rw [e] at hown'
    obtain ⟨g', c', rfl, hby⟩ := bytes_of (by omega) hall hown'
    exact ⟨g', c', w', hrun, hby, hg⟩
theorem nodesTo_mono (m : Int) (xs : List Int) (x : Int) : ∀ (j d : Nat), x ∈ nodesTo m xs j → x ∈ nodesTo m xs (j + d)
  | _, 0, h => h
  | j, d + 1, h => by
    rw [← Nat.add_assoc, nodesTo]
    exact List.mem_append.2 (Or.inl (nodesTo_mono m xs x j d h))
theorem first_node (k : Int) (xs : List Int) (M : Nat) (k0 : 1 ≤ k) (k1 : k ≤ 40) : k ∈ nodesTo 40 ((k - 1) :: xs) (1 + M) := by
  apply nodesTo_mono 40 _ _ 1 M
  have e : 1 + (k - 1) % 40 = k := by omega
  simp [nodesTo, e]
theorem Looking.ints {W w : World} {X Y C : Nat} {t n : Int} {zs L ws : List Int} (h : Looking W X Y C t n zs L ws w) : Ints W X Y C := by
  obtain ⟨nv, tv, hi, _⟩ := h
  exact hi
/-- A block of later days was written, or is new. -/
theorem Room_grown {W w w' : World} {b X Y g : Nat} {t n : Int} {zs : List Int} (h : Room W w b X Y t n zs) (hg : w.grownBy w' (some g)) (hl : b < g ∧ X < g ∧ Y < g ∧ W.heap.size ≤ g) : Room W w' b X Y t n zs := by
  have k : ∀ d, d < w.heap.size → d < g → w'.heap[d]? = w.heap[d]? := fun d hd hr => hg.block d hd (fun e => by have := Option.some.inj e; omega)
  exact ⟨(k b h.lt.1 hl.1).trans h.lay, h.mem.moved (k X h.lt.2.1 hl.2.1) (k Y h.lt.2.2.1 hl.2.2.1), h.below.grown hg h.below.size (fun k hk => by obtain rfl := Option.some.inj hk; exact hl.2.2.2), h.b0, h.x0, h.y0, h.bx, h.by'⟩
theorem Nums.list {w : World} {lo : Nat} {v : Value} {L : List Int} (h : Nums w lo v L) : ∃ a c, v = .slice a L.length c ∧ ListAt w lo a L := by
  rcases h with ⟨rfl, rfl⟩ | ⟨h0, g, c, rfl, h2, hr, _⟩
  · exact ⟨none, 0, rfl, Or.inl ⟨rfl, rfl⟩⟩
  · exact ⟨_, c, rfl, Or.inr ⟨g, rfl, h2, hr⟩⟩
theorem ListAt_drew {w : World} {lo : Nat} {a : Option Addr} {L : List Int} (h : ListAt w lo a L) : ListAt w.drew lo a L := h.below ((Below.refl _ _).drew)
/-- Is a number in a list? As it is known. -/
theorem contains_is (w : World) (lo : Nat) (a : Option Addr) (L : List Int) (cap : Nat) (x : Int) (q : Bool) (hq : decide (x ∈ L) = q) (hl : L.length ≤ 1000) (h : ListAt w lo a L) :
    Calls Try.prog 23 #[.slice a L.length cap, .int .i64 x] w fun e w' => e = .returned (.bool q) ∧ w = w' := by
  subst hq
  exact contains_any w lo a L _ cap x rfl hl h
theorem taken_is {w : World} {X Y : Nat} {t n : Int} {zs : List Int} (hs : Sound t n zs) (hm : MemS w X Y t n zs) (i : Int) (i0 : 1 ≤ i) (i1 : i ≤ n) (q : Bool) (hq : takenB n zs i = q) :
    Calls Try.prog 24 #[.pointer (some ⟨X, 0, none⟩), .agg #[.int .i64 t, .int .i64 n], .int .i64 i] w fun e w' => e = .returned (.bool q) ∧ Below w.heap.size w w' := by
  subst hq
  exact taken_in hs hm i i0 i1
/-- What stands still while the law's loops go round. -/
structure B5 (W W0 : World) (b X Y C : Nat) (av : Value) (A : List Int) : Prop where
  lay : Box W0 b (layCells 4 40) 28
  ask : Nums W0 0 av A
  below : Below W.heap.size W W0
  x0 : W.heap.size ≤ X
  y0 : W.heap.size ≤ Y
  c0 : W.heap.size ≤ C
  ne : b ≠ X ∧ b ≠ Y ∧ b ≠ C
  ints : Ints W0 X Y C
section
variable {W W0 w : World} {b X Y C : Nat} {av : Value} {A : List Int}
theorem B5.lay' (h : B5 W W0 b X Y C av A) (ha : Apart3 X Y C W0 w) : Box w b (layCells 4 40) 28 := ha.box h.lay h.ne.1 h.ne.2.1 h.ne.2.2
theorem B5.ask' (h : B5 W W0 b X Y C av A) (ha : Apart3 X Y C W0 w) : Nums w 0 av A := h.ask.moved fun g cs _ hg => ha.block g (Array.getElem?_eq_some_iff.1 hg).1 (h.ints g cs hg).1 (h.ints g cs hg).2.1 (h.ints g cs hg).2.2
theorem B5.below' (h : B5 W W0 b X Y C av A) (ha : Apart3 X Y C W0 w) : Below W.heap.size W w := ha.below h.below h.below.size h.x0 h.y0 h.c0
end
/-- An append of which it is known how it runs. -/
theorem wpList_known {P : Program} {w : World} {ops : Array Oper} {rest : List Oper} {o : Oper} {a : Act} {Q : Exit → Act → World → Prop} (hgd : o.guard = none) (s x : Operand) (t : TypeId)
    (ho : o.op = .call { callee := .builtin .append, args := #[s, x], argTypes := #[t, t] }) (v u v' : Value) (w' : World) (hs : a.eval s = v) (hx : a.eval x = u)
    (hrun : (Builtin.append_ #[t, t] o.type #[v, u]).run P w = .ok v' w') (h : wpList P ops Q rest (a.put o.dst v') w') : wpList P ops Q (o :: rest) a w := by
  refine wpList_plain hgd fun K hK => ?_
  unfold Oper.wp
  simp [execOp, ho, resolve, invoke, builtin, hs, hx, hrun, Result.andThen]
  exact hK _ _ h
end Go.Proofs.Ytnphnhafifaaoaa.guard
namespace Go.Proofs.Ytnphnhafifaaoaa.law
open Go.ChangeShapes Go.WideShapes Go.ChangeAt Go.RowKit Go.Deep

theorem add_spelled (a : Addr) (m j : Nat) (hj : j ≠ 0) : a.add (m + j) = ⟨(a.add m).block, (a.add m).off + j, none⟩ := by
  unfold Addr.add
  rw [if_neg (by omega)]
  by_cases hm : m = 0
  · subst hm
    simp
  · rw [if_neg hm]
    simp
    omega
section
variable {H : Type} {enc : TypeId × Value → H} {W : World} {b0 base : Nat} {spare : Nat → Bool} {held : Bool} {r : Reach} {v : Value} {d : DataW H} {p : List MemPlace}
/-- A pair by value. -/
theorem open_pair (hv : Value.okWide Try.prog W r b0 55 v) (h : DataW.Trod enc Try.prog W base spare held 55 v d p) : ∃ x y : Int, v = .agg #[.int .u8 x, .int .u8 y] ∧ 0 ≤ x ∧ x < 256 ∧ 0 ≤ y ∧ y < 256 := by
  obtain ⟨cs, rfl, hsz, hc⟩ := open_row Try.underlying55 cellsByte (by kernel_rfl) hv h
  obtain ⟨a, b, rfl⟩ := array_two hsz
  obtain ⟨n0, y0, h0⟩ := hc 0 a rfl
  obtain ⟨n1, y1, h1⟩ := hc 1 b rfl
  obtain ⟨x, rfl, wx⟩ := cell_int Try.underlying5 h0
  obtain ⟨y, rfl, wy⟩ := cell_int Try.underlying5 h1
  exact ⟨x, y, rfl, (u8_wf wx).1, (u8_wf wx).2, (u8_wf wy).1, (u8_wf wy).2⟩
/-- Bytes; nil ones are none at all. -/
theorem open_bytes0 (hv : Value.okWide Try.prog W r b0 22 v) (h : DataW.Trod enc Try.prog W base spare held 22 v d p) :
    ∃ (a : Option Addr) (xs : List Int) (N cap : Nat), v = .slice a N cap ∧ xs.length = N ∧ life.BytesAt W a xs ∧ (a = none → N = 0 ∧ cap = 0) := by
  obtain ⟨a1, len, cap, rfl⟩ := okWide_slice Try.underlying22 hv
  have h' := h
  obtain ⟨fuel, hf⟩ := h
  rcases open_ints Try.underlying22 Try.underlying5 cellsByte hf with ⟨hcs, _⟩ | ⟨b, len', cap', zs, hcs, _⟩
  · simp [Value.cells] at hcs
    obtain ⟨rfl, rfl, rfl⟩ := hcs
    exact ⟨none, [], 0, 0, rfl, rfl, fun i hi => absurd hi (by simp), fun _ => ⟨rfl, rfl⟩⟩
  · simp [Value.cells] at hcs
    obtain ⟨rfl, rfl, rfl⟩ := hcs
    obtain ⟨a, xs, N, c, he, hN, hx⟩ := open_bytes hv h'
    cases he
    exact ⟨_, xs, _, _, rfl, hN, hx, fun h => by cases h⟩
/-- A slice of pairs. -/
theorem open_pairs (hv : Value.okWide Try.prog W r b0 56 v) (h : DataW.Trod enc Try.prog W base spare held 56 v d p) :
    ∃ (a : Option Addr) (ps : List (Int × Int)) (M cap : Nat), v = .slice a M cap ∧ ps.length = M ∧ guard.PairsAt W a ps := by
  obtain ⟨a1, len, cap, rfl⟩ := okWide_slice Try.underlying56 hv
  obtain ⟨fuel, hf⟩ := h
  rcases open_slice Try.underlying56 hf with ⟨hcs, _⟩ | ⟨b, len', cap', m, n, D, Pl, hcs, _, hle, _, hm, _, element⟩
  · simp [Value.cells] at hcs
    obtain ⟨rfl, rfl, rfl⟩ := hcs
    exact ⟨none, [], 0, 0, rfl, rfl, fun i hi => absurd hi (by simp)⟩
  · simp [Value.cells] at hcs
    obtain ⟨rfl, rfl, rfl⟩ := hcs
    have hlm : len ≤ m := by rw [hm]; split <;> omega
    have h2 : Try.prog.cellsOf 55 = 2 := by kernel_rfl
    have each : ∀ i, i < len → ∃ o : Int × Int, 0 ≤ o.1 ∧ o.1 < 256 ∧ 0 ≤ o.2 ∧ o.2 < 256 ∧ W.cell? (b.add (i * 2)) = some (.int .u8 o.1) ∧ W.cell? ⟨(b.add (i * 2)).block, (b.add (i * 2)).off + 1, none⟩ = some (.int .u8 o.2) := by
      intro i hi
      obtain ⟨cs, hc, hr⟩ := element i (by omega)
      rw [h2] at hc
      obtain ⟨_, hl, cell⟩ := World.cells?_some hc
      match cs, hl with
      | [v0, v1], _ =>
        obtain ⟨xs, n, _, _, _, hlen, hg⟩ := DataW.trod_array Try.underlying55 hr
        have g0 := hg 0 (by omega)
        have g1 := hg 1 (by omega)
        rw [cellsByte] at g0 g1
        rw [show ([v0, v1].drop (0 * 1)).take 1 = [v0] from rfl, List.getElem?_eq_getElem (by omega)] at g0
        rw [show ([v0, v1].drop (1 * 1)).take 1 = [v1] from rfl, List.getElem?_eq_getElem (by omega)] at g1
        obtain ⟨x, rfl, wx⟩ := cell_int Try.underlying5 g0
        obtain ⟨y, rfl, wy⟩ := cell_int Try.underlying5 g1
        have c0 := cell 0 (by omega)
        have c1 := cell 1 (by omega)
        rw [Go.Deep.add_add] at c0 c1
        refine ⟨(x, y), (u8_wf wx).1, (u8_wf wx).2, (u8_wf wy).1, (u8_wf wy).2, c0, ?_⟩
        rw [← add_spelled b (i * 2) 1 (by omega)]
        exact c1
    have : Inhabited (Int × Int) := ⟨(0, 0)⟩
    obtain ⟨f, hf⟩ := choose_lt each
    refine ⟨some b, (List.range len).map f, len, cap, rfl, by simp, ?_⟩
    intro i hi
    have hi2 : i < len := by simpa using hi
    obtain ⟨e0, e1, e2, e3, e4, e5⟩ := hf i hi2
    simp only [List.getElem_map, List.getElem_range]
    exact ⟨e0, e1, e2, e3, b, rfl, e4, e5⟩
end
end Go.Proofs.Ytnphnhafifaaoaa.law
