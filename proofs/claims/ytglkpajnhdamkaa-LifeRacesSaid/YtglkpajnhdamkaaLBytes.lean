/- Bytes as they came in. -/
import Derived.Test.YtglkpajnhdamkaaMSit
namespace Go.Proofs.Ytglkpajnhdamkaa.life
open Go.RowKit mem

/-- Bytes in memory, nil or not. -/
def BytesAt (w : World) (a : Option Addr) (xs : List Int) : Prop := ∀ i, i < xs.length → 0 ≤ xs.getD i 0 ∧ xs.getD i 0 < 256 ∧ ∃ b, a = some b ∧ w.cell? (b.add i) = some (.int .u8 (xs.getD i 0))
theorem BytesAt.later {w w' : World} {a : Option Addr} {xs : List Int} (h : BytesAt w a xs) (hb : Below w.heap.size w w') : BytesAt w' a xs := by
  intro i hi
  obtain ⟨h0, h1, b, hb1, hc⟩ := h i hi
  exact ⟨h0, h1, b, hb1, (hb.cell (World.block_lt_of_cell? w _ hc)).trans hc⟩
end Go.Proofs.Ytglkpajnhdamkaa.life
