/- Two steps of a region that draws its order: an append whose run is known; a call by its contract. -/
import Derived.Test.YtfacojlheeoppaaRows
import Derived.WalkKit
import Derived.Deep.RegionLaw
namespace Go.Proofs.Ytfacojlheeoppaa.quiet
open Go.RowKit

section
variable {P : Program} {ops : Array Oper} {o : Oper} {a : Act} {w : World} {K : Act → World → Prop} {Q : Exit → Act → World → Prop} {E : Prop}
/-- An append of which it is known how it runs. -/
theorem step_known (hg : o.guard = none) (s x : Operand) (t : TypeId) (hop : o.op = Op.call { callee := Callee.builtin Builtin.append, args := #[s, x], argTypes := #[t, t] }) (v u v' : Value) (w' : World) (hs : a.eval s = v) (hx : a.eval x = u)
    (hrun : (Builtin.append_ #[t, t] o.type #[v, u]).run P w = .ok v' w') (hK : K (a.put o.dst v') w') : if Region.wanted o (yielded ops a.tmps) = true then Oper.wp P o a w K Q else E := by
  rw [if_pos (by simp [Region.wanted, hg])]
  unfold Oper.wp
  simp [execOp, hop, resolve, invoke, builtin, hs, hx, hrun, Result.andThen]
  exact hK
/-- A call of two arguments, by its contract. -/
theorem step_call2 (hg : o.guard = none) (f : FuncId) (s x : Operand) (t u : TypeId) (hop : o.op = Op.call { callee := Callee.value (Operand.func f), args := #[s, x], argTypes := #[t, u] }) (v y : Value) (hs : a.eval s = v) (hx : a.eval x = y) (hcf : (callFunc f #[v, y]).run P w = .ok (.enter f #[v, y]) w)
    {R : Value → World → Prop} (hc : Calls P f #[v, y] w fun e w' => ∃ r, e = .returned r ∧ R r w') (hK : ∀ r w', R r w' → K (a.put o.dst r) w') : if Region.wanted o (yielded ops a.tmps) = true then Oper.wp P o a w K Q else E := by
  rw [if_pos (by simp [Region.wanted, hg])]
  unfold Oper.wp
  simp only [go_sem] at hs hx
  simp [execOp, hop, go_sem]
  simp only [Array.getD_eq_getD_getElem?] at hs hx
  rw [hs, hx, hcf]
  show Calls P f #[v, y] w _
  refine Calls.mono hc (fun e w' he => ?_)
  obtain ⟨r, rfl, hr⟩ := he
  exact hK _ _ hr
end
end Go.Proofs.Ytfacojlheeoppaa.quiet
