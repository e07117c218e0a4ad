/-
  Steps of Mix.law for a class that is kept by all calls which only make memory.
-/
import Derived.Test.YtnglmkombogheaaMix
import Derived.Test.YtnglmkombogheaaGround
namespace Go.Proofs.Ytnglmkombogheaa.Base
open Go.RowKit
namespace Mix
section
variable {P : Program} {ops : Array Oper} {C : World → Prop} {Q : Act → World → Prop} {o : Oper} {rest : List (Kd × Oper)} {a : Act} {w : World}
/-- its guard was not asked itself -/
theorem wanted_void {j d : Nat} {b : Bool} (hg : o.guard = some (j, b)) (hd : (ops[j]?).bind (·.dst) = some d) (hv : a.tmps[d]? = some undef) : Region.wanted o (yielded ops a.tmps) = false := by
  unfold Region.wanted yielded
  rw [hg]
  simp only [hd, Option.bind_some, hv]
  rfl
/-- a struct loaded whole, alike in each world of the class -/
theorem go_sure_row (hw : Region.wanted o (yielded ops a.tmps) = true) (ty : TypeId) (x : Operand) (ho : o.op = .load ty x) (g : Nat) (hx : a.eval x = .pointer (some ⟨g, 0, none⟩)) (t : TypeId) (cs : Array Value) (fr : Nat × Nat) (d : TypeDesc) (hg : ∀ w, C w → w.heap[g]? = some (.cells cs t fr))
    (hu : P.underlying ty = some d) (hd : (match d with | .struct _ | .array _ _ => true | _ => false) = true) (hi : (P.info? ty).map (·.size) = some cs.size) (h2 : goes P ops C Q rest (a.put o.dst (.agg cs)) w) : goes P ops C Q ((.sure, o) :: rest) a w :=
  go_sure hw _ (fun w hC => gives_value (by simp only [execOp, ho, hx, Instr.loadAt, Instr.sureAddr, Sem.run_bind, Sem.run_pure, Result.andThen_ok, run_loadVar_row w g t ty cs fr d (hg w hC) hu hd hi])) h2
/-- bytes as a string -/
theorem go_sure_conv (hw : Region.wanted o (yielded ops a.tmps) = true) (tb ts : TypeId) (x : Operand) (ho : o.op = .convert tb ts x) (v u : Value) (hx : a.eval x = v) (hc : ∀ w, C w → (convert tb ts v).run P w = .ok u w) (h2 : goes P ops C Q rest (a.put o.dst u) w) : goes P ops C Q ((.sure, o) :: rest) a w :=
  go_sure hw _ (fun w hC => gives_value (by simp only [execOp, ho, hx, Sem.run_bind, Sem.run_pure, Result.andThen_ok, hc w hC])) h2
end
end Mix
end Go.Proofs.Ytnglmkombogheaa.Base
