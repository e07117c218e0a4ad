/-
  What a row's list gives of the table of the rounds.
-/
import Derived.Test.YteafnknghnhlgaaDoorShaMix
import Derived.Test.YteafnknghnhlgaaDoorRows
import Derived.Deep.DeepHandedRow
import Derived.Lib.LaidTab
namespace Go.Proofs.YteafnknghnhlgaaDoor.Sha
open Go.RowKit Base
theorem gTab : Tryd.prog.globalNamed "warrener/sum.rounds" = some 0 := by kernel_rfl
theorem gTabType : (Tryd.prog.globals[0]?).map (·.type) = some 73 := by kernel_rfl
theorem cells58 : Tryd.prog.cellsOf 73 = 64 := by kernel_rfl
theorem cells40 : Tryd.prog.cellsOf 59 = 1 := by kernel_rfl
theorem rounds_laid {W : World} (h : laidMetH Tryd.prog [("warrener/sum.rounds", Rows.laid_warrener_sum_rounds)] W) : Rounds W := fun i hi => by
  have ht : Lib.TabIs Tryd.prog W "warrener/sum.rounds" .u32 kl := Lib.tabIs_of_head (rest := []) gTab gTabType Tryd.underlying73 Tryd.underlying59 cells40 cells58 h
  exact ht.cell gTab i hi
def laidObj : Obj → Obj
  | .cells _ t frozen => .cells (kl.map (Value.int .u32)).toArray t frozen
  | o => o
end Go.Proofs.YteafnknghnhlgaaDoor.Sha
