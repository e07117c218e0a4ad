/-
  What a row's list gives of the table of the rests.
-/
import Derived.Test.YtggdpmfghbnhcaaDoorCrcWalk
import Derived.Test.YtggdpmfghbnhcaaDoorRows
import Derived.Deep.DeepHandedRow
import Derived.Lib.LaidTab
namespace Go.Proofs.YtggdpmfghbnhcaaDoor.Crc
open Go.RowKit Base
def restI : List Int := [0, 498536548, 997073096, 651767980, 1994146192, 1802195444, 1303535960, 1342533948, 3988292384, 4027552580, 3604390888, 3412177804, 2607071920, 2262029012, 2685067896, 3183342108]
theorem restI_get : ∀ k : Fin 16, restI.getD k.val 0 = ((restL.getD k.val 0 : Nat) : Int) := by decide +kernel
theorem gTab : Tryd.prog.globalNamed "warrener/crc.rests" = some 0 := by kernel_rfl
theorem gTabType : (Tryd.prog.globals[0]?).map (·.type) = some 68 := by kernel_rfl
theorem cellsR : Tryd.prog.cellsOf 68 = 16 := by kernel_rfl
theorem cellsU : Tryd.prog.cellsOf 50 = 1 := by kernel_rfl
theorem rests_laid {W : World} (h : laidMetH Tryd.prog [("warrener/crc.rests", Rows.laid_warrener_crc_rests)] W) : Rests W := fun i hi => by
  have ht : Lib.TabIs Tryd.prog W "warrener/crc.rests" .u32 restI := Lib.tabIs_of_head (rest := []) gTab gTabType Tryd.underlying68 Tryd.underlying50 cellsU cellsR h
  rw [← restI_get ⟨i, hi⟩]
  exact ht.cell gTab i hi
def laidObj : Obj → Obj
  | .cells _ t frozen => .cells (restI.map (Value.int .u32)).toArray t frozen
  | o => o
end Go.Proofs.YtggdpmfghbnhcaaDoor.Crc
