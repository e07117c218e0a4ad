/-
  The reference's Rising, Add, Range.
-/
import Derived.Test.YtbiokogihimboaaDoorSerSpec
import Derived.Test.YtbiokogihimboaaDoorSerCut
import Derived.Test.YtbiokogihimboaaDoorTenantRef
import Derived.Deep.DeepCutAuto
import Derived.Deep.LoopGhost
namespace Go.Proofs.YtbiokogihimboaaDoor.Series
open Go.RowKit Base _root_.Go.Proofs.YtbiokogihimboaaDoor.Tenant

theorem infoR : (Tryd.prog.info? 63).map (fun i => (i.zero, i.size, i.bytes)) = some (some (.agg #[.int .i64 0, .int .i64 0]), 2, 16) := by kernel_rfl
def AddPost (l m : List Sm) (r : Int) (w : World) (e : Ending) (w' : World) : Prop := ∃ v, e = .returned (.tuple #[v, .int .i64 (addErr l m r)]) ∧ PairsIs w' v (addOut l m r) ∧ Fr0 w w'
end Go.Proofs.YtbiokogihimboaaDoor.Series
