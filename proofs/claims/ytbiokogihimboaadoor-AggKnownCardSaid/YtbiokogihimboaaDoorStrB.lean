/-
  '[]byte(s)' of a string that is no constant: a row of its own.
-/
import Derived.Test.YtbiokogihimboaaDoorBytes
import Derived.Test.YtbiokogihimboaaDoorBaseC
import Derived.Lib.ConvBytes
import Derived.Laws.AppendOwn
namespace Go.Proofs.YtbiokogihimboaaDoor.Base
open Go.RowKit

theorem bytes_conv_fr (w : World) (e : TypeId) (s : ByteArray) : Fr0 w (Lib.bytesWorld w e s) := by
  refine ⟨?_, ?_, ?_, by rw [Lib.bytesWorld_size]; omega, fun k hk _ => Lib.bytesWorld_at_old w e s k hk⟩
  all_goals simp [Lib.bytesWorld, World.freeze, World.alloc, World.drew, -World.alloc_eq, -World.drew_eq]
theorem bytes_conv (w : World) (e : TypeId) (n : List UInt8) : BytesIs (Lib.bytesWorld w e ⟨n.toArray⟩) (.slice (some ⟨w.heap.size, 0, none⟩) n.length (grownCap w n.length 0 e)) n := by
  have hsz : (⟨n.toArray⟩ : ByteArray).size = n.length := size_str n
  refine ⟨_, _, w.heap.size, 0, rfl, ?_, fun _ => rfl, fun j hj => ?_⟩
  · exact grownCap_ge w _ _ _
  · rw [Nat.zero_add, Lib.bytesWorld_cell _ _ _ _ (by rw [hsz]; exact hj)]
end Go.Proofs.YtbiokogihimboaaDoor.Base
