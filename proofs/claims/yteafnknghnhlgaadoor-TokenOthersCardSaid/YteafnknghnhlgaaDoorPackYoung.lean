/-
  A slice that is new memory. No program stands here.
-/
import Derived.Test.YteafnknghnhlgaaDoorPackSpec
namespace Go.Proofs.YteafnknghnhlgaaDoor.Pack
open Go.RowKit Base

/-- nothing of it was there -/
def Young (w : World) (v : Value) : Prop := ∀ a n c, v = .slice (some a) n c → w.heap.size ≤ a.block
theorem young_nil (w : World) : Young w (.slice none 0 0) := fun a n c h => by cases h
end Go.Proofs.YteafnknghnhlgaaDoor.Pack
