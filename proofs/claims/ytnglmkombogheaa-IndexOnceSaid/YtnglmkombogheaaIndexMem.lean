/-
  An index in a law's hands: its blocks are from B on; entries in cells. No program stands here.
-/
import Derived.Test.YtnglmkombogheaaIndexSpec
import Derived.Test.YtnglmkombogheaaWays
import Derived.Test.YtnglmkombogheaaOrdAll
import Derived.Test.YtnglmkombogheaaLawA
namespace Go.Proofs.Ytnglmkombogheaa.Index
open Go.RowKit Base

def touchSt (L : List En) (k : ByteArray) : List En := if hasX k L = true then setSt L (place k L : Int) true else L
theorem e5_one (e : En) : ∀ u ∈ (e5 e).toList, u.oneCell' = true := by
  intro u hu
  simp only [e5, List.mem_cons, List.not_mem_nil, or_false] at hu
  rcases hu with rfl | rfl | rfl | rfl | rfl <;> rfl
theorem OkX.touch {L : List En} (h : OkX L) (k : ByteArray) : OkX (touchSt L k) := by
  unfold touchSt
  split
  · exact h.set _ _
  · exact h
/-- what a law's O may be: all from B on -/
theorem grown_from {B : Nat} {w w' : World} {k : Nat} (h : Ord.Grown (fun k => B ≤ k) w w' k) (hB : B ≤ w.heap.size) : B ≤ k := by
  rcases h with h | h
  · exact h
  · omega
theorem fr0_from {B : Nat} {w0 w w' : World} (h0 : Fr0 w0 w) (h : Fr (fun k => B ≤ k) w w') (hB : w0.heap.size ≤ B) : Fr0 w0 w' := Fr.trans h0 h (fun i hi e => by
  have e' : B ≤ i := e
  omega)
end Go.Proofs.Ytnglmkombogheaa.Index
