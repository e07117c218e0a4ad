/-
  The walks of layer 1's laws over the contracts of sum.Of, sum.Text, sum.Parse.
-/
import Derived.Test.YteafnknghnhlgaaDoorShaOf
import Derived.Test.YteafnknghnhlgaaDoorShaParse
import Derived.Test.YteafnknghnhlgaaDoorLaw
import Derived.Lib.SlBytesConst
namespace Go.Proofs.YteafnknghnhlgaaDoor.Sha
open Go.RowKit Base

/-- one part alone, as the walk lays it -/
theorem parts_one (w : World) (v : Value) (l : List UInt8) (hv : BytesIs w v l) (t : TypeId) (N : Nat) (hN : N = w.heap.size) : PartsIs (w.alloc (.cells #[v] t)) (.slice (some ⟨N, 0, none⟩) 1 1) [l] := by
  subst hN
  refine ⟨_, 1, w.heap.size, 0, rfl, by simp, by simp, fun _ => rfl, fun i hi => ?_⟩
  have : i = 0 := by simpa using hi
  subst this
  refine ⟨v, ?_, hv.fr0 ((Fr.refl _ _).alloc _)⟩
  rw [cell_of_row _ _ _ _ _ _ (heap_alloc_new w _)]
  rfl
theorem bytes_marked (w : World) (l : List UInt8) (c : Array Value) (t : TypeId) (fr : Nat × Nat) (n : Nat) (hn : n = l.length) (cap : Nat) (hcap : n ≤ cap) (hc : bvals l = c.toList) (N : Nat) (hN : N = w.heap.size) :
    BytesIs (w.alloc (.cells c t fr)) (.slice (some ⟨N, 0, none⟩) n cap) l := by
  subst hn hN
  refine ⟨_, cap, w.heap.size, 0, rfl, hcap, fun _ => rfl, fun j hj => ?_⟩
  rw [cell_of_row _ _ _ _ _ _ (heap_alloc_new w _), Nat.zero_add]
  have := bvals_get l j hj
  rw [hc] at this
  simpa using this
def abc : List UInt8 := [97, 98, 99]
def abcText : ByteArray := ⟨#[98, 97, 55, 56, 49, 54, 98, 102, 56, 102, 48, 49, 99, 102, 101, 97, 52, 49, 52, 49, 52, 48, 100, 101, 53, 100, 97, 101, 50, 50, 50, 51, 98, 48, 48, 51, 54, 49, 97, 51, 57, 54, 49, 55, 55, 97, 57, 99, 98, 52, 49, 48, 102, 102, 54, 49, 102, 50, 48, 48, 49, 53, 97, 100]⟩
theorem abc_text : hexText (digest abc) = abcText.data.toList := by decide +kernel
theorem digest_length (m : List UInt8) : (digest m).length = 32 := by simp [digest]

end Go.Proofs.YteafnknghnhlgaaDoor.Sha
