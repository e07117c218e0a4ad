/-
  More small general facts: frames out of 'Below', cells of rows of zeros.
-/
import Derived.Test.YtbiokogihimboaaDoorBytes
import Derived.Laws.CopyOwn
namespace Go.Proofs.YtbiokogihimboaaDoor.Base
open Go.RowKit

theorem Fr.of_below_ge {B : Nat} {w w' : World} (h : Below B w w') : Fr (fun k => B ≤ k) w w' := ⟨h.os, h.tape, h.output, h.size, fun k _ hs => h.block k (by omega)⟩
/-- what a call did to the blocks that it made itself is no business of its caller's -/
theorem Fr.then_below {S : Nat → Prop} {B : Nat} {a w w' : World} (h : Fr S a w) (hb : Below B w w') (hB : ∀ i, i < a.heap.size → B ≤ i → S i) : Fr S a w' := h.trans (Fr.of_below_ge hb) hB
theorem bvals_zeros (n : Nat) : bvals (List.replicate n 0) = List.replicate n (Value.int .u8 0) := by
  unfold bvals
  rw [List.map_replicate]
  rfl
theorem splice_zero (l : List UInt8) (n : Nat) : splice (bvals (List.replicate n 0)) 0 (bvals l) = bvals (l ++ List.replicate (n - l.length) 0) := by
  simp only [splice, List.take_zero, List.nil_append, bvals_append, bvals_length, Nat.zero_add, bvals_zeros, List.drop_replicate]
theorem zerosB (n : Nat) : (Array.replicate n (Value.int .u8 0)) = (bvals (List.replicate n 0)).toArray := by
  rw [bvals_zeros, List.toArray_replicate]
theorem bvals_arr_one (l : List UInt8) : (bvals l).toArray.all (·.oneCell') = true := by
  rw [Array.all_eq_true_iff_forall_mem]
  intro v hv
  exact bvals_one l v (by simpa using hv)
theorem bvals_arr_size (l : List UInt8) : (bvals l).toArray.size = l.length := by simp [bvals_length]
/-- a whole block of bytes reads as its list -/
theorem BytesIs.block {w : World} {g : Nat} {l : List UInt8} {t : TypeId} {fr : Nat × Nat} (h : w.heap[g]? = some (.cells (bvals l).toArray t fr)) (n cap : Nat) (hn : n = l.length) (hcap : n ≤ cap) : BytesIs w (.slice (some ⟨g, 0, none⟩) n cap) l := by
  subst hn
  refine ⟨_, cap, g, 0, rfl, hcap, fun _ => rfl, fun j hj => ?_⟩
  rw [Nat.zero_add, cell_of_row _ _ _ _ _ _ h, toArray_get]
  exact bvals_get l j hj
end Go.Proofs.YtbiokogihimboaaDoor.Base
