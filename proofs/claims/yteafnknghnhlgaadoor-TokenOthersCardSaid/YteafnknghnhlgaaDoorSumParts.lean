/-
  SumParts: however bytes are parted, their sum is the same.
-/
import Derived.Test.YteafnknghnhlgaaDoorSumWalk
import Derived.Test.YteafnknghnhlgaaDoorHeld
import Derived.Test.YteafnknghnhlgaaDoorArr
import Derived.Deep.AppendLies
namespace Go.Proofs.YteafnknghnhlgaaDoor.Sha
open Go.RowKit Base

theorem info30 : (Tryd.prog.info? 23).map (fun i => (i.zero, i.size, i.bytes)) = some (some (.slice none 0 0), 1, 24) := by kernel_rfl
theorem bytes_snoc {w : World} {vs : List Value} {ps : List (List UInt8)} {v : Value} {l : List UInt8} (h : vs.length = ps.length) (hall : ∀ j, j < vs.length → BytesIs w (vs.getD j undef) (ps.getD j [])) (hv : BytesIs w v l) :
    ∀ j, j < (vs ++ [v]).length → BytesIs w ((vs ++ [v]).getD j undef) ((ps ++ [l]).getD j []) := by
  intro j hj
  simp only [List.getD_eq_getElem?_getD] at hall ⊢
  by_cases h1 : j < vs.length
  · rw [List.getElem?_append_left h1, List.getElem?_append_left (by omega)]; exact hall j h1
  · have : j = vs.length := by simp at hj; omega
    subst this
    rw [List.getElem?_append_right (Nat.le_refl _), List.getElem?_append_right (by omega)]
    simp only [Nat.sub_self, h]
    exact hv
theorem flat_snoc {ps : List (List UInt8)} {b : List UInt8} {f n : Nat} (h : ps.flatten = b.take f) (h1 : f ≤ n) (h2 : n ≤ b.length) : (ps ++ [(b.drop f).take (n - f)]).flatten = b.take n := by
  rw [List.flatten_append, h]
  have e : n = f + (n - f) := by omega
  conv => rhs; rw [e, List.take_add]
  simp
theorem parts_own {w : World} {base : Nat} {e : TypeId} {v : Value} {vs : List Value} {ps : List (List UInt8)} (h : w.ownsRow base e 1 v vs.length vs) (hl : vs.length = ps.length) (hle : ps.length ≤ 1152921504606846976) (hall : ∀ j, j < vs.length → BytesIs w (vs.getD j undef) (ps.getD j [])) : PartsIs w v ps := by
  rcases h.2 with ⟨rfl, hn⟩ | ⟨g, cap, cur, rfl, hb, hg, hnc, hcm, hcs, ht⟩
  · obtain rfl : ps = [] := List.eq_nil_of_length_eq_zero (by omega)
    exact ⟨none, 0, 0, 0, rfl, by simp, by simp, fun h => absurd h (by simp), fun i hi => absurd hi (by simp)⟩
  · refine ⟨some ⟨g, 0, none⟩, cap, g, 0, by rw [hl], by omega, hle, fun _ => rfl, fun i hi => ⟨vs.getD i undef, ?_, hall i (by omega)⟩⟩
    rw [Nat.zero_add, h.cellAt i (by omega)]
    simp [show i < vs.length from by omega]
end Go.Proofs.YteafnknghnhlgaaDoor.Sha
