/-
  Answers written one behind the other, the first so many; where each of them ends. No program stands here.
-/
import Derived.Test.YtjefddliebokaaaReplySpec
namespace Go.Proofs.Ytjefddliebokaaa.Reply
open Go.RowKit Base Pack

def flat (L : List Rp) (i : Nat) : List UInt8 := ((L.take i).map putB).flatten
theorem flat_zero (L : List Rp) : flat L 0 = [] := by simp [flat]
theorem flat_next (L : List Rp) (i : Nat) (h : i < L.length) : flat L (i + 1) = flat L i ++ putB (L.getD i zero) := by
  have hg : L.getD i zero = L[i] := by rw [List.getD_eq_getElem?_getD, List.getElem?_eq_getElem h]; rfl
  unfold flat
  rw [hg, List.take_succ_eq_append_getElem h, List.map_append, List.flatten_append, List.map_singleton, List.flatten_singleton]
theorem flat_all (L : List Rp) : flat L L.length = (L.map putB).flatten := by unfold flat; rw [List.take_length]
def Goods (L : List Rp) (i : Nat) : Prop := ∀ j, j < i → good (L.getD j zero) = true ∧ (L.getD j zero).slot < 4294967296
theorem Goods.start (L : List Rp) : Goods L 0 := fun j h => absurd h (Nat.not_lt_zero j)
theorem Goods.next {L : List Rp} {i : Nat} (h : Goods L i) (hg : good (L.getD i zero) = true) (hs : (L.getD i zero).slot < 4294967296) : Goods L (i + 1) := fun j hj => by
  rcases Nat.lt_or_eq_of_le (Nat.le_of_lt_succ hj) with h1 | rfl
  · exact h j h1
  · exact ⟨hg, hs⟩
theorem Goods.all {L : List Rp} (h : Goods L L.length) : ∀ r ∈ L, good r = true ∧ r.slot < 4294967296 := fun r hr => by
  obtain ⟨j, hj, rfl⟩ := List.getElem_of_mem hr
  have := h j hj
  rwa [List.getD_eq_getElem?_getD, List.getElem?_eq_getElem hj] at this
theorem putB_short {r : Rp} (h : good r = true) : 8 ≤ (putB r).length ∧ (putB r).length ≤ 263 := by
  have h1 := putB_length r
  have h2 := ((good_iff r).1 h).2.1
  omega
/-- where the first so many end -/
def ends (L : List Rp) (j : Nat) : Nat := (flat L j).length
theorem ends_next (L : List Rp) (i : Nat) (h : i < L.length) : ends L (i + 1) = ends L i + (putB (L.getD i zero)).length := by unfold ends; rw [flat_next L i h, List.length_append]
theorem ends_lt (L : List Rp) (i : Nat) (h : i < L.length) : ends L i < ends L (i + 1) := by
  rw [ends_next L i h, putB_length]; omega
theorem ends_mono (L : List Rp) (j : Nat) : ∀ i, i < j → j ≤ L.length → ends L i < ends L j := by
  induction j with
  | zero => intro i h; omega
  | succ j ih =>
    intro i hi hj
    have h1 := ends_lt L j (by omega)
    rcases Nat.lt_or_eq_of_le (Nat.le_of_lt_succ hi) with h2 | rfl
    · have := ih i h2 (by omega); omega
    · exact h1
end Go.Proofs.Ytjefddliebokaaa.Reply
