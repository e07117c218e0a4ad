/-
  A byte stored into a block of bytes; guards of laws.
-/
import Derived.Test.YtbiokogihimboaaDoorBaseB
import Derived.Test.YtbiokogihimboaaDoorVals
namespace Go.Proofs.YtbiokogihimboaaDoor.Base
open Go.RowKit

theorem rowIs_bytes {w : World} {g : Nat} {l : List UInt8} {t : TypeId} (h : w.heap[g]? = some (.cells (bvals l).toArray t (0, 0))) : w.rowIs g t l.length (fun j => .int .u8 ((l.getD j 0).toNat : Int)) :=
  rowIs_of_cells h (by simp [bvals_length]) (fun i hi => by rw [toArray_get]; exact bvals_get l i hi)
theorem bytes_rowIs {w : World} {g : Nat} {l : List UInt8} {t : TypeId} {n : Nat} {f : Nat → Value} (h : w.rowIs g t n f) (hn : n = l.length) (hf : ∀ i, i < n → f i = .int .u8 ((l.getD i 0).toNat : Int)) : w.heap[g]? = some (.cells (bvals l).toArray t (0, 0)) := by
  subst hn
  rw [row_cells (h.congr hf)]
  congr 3
  apply List.ext_getElem?
  intro i
  by_cases hi : i < l.length
  · rw [bvals_get l i hi]; simp [hi]
  · rw [List.getElem?_eq_none (by simp; omega), List.getElem?_eq_none (by simp [bvals_length]; omega)]
theorem set_byte {w : World} {g : Nat} {l : List UInt8} {t : TypeId} (h : w.heap[g]? = some (.cells (bvals l).toArray t (0, 0))) (i : Nat) (x : UInt8) (v : Value) (hv : v = .int .u8 (x.toNat : Int)) :
    (w.setCell ⟨g, i, none⟩ v).heap[g]? = some (.cells (bvals (l.set i x)).toArray t (0, 0)) := by
  subst hv
  refine bytes_rowIs ((rowIs_bytes h).set i _) (by simp) (fun j hj => ?_)
  by_cases hji : j = i
  · subst hji; rw [if_pos rfl]; simp [hj]
  · rw [if_neg hji]
    simp only [List.getD_eq_getElem?_getD]
    rw [List.getElem?_set_ne (Ne.symm hji)]
/-- one byte of a slice stored anew -/
theorem BytesIs.set {w : World} {g n cap : Nat} {l : List UInt8} (h : BytesIs w (.slice (some ⟨g, 0, none⟩) n cap) l) (i : Nat) (hi : i < l.length) (x : UInt8) (v : Value) (hv : v = .int .u8 (x.toNat : Int)) :
    BytesIs (w.setCell ⟨g, i, none⟩ v) (.slice (some ⟨g, 0, none⟩) n cap) (l.set i x) := by
  subst hv
  obtain ⟨a, cap', pb, po, he, hle, ha, hc⟩ := h
  simp only [Value.slice.injEq] at he
  obtain ⟨rfl, rfl, rfl⟩ := he
  have h0 := ha (by omega)
  simp only [Option.some.injEq, Addr.mk.injEq, and_true] at h0
  obtain ⟨rfl, rfl⟩ := h0
  refine ⟨_, cap, g, 0, by rw [List.length_set], by rw [List.length_set]; exact hle, fun _ => rfl, fun j hj => ?_⟩
  rw [List.length_set] at hj
  rw [Nat.zero_add]
  have hcj := hc j hj
  rw [Nat.zero_add] at hcj
  by_cases hji : j = i
  · subst hji
    rw [World.cell?_setCell_same' _ _ _ (by rw [hcj]; rfl)]
    simp [hj]
  · rw [World.cell?_setCell_other _ _ _ _ (by intro e; cases e; exact hji rfl), hcj]
    simp only [List.getD_eq_getElem?_getD]
    rw [List.getElem?_set_ne (Ne.symm hji)]
theorem PartsIs.one (w : World) (v : Value) (l : List UInt8) (hv : BytesIs w v l) (t : TypeId) (N : Nat) (hN : N = w.heap.size) : PartsIs (w.alloc (.cells #[v] t)) (.slice (some ⟨N, 0, none⟩) 1 1) [l] := by
  subst hN
  refine ⟨_, 1, w.heap.size, 0, rfl, by simp, by simp, fun _ => rfl, fun i hi => ?_⟩
  have : i = 0 := by simpa using hi
  subst this
  refine ⟨v, ?_, hv.fr0 ((Fr.refl _ _).alloc _)⟩
  rw [cell_of_row _ _ _ _ _ _ (heap_alloc_new w _)]
  rfl
/-- a literal of three parts, nil ones at its ends -/
theorem PartsIs.nilled (w : World) (v : Value) (l : List UInt8) (h : BytesIs w v l) (t : TypeId) (N : Nat) (hN : N = w.heap.size) : PartsIs (w.alloc (.cells #[.slice none 0 0, v, .slice none 0 0] t)) (.slice (some ⟨N, 0, none⟩) 3 3) [[], l, []] := by
  subst hN
  refine ⟨_, 3, w.heap.size, 0, rfl, by simp, by simp, fun _ => rfl, fun i hi => ?_⟩
  match i, hi with
  | 0, _ => exact ⟨.slice none 0 0, by rw [cell_of_row _ _ _ _ _ _ (heap_alloc_new w _)]; rfl, BytesIs.nil _⟩
  | 1, _ => exact ⟨v, by rw [cell_of_row _ _ _ _ _ _ (heap_alloc_new w _)]; rfl, h.fr0 ((Fr.refl _ _).alloc _)⟩
  | 2, _ => exact ⟨.slice none 0 0, by rw [cell_of_row _ _ _ _ _ _ (heap_alloc_new w _)]; rfl, BytesIs.nil _⟩
end Go.Proofs.YtbiokogihimboaaDoor.Base
