/-
  v[lo:] with the block told.
-/
import Derived.Test.YteafnknghnhlgaaDoorBytes
import Derived.Test.YteafnknghnhlgaaDoorLaw
namespace Go.Proofs.YteafnknghnhlgaaDoor.Base
open Go.RowKit

/-- v[lo:] -/
theorem cutLoAt {P : Program} (t e : TypeId) (ht : P.underlying t = some (.slice e)) (hs : (P.info? e).map (·.size) = some 1) {w : World} {a : Option Addr} {n cap : Nat} {l : List UInt8} (h : BytesIs w (.slice a n cap) l) (lo : Nat) (h1 : lo ≤ l.length) (x : Int) (hx : x = (lo : Int)) :
    ∃ a' c', BytesIs w (.slice a' (l.length - lo) c') (l.drop lo) ∧ (∀ wx : World, (Instr.sliceAt t (.slice a n cap) (some (.int .i64 x)) none none).run P wx = .ok (.slice a' (l.length - lo) c') wx) ∧ ∀ q, a' = some q → ∃ p, a = some p ∧ q.block = p.block := by
  subst hx
  obtain ⟨i, hi', hz⟩ : ∃ i, P.info? e = some i ∧ i.size = 1 := by
    cases hq : P.info? e with
    | none => simp [hq] at hs
    | some i => exact ⟨i, rfl, by simpa [hq] using hs⟩
  have hE : P.elem t = e := by simp [Program.elem, ht]
  obtain ⟨a0, cap0, pb, po, hv, hle, ha, hc⟩ := h
  simp only [Value.slice.injEq] at hv
  obtain ⟨rfl, rfl, rfl⟩ := hv
  have hl : (l.drop lo).length = l.length - lo := by simp
  refine ⟨if cap = lo then a else a.map (·.add lo), cap - lo, ⟨_, cap - lo, pb, po + lo, by rw [hl], by rw [hl]; omega, fun h0 => ?_, fun j hj => ?_⟩, fun wx => ?_, fun q hq => ?_⟩
  · rw [hl] at h0
    rw [if_neg (by omega), ha (by omega)]
    simp [Addr.add_mid]
  · rw [hl] at hj
    rw [Nat.add_assoc, hc (lo + j) (by omega)]
    simp [show lo + j < l.length from by omega]
  · rw [run_sliceAt_slice wx t _ _ _ _ (by rw [hE]; exact ht), run_slice_l wx t a l.length cap (by rw [hE]; exact ht) .i64 (lo : Int) (by omega) (by omega), hE]
    simp [sizeOf, typeInfo, hi', hz, sliced, Sem.run_bind]
  · split at hq
    · exact ⟨q, hq, rfl⟩
    · obtain ⟨p, hp, rfl⟩ := Option.map_eq_some_iff.1 hq
      exact ⟨p, hp, by unfold Addr.add; split <;> rfl⟩
end Go.Proofs.YteafnknghnhlgaaDoor.Base
