/-
  Cuts of a slice of bytes, the address told.
-/
import Derived.Test.YteafnknghnhlgaaDoorBytes
namespace Go.Proofs.YteafnknghnhlgaaDoor.Base
open Go.RowKit

theorem cut_lo_at {P : Program} (t e : TypeId) (ht : P.underlying t = some (.slice e)) (hs : (P.info? e).map (·.size) = some 1) (g off n cap lo : Nat) (h1 : lo ≤ n) (h2 : n ≤ cap) (h3 : lo < cap) (wx : World) :
    (Instr.sliceAt t (.slice (some ⟨g, off, none⟩) n cap) (some (.int .i64 (lo : Int))) none none).run P wx = .ok (.slice (some ⟨g, off + lo, none⟩) (n - lo) (cap - lo)) wx := by
  obtain ⟨i, hi', hz⟩ : ∃ i, P.info? e = some i ∧ i.size = 1 := by
    cases hq : P.info? e with
    | none => simp [hq] at hs
    | some i => exact ⟨i, rfl, by simpa [hq] using hs⟩
  have hE : P.elem t = e := by simp [Program.elem, ht]
  rw [run_sliceAt_slice wx t _ _ _ _ (by rw [hE]; exact ht), run_slice_l wx t (some ⟨g, off, none⟩) n cap (by rw [hE]; exact ht) .i64 (lo : Int) (by omega) (by omega), hE]
  simp [sizeOf, typeInfo, hi', hz, sliced, Sem.run_bind, Addr.add, show ¬ cap = lo from by omega]
theorem cut_hi_at {P : Program} (t e : TypeId) (ht : P.underlying t = some (.slice e)) (hs : (P.info? e).map (·.size) = some 1) (a : Option Addr) (n cap hi : Nat) (h2 : hi ≤ cap) (wx : World) :
    (Instr.sliceAt t (.slice a n cap) none (some (.int .i64 (hi : Int))) none).run P wx = .ok (.slice a hi cap) wx := by
  obtain ⟨i, hi', hz⟩ : ∃ i, P.info? e = some i ∧ i.size = 1 := by
    cases hq : P.info? e with
    | none => simp [hq] at hs
    | some i => exact ⟨i, rfl, by simpa [hq] using hs⟩
  have hE : P.elem t = e := by simp [Program.elem, ht]
  rw [run_sliceAt_slice wx t _ _ _ _ (by rw [hE]; exact ht), run_slice_h wx t a n cap (by rw [hE]; exact ht) .i64 (hi : Int) (by omega) (by omega), hE]
  simp [sizeOf, typeInfo, hi', hz, sliced, Sem.run_bind]
  intro _
  cases a with
  | none => rfl
  | some x => simp [Addr.add]
end Go.Proofs.YteafnknghnhlgaaDoor.Base
