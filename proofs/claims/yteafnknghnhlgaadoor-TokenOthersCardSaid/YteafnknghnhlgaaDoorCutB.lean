/-
  A cut of a slice of bytes or of ints, both ends told, wherever it lies.
-/
import Derived.Test.YteafnknghnhlgaaDoorBytes
import Derived.Test.YteafnknghnhlgaaDoorLaw
namespace Go.Proofs.YteafnknghnhlgaaDoor.Base
open Go.RowKit

theorem cut_both {P : Program} (t e : TypeId) (ht : P.underlying t = some (.slice e)) (hs : (P.info? e).map (·.size) = some 1) (a : Option Addr) (n cap lo hi : Nat) (l h : Int) (hl : l = (lo : Int)) (hh : h = (hi : Int)) (h1 : lo ≤ hi) (h2 : hi ≤ cap) :
    ∀ wx : World, (Instr.sliceAt t (.slice a n cap) (some (.int .i64 l)) (some (.int .i64 h)) none).run P wx = .ok (.slice (if cap = lo then a else a.map (·.add lo)) (hi - lo) (cap - lo)) wx := fun wx => by
  subst hl hh
  obtain ⟨i, hi', hz⟩ : ∃ i, P.info? e = some i ∧ i.size = 1 := by
    cases hq : P.info? e with
    | none => simp [hq] at hs
    | some i => exact ⟨i, rfl, by simpa [hq] using hs⟩
  have hE : P.elem t = e := by simp [Program.elem, ht]
  rw [run_sliceAt_slice wx t _ _ _ _ (by rw [hE]; exact ht), run_slice_lh wx t a n cap (by rw [hE]; exact ht) .i64 .i64 (lo : Int) (hi : Int) (by omega) (by omega) (by omega), hE]
  by_cases h0 : cap = lo <;> simp [sizeOf, typeInfo, hi', hz, sliced, Sem.run_bind, h0]
theorem cut_bytes {P : Program} (t e : TypeId) (ht : P.underlying t = some (.slice e)) (hs : (P.info? e).map (·.size) = some 1) {w : World} {a : Option Addr} {n cap : Nat} {x : List UInt8} (hb : BytesIs w (.slice a n cap) x) (lo hi : Nat) (h1 : lo ≤ hi) (h2 : hi ≤ x.length) (l h : Int) (hl : l = (lo : Int)) (hh : h = (hi : Int)) :
    ∃ A : Option Addr, (∀ wx : World, (Instr.sliceAt t (.slice a n cap) (some (.int .i64 l)) (some (.int .i64 h)) none).run P wx = .ok (.slice A (hi - lo) (cap - lo)) wx) ∧ BytesIs w (.slice A (hi - lo) (cap - lo)) ((x.drop lo).take (hi - lo)) ∧ (∀ q, A = some q → ∃ p, a = some p ∧ q.block = p.block) := by
  obtain ⟨a', cap', pb, po, hv, hle, ha, hc⟩ := hb
  simp only [Value.slice.injEq] at hv
  obtain ⟨rfl, rfl, rfl⟩ := hv
  have hlen : ((x.drop lo).take (hi - lo)).length = hi - lo := by simp; omega
  refine ⟨_, cut_both t e ht hs a x.length cap lo hi l h hl hh h1 (by omega), ?_, fun q hq => ?_⟩
  · refine ⟨_, cap - lo, pb, po + lo, by rw [hlen], by rw [hlen]; omega, fun h0 => ?_, fun j hj => ?_⟩
    · rw [hlen] at h0
      rw [if_neg (by omega), ha (by omega)]
      simp [Addr.add_mid]
    · rw [hlen] at hj
      rw [Nat.add_assoc, hc (lo + j) (by omega)]
      simp [hj]
  · split at hq
    · exact ⟨q, hq, rfl⟩
    · obtain ⟨p, hp, rfl⟩ := Option.map_eq_some_iff.1 hq
      exact ⟨p, hp, by unfold Addr.add; split <;> rfl⟩
end Go.Proofs.YteafnknghnhlgaaDoor.Base
