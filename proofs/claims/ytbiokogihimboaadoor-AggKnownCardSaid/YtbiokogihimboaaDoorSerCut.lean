/-
  l[lo:] of a slice of pairs.
-/
import Derived.Test.YtbiokogihimboaaDoorSerMem
namespace Go.Proofs.YtbiokogihimboaaDoor.Series
open Go.RowKit Base

theorem cut_pairs {P : Program} (t e : TypeId) (ht : P.underlying t = some (.slice e)) (hs : (P.info? e).map (·.size) = some 2) {w : World} {a : Option Addr} {n cap : Nat} {l : List (Int × Int)} (h : PairsIs w (.slice a n cap) l) (lo : Nat) (h1 : lo ≤ l.length) (x : Int) (hx : x = (lo : Int)) :
    ∃ a' c', PairsIs w (.slice a' (l.length - lo) c') (l.drop lo) ∧ (∀ wx : World, (Instr.sliceAt t (.slice a n cap) (some (.int .i64 x)) none none).run P wx = .ok (.slice a' (l.length - lo) c') wx) ∧ ∀ q, a' = some q → ∃ p, a = some p ∧ q.block = p.block := by
  subst hx
  obtain ⟨i, hi', hz⟩ : ∃ i, P.info? e = some i ∧ i.size = 2 := by
    cases hq : P.info? e with
    | none => simp [hq] at hs
    | some i => exact ⟨i, rfl, by simpa [hq] using hs⟩
  have hE : P.elem t = e := by simp [Program.elem, ht]
  obtain ⟨a0, cap0, pb, po, hv, hle, ha, hc⟩ := h
  simp only [Value.slice.injEq] at hv
  obtain ⟨rfl, rfl, rfl⟩ := hv
  have hl : (l.drop lo).length = l.length - lo := by simp
  refine ⟨if cap = lo then a else a.map (·.add (lo * 2)), cap - lo, ⟨_, cap - lo, pb, po + lo * 2, by rw [hl], by rw [hl]; omega, fun h0 => ?_, fun j hj => ?_⟩, fun wx => ?_, fun q hq => ?_⟩
  · rw [hl] at h0
    rw [if_neg (by omega), ha (by omega)]
    simp [Addr.add_mid]
  · rw [hl] at hj
    have h2 := hc (lo + j) (by omega)
    rw [Nat.add_mul] at h2
    rw [Nat.add_assoc, Nat.add_assoc]
    rw [Nat.add_assoc, ← Nat.add_assoc po] at h2
    simp only [Nat.add_assoc] at h2 ⊢
    simpa [show lo + j < l.length from by omega] using h2
  · rw [run_sliceAt_slice wx t _ _ _ _ (by rw [hE]; exact ht), run_slice_l wx t a l.length cap (by rw [hE]; exact ht) .i64 (lo : Int) (by omega) (by omega), hE]
    simp [sizeOf, typeInfo, hi', hz, sliced, Sem.run_bind]
  · split at hq
    · exact ⟨q, hq, rfl⟩
    · obtain ⟨p, hp, rfl⟩ := Option.map_eq_some_iff.1 hq
      exact ⟨p, hp, by unfold Addr.add; split <;> rfl⟩
end Go.Proofs.YtbiokogihimboaaDoor.Series
