/-
  Queries said in one way. No program stands here.
-/
import Derived.Test.YtmnbihpcgkgebaaAskSpec
namespace Go.Proofs.Ytmnbihpcgkgebaa.Canon
open Go.RowKit Base Pack _root_.Go.Proofs.Ytmnbihpcgkgebaa.Ask

/-- a query that may be -/
def isQ (a : Rq) : Bool := good a && decide (a.k = 2)
/-- said in one way -/
def one (a : Rq) : Rq := if a.t < a.f then ⟨a.k, a.n, a.s, 1, 0, a.wn⟩ else a
def ofOut (a : Rq) : Rq := if isQ a = true then one a else zero
def ofErr (a : Rq) : Int := if isQ a = true then 0 else 1
def keyOut (a : Rq) : List UInt8 := if isQ a = true then putB (one a) else []
def sameK (a b : Rq) : Bool := isQ a && isQ b && decide (putB (one a) = putB (one b))
theorem isQ_iff {a : Rq} : isQ a = true ↔ good a = true ∧ a.k = 2 := by unfold isQ; rw [Bool.and_eq_true, decide_eq_true_eq]
theorem one_good {a : Rq} (h : isQ a = true) : good (one a) = true := by
  obtain ⟨h1, h2⟩ := isQ_iff.1 h
  unfold one
  split
  · unfold good restOk at *
    simp only [h2] at h1 ⊢
    simpa using h1
  · exact h1
theorem one_isQ {a : Rq} (h : isQ a = true) : isQ (one a) = true := by
  rw [isQ_iff]
  refine ⟨one_good h, ?_⟩
  have h2 := (isQ_iff.1 h).2
  unfold one
  split
  · exact h2
  · exact h2
theorem one_fits {a : Rq} (h : Fits a) : Fits (one a) := by
  unfold one
  split
  · exact ⟨h.1, by simp, by simp⟩
  · exact h
theorem one_one (a : Rq) : one (one a) = one a := by
  unfold one
  by_cases h : a.t < a.f
  · rw [if_pos h, if_pos (by simp)]
  · rw [if_neg h, if_neg h]
theorem one_same (a : Rq) : (one a).k = a.k ∧ (one a).n = a.n ∧ (one a).s = a.s ∧ (one a).wn = a.wn := by
  unfold one
  split <;> exact ⟨rfl, rfl, rfl, rfl⟩
/-- the same times -/
theorem one_times (a : Rq) (x : Int) : (a.f ≤ x ∧ x ≤ a.t) ↔ ((one a).f ≤ x ∧ x ≤ (one a).t) := by
  unfold one
  split
  · simp only
    omega
  · exact Iff.rfl
theorem sameK_of {a : Rq} (h : isQ a = true) : sameK a (one a) = true := by
  unfold sameK
  rw [h, one_isQ h, one_one]
  simp
theorem ofOut_isQ {a : Rq} (h : isQ a = true) : ofOut a = one a ∧ ofErr a = 0 ∧ keyOut a = putB (one a) := by
  unfold ofOut ofErr keyOut
  rw [if_pos h, if_pos h, if_pos h]
  exact ⟨rfl, rfl, rfl⟩
theorem ofOut_no {a : Rq} (h : isQ a = false) : ofOut a = zero ∧ ofErr a = 1 ∧ keyOut a = [] := by
  have h' : ¬ isQ a = true := by rw [h]; decide
  unfold ofOut ofErr keyOut
  rw [if_neg h', if_neg h', if_neg h']
  exact ⟨rfl, rfl, rfl⟩
/-- just when both are told, and their texts are alike -/
theorem sameK_keys (a b : Rq) : sameK a b = (decide (ofErr a = 0) && decide (ofErr b = 0) && decide (keyOut a = keyOut b)) := by
  cases ha : isQ a <;> cases hb : isQ b
  · rw [(ofOut_no ha).2.1]; unfold sameK; rw [ha]; rfl
  · rw [(ofOut_no ha).2.1]; unfold sameK; rw [ha]; rfl
  · rw [(ofOut_isQ ha).2.1, (ofOut_no hb).2.1]; unfold sameK; rw [ha, hb]; rfl
  · rw [(ofOut_isQ ha).2.1, (ofOut_isQ hb).2.1, (ofOut_isQ ha).2.2, (ofOut_isQ hb).2.2]; unfold sameK; rw [ha, hb]; rfl
end Go.Proofs.Ytmnbihpcgkgebaa.Canon
