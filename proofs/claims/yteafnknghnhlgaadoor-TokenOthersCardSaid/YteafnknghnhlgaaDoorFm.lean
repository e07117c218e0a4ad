/-
  Frames by a function of their slots: great functions in pieces, whatever the frame's size.
-/
import Derived.Test.YteafnknghnhlgaaDoorFacts
import Derived.Test.YteafnknghnhlgaaDoorHeld
namespace Go.Proofs.YteafnknghnhlgaaDoor.Base
open Go.RowKit

def Fm (n : Nat) (f : Nat → Value) : Act := ⟨((List.range n).map f).toArray, []⟩
/-- f, but for the slots of L -/
def ov (f : Nat → Value) (L : List (Nat × Value)) : Nat → Value := fun j => (L.lookup j).getD (f j)
theorem ov_self (f : Nat → Value) (L : List (Nat × Value)) (h : ∀ p ∈ L, f p.1 = p.2) : ov f L = f := by
  funext j
  unfold ov
  induction L with
  | nil => rfl
  | cons p L ih =>
    rw [List.lookup_cons]
    by_cases hj : (j == p.1) = true
    · rw [hj]
      have := h p (by simp)
      simp only [beq_iff_eq] at hj
      subst hj
      exact this.symm
    · have hj' : (j == p.1) = false := by simpa using hj
      rw [hj']
      exact ih (fun q hq => h q (by simp [hq]))
theorem Fm_put (n : Nat) (f : Nat → Value) (d : Nat) (v : Value) (hd : d < n) : (Fm n f).put (some d) v = Fm n (upd f d v) := by
  unfold Fm Act.put upd
  simp only
  congr 1
  apply Array.ext
  · simp
  · intro i h1 h2
    by_cases h : d = i
    · subst h; simp
    · rw [Array.getElem_setIfInBounds_ne (by simpa using h2) h]
      simp [show ¬ i = d from fun e => h e.symm]
theorem Fm_eval (n : Nat) (f : Nat → Value) (k : Nat) (hk : k < n) : (Fm n f).eval (.tmp k) = f k := by
  unfold Fm Act.eval
  simp [hk]
theorem Fm_of (L : List Value) (n : Nat) (h : L.length = n) : (⟨L.toArray, []⟩ : Act) = Fm n (fun j => L.getD j undef) := by
  subst h
  unfold Fm
  congr 1
  apply Array.ext
  · simp
  · intro i h1 h2
    simp at h1
    simp [h1]

/-- it ends as it should, and in no other way -/
def Just (K : Act → World → Prop) : Exit → Act → World → Prop := fun e a w => match e with
  | .normal => K a w
  | _ => False
theorem Just.then {K : Act → World → Prop} {Q : Exit → Act → World → Prop} : ∀ (e : Exit) (a : Act) (w : World), Just K e a w → Exit.then K Q e a w := fun e a w h => by
  cases e <;> first | exact h | exact (h : False).elim
theorem Just.inBlock {id : Nat} {K : Act → World → Prop} {Q : Exit → Act → World → Prop} : ∀ (e : Exit) (a : Act) (w : World), Just K e a w → Exit.inBlock id (Exit.then K Q) e a w := fun e a w h => by
  cases e <;> first | exact h | exact (h : False).elim
theorem Just.mono {K K' : Act → World → Prop} (h : ∀ a w, K a w → K' a w) : ∀ (e : Exit) (a : Act) (w : World), Just K e a w → Just K' e a w := fun e a w hh => by
  cases e <;> first | exact h a w hh | exact (hh : False).elim
end Go.Proofs.YteafnknghnhlgaaDoor.Base
