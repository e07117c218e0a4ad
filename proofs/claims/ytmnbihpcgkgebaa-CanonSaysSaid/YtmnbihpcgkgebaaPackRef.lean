/-
  The walks of the reference's reader; that it tells what pack's reader tells.
-/
import Derived.Test.YtmnbihpcgkgebaaPackRead
namespace Go.Proofs.Ytmnbihpcgkgebaa.Pack
open Go.RowKit Base

def refOut (n : Int) (b : List UInt8) (e : Int) : List UInt8 := if e = 0 then (if n < 0 then [] else if (b.length : Int) < n then [] else b.take n.toNat) else []
def refRest (n : Int) (b : List UInt8) (e : Int) : List UInt8 := if e = 0 then (if n < 0 then b else if (b.length : Int) < n then b else b.drop n.toNat) else b
def refErr (n : Int) (b : List UInt8) (e : Int) : Int := if e = 0 then (if n < 0 then 1 else if (b.length : Int) < n then 3 else 0) else e
/-- the two readers stand alike -/
def Alike (l : List UInt8) (e : Int) (b : List UInt8) (E : Int) : Prop := e = E ∧ l = if E = 0 then b else []
theorem refRest_le (n : Int) (b : List UInt8) (e : Int) : (refRest n b e).length ≤ b.length := by
  unfold refRest
  split
  · split
    · exact Nat.le_refl _
    · split
      · exact Nat.le_refl _
      · simp
  · exact Nat.le_refl _
theorem refOut_le (n : Nat) (b : List UInt8) (e : Int) : (refOut n b e).length ≤ n := by
  unfold refOut
  split
  · split
    · simp
    · split
      · simp
      · simp; omega
  · simp
theorem alike_take (n : Int) {l b : List UInt8} {e E : Int} (h : Alike l e b E) : takeOut n l = refOut n b E ∧ Alike (takeRest n l) (takeErr n l e) (refRest n b E) (refErr n b E) := by
  obtain ⟨rfl, rfl⟩ := h
  unfold Alike takeOut takeRest takeErr refOut refRest refErr
  by_cases he : e = 0
  · subst he
    simp only [if_true]
    by_cases hn : n < 0
    · simp [hn, failE]
    · simp only [hn, if_false]
      obtain ⟨m, rfl⟩ := Int.eq_ofNat_of_zero_le (show 0 ≤ n by omega)
      unfold cutOut cutRest cutErr
      simp only [Int.toNat_natCast]
      by_cases hm : b.length < m
      · have : (b.length : Int) < (m : Int) := by omega
        simp [hm, this, failE]
      · have : ¬ (b.length : Int) < (m : Int) := by omega
        simp [hm, this]
  · simp only [he, if_false]
    by_cases hn : n < 0
    · simp [hn, failE, he]
    · simp only [hn, if_false]
      unfold cutOut cutRest cutErr
      by_cases hm : ([] : List UInt8).length < n.toNat
      · simp only [hm, if_true]; simp [failE, he]
      · simp only [hm, if_false]
        have : n.toNat = 0 := by simp at hm; omega
        simp
theorem alike_cut (n : Nat) {l b : List UInt8} {e E : Int} (h : Alike l e b E) : cutOut n l = refOut n b E ∧ Alike (cutRest n l) (cutErr n l e) (refRest n b E) (refErr n b E) := by
  have := alike_take (n : Int) h
  unfold takeOut takeRest takeErr at this
  rw [if_neg (by omega), if_neg (by omega), if_neg (by omega), Int.toNat_natCast] at this
  exact this
def refBytesOut (m : Int) (b : List UInt8) (e : Int) : List UInt8 :=
  if refErr 2 b e = 0 then (if m < (num (refOut 2 b e) : Int) then [] else refOut (num (refOut 2 b e)) (refRest 2 b e) (refErr 2 b e)) else []
def refBytesRest (m : Int) (b : List UInt8) (e : Int) : List UInt8 :=
  if refErr 2 b e = 0 then (if m < (num (refOut 2 b e) : Int) then refRest 2 b e else refRest (num (refOut 2 b e)) (refRest 2 b e) (refErr 2 b e)) else refRest 2 b e
def refBytesErr (m : Int) (b : List UInt8) (e : Int) : Int :=
  if refErr 2 b e = 0 then (if m < (num (refOut 2 b e) : Int) then 2 else refErr (num (refOut 2 b e)) (refRest 2 b e) (refErr 2 b e)) else refErr 2 b e
theorem refBytesRest_le (m : Int) (b : List UInt8) (e : Int) : (refBytesRest m b e).length ≤ b.length := by
  have h1 := refRest_le 2 b e
  have h2 := refRest_le (num (refOut 2 b e)) (refRest 2 b e) (refErr 2 b e)
  unfold refBytesRest
  split
  · split
    · exact h1
    · omega
  · exact h1
theorem alike_bytes (m : Int) {l b : List UInt8} {e E : Int} (h : Alike l e b E) : bytesOut m l = refBytesOut m b E ∧ Alike (bytesRest m l) (bytesErr m l e) (refBytesRest m b E) (refBytesErr m b E) := by
  obtain ⟨h1, h2⟩ := alike_cut 2 h
  simp only [show ((2 : Nat) : Int) = 2 from rfl] at h1 h2
  unfold bytesOut bytesRest bytesErr refBytesOut refBytesRest refBytesErr
  have h3 := alike_cut (num (refOut 2 b E)) h2
  rw [h1]
  generalize hx : num (refOut 2 b E) = x at *
  generalize hl : cutRest 2 l = l1 at *
  generalize he : cutErr 2 l e = e1 at *
  generalize hb : refRest 2 b E = b1 at *
  have hEE : refErr 2 b E ≠ 0 → x = 0 := fun hne => by
    rw [← hx]
    have : refOut 2 b E = [] := by
      unfold refErr at hne
      unfold refOut
      split
      · rename_i h0
        rw [if_pos h0] at hne
        split
        · rfl
        · rename_i hn
          rw [if_neg hn] at hne
          split
          · rfl
          · rename_i hm
            rw [if_neg hm] at hne
            exact absurd rfl hne
      · rfl
    rw [this]; rfl
  generalize refErr 2 b E = E1 at *
  obtain ⟨rfl, rfl⟩ := h2
  by_cases h0 : e1 = 0
  · subst h0
    simp only [if_true]
    by_cases hm : m < (x : Int)
    · simp [hm, Alike, failE]
    · simp only [hm, if_false]
      simpa using h3
  · have hx0 := hEE h0
    subst hx0
    simp only [h0, if_false]
    by_cases hm : m < ((0 : Nat) : Int)
    · simp only [hm, if_true]; exact ⟨trivial, by simp [failE, h0], by rw [if_neg h0]⟩
    · simp only [hm, if_false]
      exact ⟨by simp [cutOut], by simp [cutErr], by rw [if_neg h0]; simp [cutRest]⟩

end Go.Proofs.Ytmnbihpcgkgebaa.Pack
