/-
  More of numbers in a row: back from what they tell; a list of bytes ahead of others. No program stands here.
-/
import Derived.Test.YtbbmjkligiglmaaPackSpec
namespace Go.Proofs.Ytbbmjkligiglmaa.Pack
open Go.RowKit Base

theorem num_inj (a b : List UInt8) (hb : a.length = b.length) (h : num a = num b) : a = b := by
  obtain ⟨a, rfl⟩ : ∃ m : List UInt8, a = m.reverse := ⟨a.reverse, by simp⟩
  induction a generalizing b with
  | nil => exact (List.eq_nil_of_length_eq_zero (by simpa using hb.symm)).symm
  | cons x a ih =>
    obtain ⟨b, rfl⟩ : ∃ m : List UInt8, b = m.reverse := ⟨b.reverse, by simp⟩
    rcases b with _ | ⟨y, b⟩
    · simp at hb
    · rw [List.reverse_cons, List.reverse_cons, num_append, num_append] at h
      have := x.toNat_lt
      have := y.toNat_lt
      have hx : x = y := UInt8.toNat_inj.1 (by omega)
      have := ih b.reverse (by simpa using hb) (by omega)
      rw [List.reverse_cons, List.reverse_cons, this, hx]
theorem be_of_num (l : List UInt8) (n : Nat) (h : l.length = n) : be n (num l) = l := by
  subst h
  refine num_inj _ _ (by rw [be_length]) ?_
  rw [num_be, Nat.mod_eq_of_lt (num_lt l)]
theorem num_be_lt {k v : Nat} (h : v < 256 ^ k) : num (be k v) = v := by rw [num_be, Nat.mod_eq_of_lt h]
theorem cutOut_app (n : Nat) (a b : List UInt8) (h : a.length = n) : cutOut n (a ++ b) = a := by
  unfold cutOut; rw [if_neg (by rw [List.length_append]; omega), List.take_append_of_le_length (by omega), List.take_of_length_le (by omega)]
theorem cutRest_app (n : Nat) (a b : List UInt8) (h : a.length = n) : cutRest n (a ++ b) = b := by
  unfold cutRest; rw [if_neg (by rw [List.length_append]; omega), List.drop_append_of_le_length (by omega), List.drop_of_length_le (by omega), List.nil_append]
theorem cutErr_app (n : Nat) (a b : List UInt8) (e : Int) (h : a.length = n) : cutErr n (a ++ b) e = e := by
  unfold cutErr; rw [if_neg (by rw [List.length_append]; omega)]
/-- a list with its number ahead is read back -/
theorem bytes_app (m : Nat) (x y : List UInt8) (e : Int) (h : x.length ≤ m) (h2 : x.length < 65536) : bytesOut m (be 2 x.length ++ (x ++ y)) = x ∧ bytesRest m (be 2 x.length ++ (x ++ y)) = y ∧ bytesErr m (be 2 x.length ++ (x ++ y)) e = e := by
  have e1 := cutOut_app 2 (be 2 x.length) (x ++ y) (be_length _ _)
  have e2 := cutRest_app 2 (be 2 x.length) (x ++ y) (be_length _ _)
  have e3 := cutErr_app 2 (be 2 x.length) (x ++ y) e (be_length _ _)
  have hn : num (be 2 x.length) = x.length := num_be_lt (by omega)
  unfold bytesOut bytesRest bytesErr
  rw [e1, e2, e3, hn, if_neg (by omega), if_neg (by omega), if_neg (by omega)]
  exact ⟨cutOut_app _ _ _ rfl, cutRest_app _ _ _ rfl, cutErr_app _ _ _ _ rfl⟩
/-- .. and what was read back without an error stood there so -/
theorem bytes_stood {m : Nat} {l : List UInt8} (h : bytesErr m l 0 = 0) : (bytesOut m l).length ≤ m ∧ (bytesOut m l).length < 65536 ∧ l = be 2 (bytesOut m l).length ++ (bytesOut m l ++ bytesRest m l) := by
  have hx := cutOut_num 2 l
  unfold bytesErr at h
  unfold bytesOut bytesRest
  by_cases hm : (m : Int) < (num (cutOut 2 l) : Int)
  · rw [if_pos hm] at h
    unfold failE cutErr at h
    split at h <;> split at h <;> first | omega | (unfold failE at *; simp at *)
  · rw [if_neg hm] at h
    rw [if_neg hm, if_neg hm]
    have h2 : ¬ l.length < 2 := fun h2 => by
      unfold cutErr failE at h
      rw [if_pos h2] at h
      split at h <;> simp at h
    have c1 : cutOut 2 l = l.take 2 := by unfold cutOut; rw [if_neg h2]
    have c2 : cutRest 2 l = l.drop 2 := by unfold cutRest; rw [if_neg h2]
    have c3 : cutErr 2 l 0 = 0 := by unfold cutErr; rw [if_neg h2]
    rw [c1] at hm hx
    rw [c1, c2, c3] at h
    rw [c1, c2]
    have h3 : ¬ (l.drop 2).length < num (l.take 2) := fun h3 => by
      unfold cutErr failE at h
      rw [if_pos h3] at h
      simp at h
    have d1 : cutOut (num (l.take 2)) (l.drop 2) = (l.drop 2).take (num (l.take 2)) := by unfold cutOut; rw [if_neg h3]
    have d2 : cutRest (num (l.take 2)) (l.drop 2) = (l.drop 2).drop (num (l.take 2)) := by unfold cutRest; rw [if_neg h3]
    rw [d1, d2]
    have hl : ((l.drop 2).take (num (l.take 2))).length = num (l.take 2) := by rw [List.length_take]; omega
    rw [hl, be_of_num _ 2 (by rw [List.length_take]; omega), List.take_append_drop, List.take_append_drop]
    exact ⟨by omega, by omega, rfl⟩
end Go.Proofs.Ytbbmjkligiglmaa.Pack
