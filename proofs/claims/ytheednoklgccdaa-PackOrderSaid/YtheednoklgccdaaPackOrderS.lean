/-
  Numbers are in order just as their bytes are.
-/
import Derived.Test.YtheednoklgccdaaPackAwake
import Derived.Test.YtheednoklgccdaaPackShort
import Derived.Sort.Walk0
import Derived.Lib.Strings
namespace Go.Proofs.Ytheednoklgccdaa.Pack
open Go.RowKit Base

theorem num_from (l : List UInt8) (a : Nat) : l.foldl (fun a x => a * 256 + x.toNat) a = a * 256 ^ l.length + num l := by
  induction l generalizing a with
  | nil => simp [num]
  | cons x l ih =>
    unfold num
    simp only [List.foldl_cons, List.length_cons]
    rw [ih, ih (0 * 256 + x.toNat), Nat.pow_succ, Nat.zero_mul, Nat.zero_add, Nat.add_mul, Nat.mul_assoc, Nat.mul_comm 256, Nat.add_assoc]
theorem num_cons (x : UInt8) (l : List UInt8) : num (x :: l) = x.toNat * 256 ^ l.length + num l := by
  have := num_from l x.toNat
  unfold num at this ⊢
  simp only [List.foldl_cons, Nat.zero_mul, Nat.zero_add]
  exact this
theorem less_num : ∀ (x y : List UInt8), x.length = y.length → (x < y ↔ num x < num y)
  | [], [], _ => by simp [num]
  | a :: x, b :: y, h => by
    have hl : x.length = y.length := by simpa using h
    have ih := less_num x y hl
    rw [num_cons, num_cons, hl, List.cons_lt_cons_iff, ih]
    have h1 := num_lt x
    have h2 := num_lt y
    rw [hl] at h1
    generalize 256 ^ y.length = B at *
    have hB : 0 < B := by omega
    constructor
    · rintro (h | ⟨rfl, h⟩)
      · have h' : a.toNat + 1 ≤ b.toNat := UInt8.lt_iff_toNat_lt.1 h
        have := Nat.mul_le_mul_right B h'
        rw [Nat.add_mul, Nat.one_mul] at this
        omega
      · omega
    · intro h
      rcases Nat.lt_trichotomy a.toNat b.toNat with h3 | h3 | h3
      · exact .inl (UInt8.lt_iff_toNat_lt.2 h3)
      · exact .inr ⟨UInt8.toNat_inj.1 h3, by rw [h3] at h; omega⟩
      · exfalso
        have := Nat.mul_le_mul_right B (show b.toNat + 1 ≤ a.toNat from h3)
        rw [Nat.add_mul, Nat.one_mul] at this
        omega
theorem be_less (a b : Nat) (ha : a < 18446744073709551616) (hb : b < 18446744073709551616) : Op.bytesLess (be 8 a) (be 8 b) = decide (a < b) := by
  rw [Go.Proofs.bytesLess_eq, decide_eq_decide, less_num _ _ (by rw [be_length, be_length]), num_be8 a ha, num_be8 b hb]
theorem be_eq (a b : Nat) (ha : a < 18446744073709551616) (hb : b < 18446744073709551616) : (be 8 a == be 8 b) = decide (a = b) := by
  rw [Bool.eq_iff_iff, beq_iff_eq, decide_eq_true_eq]
  constructor
  · intro h
    rw [← num_be8 a ha, h, num_be8 b hb]
  · intro h; rw [h]
theorem be_drop (j k v : Nat) : (be (j + k) v).drop j = be k (v % 2 ^ (8 * k)) := by
  apply List.ext_getElem?
  intro i
  rw [List.getElem?_drop]
  by_cases h : i < k
  · have e1 : j + k - 1 - (j + i) = k - 1 - i := by omega
    simp only [be, List.getElem?_map, List.getElem?_range (show j + i < j + k by omega), List.getElem?_range h, Option.map_some, e1]
    congr 2
    have e2 : 8 * k = 8 * (k - 1 - i) + 8 * (i + 1) := by omega
    rw [e2, Nat.pow_add, Nat.mod_mul_right_div_self]
    rw [Nat.mod_mod_of_dvd]
    rw [show 8 * (i + 1) = 8 + 8 * i by omega, Nat.pow_add]
    exact Nat.dvd_mul_right _ _
  · rw [List.getElem?_eq_none (by rw [be_length]; omega), List.getElem?_eq_none (by rw [be_length]; omega)]
theorem str_list (l : List UInt8) : (⟨l.toArray⟩ : ByteArray).toList = l := by rw [Lib.toList_data]
theorem str_drop (l : List UInt8) (n : Nat) : (⟨l.toArray⟩ : ByteArray).extract n l.length = ⟨(l.drop n).toArray⟩ := by
  apply ByteArray.ext
  rw [ByteArray.data_extract]
  simp
  rw [List.take_of_length_le (by simp)]
end Go.Proofs.Ytheednoklgccdaa.Pack
