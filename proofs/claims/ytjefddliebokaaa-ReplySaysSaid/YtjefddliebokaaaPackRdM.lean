/-
  What the reference's reader tells, by the bytes alone. No program stands here.
-/
import Derived.Test.YtjefddliebokaaaPackRef
namespace Go.Proofs.Ytjefddliebokaaa.Pack
open Go.RowKit Base

theorem rd_ok {n : Nat} {b : List UInt8} (h : n ≤ b.length) : refOut n b 0 = b.take n ∧ refRest n b 0 = b.drop n ∧ refErr n b 0 = 0 := by
  have h1 : ¬ (n : Int) < 0 := by omega
  have h2 : ¬ (b.length : Int) < (n : Int) := by omega
  unfold refOut refRest refErr
  simp only [if_true, if_neg h1, if_neg h2, Int.toNat_natCast]
  exact ⟨trivial, trivial, trivial⟩
theorem rd_short {n : Nat} {b : List UInt8} (h : b.length < n) : refOut n b 0 = [] ∧ refRest n b 0 = b ∧ refErr n b 0 = 3 := by
  have h1 : ¬ (n : Int) < 0 := by omega
  have h2 : (b.length : Int) < (n : Int) := by omega
  unfold refOut refRest refErr
  simp only [if_true, if_neg h1, if_pos h2]
  exact ⟨trivial, trivial, trivial⟩
theorem rd_err {n : Nat} {b : List UInt8} {e : Int} (h : ¬ e = 0) : refOut n b e = [] ∧ refRest n b e = b ∧ refErr n b e = e := by
  unfold refOut refRest refErr
  rw [if_neg h, if_neg h, if_neg h]
  exact ⟨rfl, rfl, rfl⟩
theorem rdb_err {m : Int} {b : List UInt8} {e : Int} (h : ¬ e = 0) : refBytesOut m b e = [] ∧ refBytesErr m b e = e := by
  obtain ⟨h1, h2, h3⟩ := rd_err (n := 2) (b := b) h
  have h3 : refErr 2 b e = e := h3
  unfold refBytesOut refBytesErr
  rw [h3, if_neg h, if_neg h]
  exact ⟨rfl, rfl⟩
theorem rdb_ok (m : Int) (b : List UInt8) : refBytesOut m b 0 = bytesOut m b ∧ refBytesErr m b 0 = bytesErr m b 0 ∧ (bytesErr m b 0 = 0 → refBytesRest m b 0 = bytesRest m b) := by
  obtain ⟨h1, h2, h3⟩ := alike_bytes m (l := b) (b := b) (e := 0) (E := 0) ⟨rfl, rfl⟩
  refine ⟨h1.symm, h2.symm, fun h => ?_⟩
  rw [h3, ← h2, if_pos h]
end Go.Proofs.Ytjefddliebokaaa.Pack
