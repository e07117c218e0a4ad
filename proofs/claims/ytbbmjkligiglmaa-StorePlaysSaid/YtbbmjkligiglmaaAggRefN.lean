/-
  The reference's Number, exact.
-/
import Derived.Test.YtbbmjkligiglmaaAggSpec
import Derived.Test.YtbbmjkligiglmaaTenantRef
import Derived.Deep.DeepCutAuto
import Derived.Deep.LoopGhost
namespace Go.Proofs.Ytbbmjkligiglmaa.Agg
open Go.RowKit Base _root_.Go.Proofs.Ytbbmjkligiglmaa.Tenant _root_.Go.Proofs.Ytbbmjkligiglmaa.Series _root_.Go.Proofs.Ytbbmjkligiglmaa.Pack

theorem dec_small (u : Nat) (h : u < 10) : Lib.decDigits u = [UInt8.ofNat (48 + u)] := by rw [Lib.decDigits, dif_pos h]
theorem dec_big (u : Nat) (h : ¬ u < 10) : Lib.decDigits u = Lib.decDigits (u / 10) ++ [UInt8.ofNat (48 + u % 10)] := by rw [Lib.decDigits, dif_neg h]
theorem dec_len (u : Nat) : ∀ k, u < 10 ^ (k + 1) → (Lib.decDigits u).length ≤ k + 1 := by
  intro k
  induction k generalizing u with
  | zero => intro h; rw [dec_small u (by simpa using h)]; simp
  | succ k ih =>
    intro h
    by_cases h1 : u < 10
    · rw [dec_small u h1]; simp
    · rw [dec_big u h1, List.length_append]
      have := ih (u / 10) (by rw [Nat.pow_succ] at h; omega)
      simp; omega
/-- a number as its digits are taken off: the rest r, the last ones S -/
def Offs (n r : Int) (S : List UInt8) : Prop := Lib.decDigits n.natAbs = Lib.decDigits r.natAbs ++ S ∧ S.length ≤ 20 ∧ (r < 0 → n < 0) ∧ (0 < r → 0 ≤ n) ∧ (r = 0 → n = 0)
theorem one_byte (w : World) (t : TypeId) (d : Nat) (b : UInt8) (hb : b.toNat = 48 + d) : BytesIs (w.alloc (.cells #[.int .u8 (48 + (d : Int))] t)) (.slice (some ⟨w.heap.size, 0, none⟩) 1 1) [b] := by
  refine ⟨_, 1, w.heap.size, 0, rfl, Nat.le_refl _, fun _ => rfl, fun j hj => ?_⟩
  obtain rfl : j = 0 := by simpa using hj
  rw [cell_of_row _ _ _ _ _ _ (heap_alloc_new w _)]
  show some (Value.int .u8 (48 + (d : Int))) = some (.int .u8 (b.toNat : Int))
  rw [hb]
  simp
theorem str_cons (b : UInt8) (S : List UInt8) : (⟨#[b]⟩ : ByteArray) ++ ⟨S.toArray⟩ = ⟨(b :: S).toArray⟩ := by
  apply ByteArray.ext
  simp
theorem Offs.next {n r q : Int} {S : List UInt8} {d : Nat} {b : UInt8} (h : Offs n r S) (hn : Fit n) (hq : r.tdiv 10 = q) (hd : r.natAbs % 10 = d) (hb : b = UInt8.ofNat (48 + d)) (hq0 : q ≠ 0) : Offs n q (b :: S) ∧ q.natAbs < r.natAbs := by
  obtain ⟨h1, h2, h3, h4, h5⟩ := h
  have hqa : q.natAbs = r.natAbs / 10 := by rw [← hq, Int.natAbs_tdiv]; rfl
  have hbig : ¬ r.natAbs < 10 := fun hlt => hq0 (by omega)
  refine ⟨⟨?_, ?_, fun hx => h3 ?_, fun hx => h4 ?_, fun hx => absurd hx hq0⟩, by omega⟩
  · rw [h1, dec_big _ hbig, ← hqa, hd, hb]
    simp
  · have hl := dec_len n.natAbs 18 (by unfold Fit at hn; omega)
    rw [h1, List.length_append, dec_big _ hbig, List.length_append, ← hqa] at hl
    simp at hl ⊢
    omega
  · rcases Int.lt_trichotomy r 0 with h | h | h
    · exact h
    · subst h; simp at hbig
    · have := Int.tdiv_nonneg (show 0 ≤ r by omega) (show (0 : Int) ≤ 10 by decide); omega
  · rcases Int.lt_trichotomy r 0 with h | h | h
    · have h6 := Int.tdiv_nonneg (show 0 ≤ -r by omega) (show (0 : Int) ≤ 10 by decide)
      rw [Int.neg_tdiv] at h6
      omega
    · subst h; simp at hbig
    · exact h
theorem Offs.last {n r : Int} {S : List UInt8} {d : Nat} {b : UInt8} (h : Offs n r S) (hq : r.tdiv 10 = 0) (hd : r.natAbs % 10 = d) (hb : b = UInt8.ofNat (48 + d)) : Lib.decDigits n.natAbs = b :: S ∧ (b :: S).length ≤ 21 := by
  have hqa : (0 : Int).natAbs = r.natAbs / 10 := by rw [← hq, Int.natAbs_tdiv]; rfl
  have hsm : r.natAbs < 10 := by simp at hqa; omega
  refine ⟨?_, by have := h.2.1; simp; omega⟩
  rw [h.1, dec_small _ hsm, hb, ← hd, Nat.mod_eq_of_lt hsm]
  rfl
theorem itoa_neg {n : Int} (h : n < 0) : Lib.itoa n = 45 :: Lib.decDigits n.natAbs := by unfold Lib.itoa; rw [if_pos h]
theorem itoa_pos {n : Int} (h : ¬ n < 0) : Lib.itoa n = Lib.decDigits n.natAbs := by
  unfold Lib.itoa
  rw [if_neg h]
  congr 1
  omega
theorem no_over (b : UInt8) (S : List UInt8) (h : S.length ≤ 20) : ¬ ((⟨#[b]⟩ : ByteArray).size + (⟨S.toArray⟩ : ByteArray).size > 9223372036854775807) := by
  rw [show (⟨#[b]⟩ : ByteArray).size = 1 from rfl, size_str]
  omega
theorem no_over2 (b : UInt8) (S : List UInt8) (h : S.length ≤ 20) : ¬ ((⟨#[45]⟩ : ByteArray).size + ((⟨#[b]⟩ : ByteArray) ++ ⟨S.toArray⟩).size > 9223372036854775807) := by
  rw [str_cons, show (⟨#[45]⟩ : ByteArray).size = 1 from rfl, size_str, List.length_cons]
  omega
theorem wrap_digit {x : Int} {d : Nat} (h : -x = (d : Int)) (hd : d < 10) : wrap64 (-x) = (d : Int) := by rw [h]; simp only [wrap64]; omega
theorem rem_ways (r : Int) (d : Nat) (hd : r.natAbs % 10 = d) : r.tmod 10 = (d : Int) ∨ (r.tmod 10 < 0 ∧ -(r.tmod 10) = (d : Int)) := by
  rcases Int.le_total 0 r with h | h
  · left
    rw [Int.tmod_eq_emod_of_nonneg h]
    omega
  · have e : r.tmod 10 = -((-r).tmod 10) := by rw [Int.neg_tmod, Int.neg_neg]
    rw [Int.tmod_eq_emod_of_nonneg (show 0 ≤ -r by omega)] at e
    omega
theorem size_one (b : UInt8) : (⟨#[b]⟩ : ByteArray).size = 1 := rfl
end Go.Proofs.Ytbbmjkligiglmaa.Agg
