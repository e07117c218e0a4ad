/-
  What is written in one part stays out of the others. No program stands here.
-/
import Derived.Test.YtkdpdbjefehmpaaAreIO
namespace Go.Proofs.Ytkdpdbjefehmpaa.Arena
open Go.RowKit Base

theorem putAt_comm (bs x y : List UInt8) (p q : Nat) (hp : p + x.length ≤ q) (hq : q + y.length ≤ bs.length) : putAt (putAt bs p x) q y = putAt (putAt bs q y) p x := by
  apply List.ext_getElem?
  intro j
  rw [putAt_get _ q y (by rw [putAt_length _ _ _ (by omega)]; exact hq), putAt_get _ p x (by omega), putAt_get _ p x (by rw [putAt_length _ _ _ hq]; omega), putAt_get _ q y hq]
  by_cases h1 : q ≤ j ∧ j < q + y.length
  · rw [if_pos h1, if_neg (by omega), if_pos h1]
  · rw [if_neg h1, if_neg h1]
theorem cut_other (bs y : List UInt8) (p n q : Nat) (hq : q + y.length ≤ bs.length) (h : p + n ≤ q ∨ q + y.length ≤ p) : ((putAt bs q y).drop p).take n = (bs.drop p).take n := by
  apply List.ext_getElem?
  intro j
  by_cases hj : j < n
  · rw [List.getElem?_take_of_lt hj, List.getElem?_take_of_lt hj, List.getElem?_drop, List.getElem?_drop, putAt_get _ _ _ hq, if_neg (by omega)]
  · rw [List.getElem?_eq_none (by simp; omega), List.getElem?_eq_none (by simp; omega)]
/-- places of different parts -/
theorem place_apart {size : Int} {L : List Int} (hF : Fits size L) (j k a b n : Nat) (hjk : j < k) (hk : k < L.length) (hn : (n : Int) ≤ L.getD j 0 - (a : Int)) : place L j a + n ≤ place L k b := by
  have h1 := place_int hF j a (by omega)
  have h2 := place_int hF k b hk
  have h3 := cut_succ L j (by omega)
  have h4 := hF.mono (j := j + 1) (k := k) (by omega) (by omega)
  omega
theorem wrote_comm {L : List Int} {bs : List UInt8} (hF : Fits (bs.length : Int) L) (j k : Nat) (hjk : j < k) (at1 at2 : Int) (x y : List UInt8) : wrote L (wrote L bs (j : Int) at1 x) (k : Int) at2 y = wrote L (wrote L bs (k : Int) at2 y) (j : Int) at1 x := by
  by_cases h1 : perr L (j : Int) at1 (x.length : Int) = 0
  · by_cases h2 : perr L (k : Int) at2 (y.length : Int) = 0
    · rw [wrote_in h1, wrote_in h2, wrote_in h2, wrote_in h1]
      obtain ⟨j', a, m, e1, rfl, e2, hj, hm⟩ := perr_iff h1
      obtain ⟨k', b, m', e3, rfl, e4, hk, hm'⟩ := perr_iff h2
      have hpl := perr_place hF h2
      simp only [Int.toNat_natCast] at hpl ⊢
      obtain rfl : j = j' := by omega
      obtain rfl : k = k' := by omega
      refine putAt_comm bs x y _ _ (place_apart hF j k a b x.length hjk hk (by omega)) hpl
    · rw [wrote_in h1, wrote_not h2, wrote_not h2, wrote_in h1]
  · rw [wrote_not h1, wrote_not h1]
theorem readOut_self {L : List Int} {bs : List UInt8} (hF : Fits (bs.length : Int) L) (i at_ : Int) (x : List UInt8) (h : perr L i at_ (x.length : Int) = 0) : readOut L (wrote L bs i at_ x) i at_ (x.length : Int) = x := by
  rw [readOut_in h, wrote_in h, Int.toNat_natCast]
  exact putAt_cut _ _ _ (by simpa using perr_place hF h)
theorem readOut_other {L : List Int} {bs : List UInt8} (hF : Fits (bs.length : Int) L) (j k : Nat) (hne : j ≠ k) (at1 at2 n : Int) (y : List UInt8) (h : perr L (j : Int) at1 n = 0) : readOut L (wrote L bs (k : Int) at2 y) (j : Int) at1 n = readOut L bs (j : Int) at1 n := by
  by_cases h2 : perr L (k : Int) at2 (y.length : Int) = 0
  · rw [readOut_in h, readOut_in h, wrote_in h2]
    have hpl := perr_place hF h2
    obtain ⟨j', a, m, e1, rfl, rfl, hj, hm⟩ := perr_iff h
    obtain ⟨k', b, m', e3, rfl, e4, hk, hm'⟩ := perr_iff h2
    simp only [Int.toNat_natCast] at hpl ⊢
    obtain rfl : j = j' := by omega
    obtain rfl : k = k' := by omega
    refine cut_other _ _ _ _ _ hpl ?_
    rcases Nat.lt_or_gt_of_ne hne with h' | h'
    · exact .inl (place_apart hF j k a b m h' hk hm)
    · exact .inr (place_apart hF k j b a y.length h' hj (by omega))
  · rw [wrote_not h2]
end Go.Proofs.Ytkdpdbjefehmpaa.Arena
