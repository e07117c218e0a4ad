/-
  What is told of all, while they are read one by one. No program stands here.
-/
import Derived.Test.YtjefddliebokaaaReplyRow
namespace Go.Proofs.Ytjefddliebokaaa.Reply
open Go.RowKit Base Pack

/-- what is told of all, while the first i bytes are read -/
def Told (b : List UInt8) (i : Nat) (X : List At) : Prop := log b = if (log (b.drop i)).e = 0 then ⟨X.map (·.2) ++ (log (b.drop i)).l, 0⟩ else ⟨[], (log (b.drop i)).e⟩
theorem log_none {b : List UInt8} (h : ¬ (log b).e = 0) : log b = ⟨[], (log b).e⟩ := by
  rcases Nat.eq_zero_or_pos b.length with h0 | h0
  · obtain rfl := List.eq_nil_of_length_eq_zero h0
    exact absurd rfl h
  · by_cases he : (getB b).e = 0
    · have hs := log_step h0 he
      by_cases h2 : (log (b.drop (getB b).n)).e = 0
      · rw [if_pos h2] at hs
        rw [hs] at h
        exact absurd rfl h
      · rw [if_neg h2] at hs
        rw [hs]
    · rw [log_fail h0 he]
theorem Told.start (b : List UInt8) : Told b 0 [] := by
  unfold Told
  rw [List.drop_zero]
  by_cases h : (log b).e = 0
  · rw [if_pos h]
    cases hq : log b
    rw [hq] at h
    simp only at h
    subst h
    rfl
  · rw [if_neg h]
    exact log_none h
theorem Told.fail {b : List UInt8} {i : Nat} {X : List At} (h : Told b i X) (hi : i < b.length) (he : ¬ (getB (b.drop i)).e = 0) : log b = ⟨[], (getB (b.drop i)).e⟩ := by
  unfold Told at h
  rw [h, log_fail (by rw [List.length_drop]; omega) he, if_neg he]
theorem Told.next {b : List UInt8} {i : Nat} {X : List At} (h : Told b i X) (hi : i < b.length) (he : (getB (b.drop i)).e = 0) (v : Value) : Told b (i + (getB (b.drop i)).n) (X ++ [(v, (getB (b.drop i)).r)]) := by
  unfold Told at *
  rw [h, log_step (by rw [List.length_drop]; omega) he, List.drop_drop]
  by_cases hz : (log (b.drop (i + (getB (b.drop i)).n))).e = 0
  · rw [if_pos hz, if_pos rfl, if_pos hz]
    simp
  · rw [if_neg hz, if_neg hz, if_neg hz]
theorem Told.all {b : List UInt8} {i : Nat} {X : List At} (h : Told b i X) (hi : b.length ≤ i) : log b = ⟨X.map (·.2), 0⟩ := by
  unfold Told at h
  rw [h, List.drop_of_length_le hi, log_nil, if_pos rfl, List.append_nil]
end Go.Proofs.Ytjefddliebokaaa.Reply
