/-
  What the program's Get reckons is what getB tells.
-/
import Derived.Test.YtemfohccnpopfaaAskRefGetS
import Derived.Test.YtemfohccnpopfaaPackReadO
namespace Go.Proofs.Ytemfohccnpopfaa.Ask
open Go.RowKit Base Pack

theorem c_ok {n : Nat} {l : List UInt8} (h : n ≤ l.length) (e : Int) : cutOut n l = l.take n ∧ cutRest n l = l.drop n ∧ cutErr n l e = e := by
  unfold cutOut cutRest cutErr
  rw [if_neg (by omega), if_neg (by omega), if_neg (by omega)]
  exact ⟨rfl, rfl, rfl⟩
theorem c_short {n : Nat} {l : List UInt8} (h : l.length < n) (e : Int) : cutOut n l = [] ∧ cutRest n l = [] ∧ cutErr n l e = failE 3 e := by
  unfold cutOut cutRest cutErr
  rw [if_pos h, if_pos h, if_pos h]
  exact ⟨rfl, rfl, rfl⟩
theorem failE_ne {c e : Int} (h : c ≠ 0) : failE c e ≠ 0 := by unfold failE; split <;> omega
theorem failE_keep {c e : Int} (h : e ≠ 0) : failE c e = e := by unfold failE; rw [if_neg h]
theorem cutErr_keep {n : Nat} {l : List UInt8} {e : Int} (h : e ≠ 0) : cutErr n l e = e := by
  unfold cutErr; split
  · exact failE_keep h
  · rfl
theorem failE_twice (e : Int) : failE 3 (failE 3 e) = failE 3 e := failE_keep (failE_ne (by decide))
/-- N samples read out of l3: what is told, what is left -/
def After (N : Nat) (l3 : List UInt8) (e3 : Int) (S : List (Int × Int)) (bb : List UInt8) (e : Int) : Prop :=
  S.length = N ∧ ((16 * N ≤ l3.length ∧ bb = l3.drop (16 * N) ∧ e = e3 ∧ S = parse N l3) ∨ (l3.length < 16 * N ∧ bb = [] ∧ e = failE 3 e3))
theorem After.zero (l3 : List UInt8) (e3 : Int) : After 0 l3 e3 [] l3 e3 := ⟨rfl, .inl ⟨by omega, rfl, rfl, rfl⟩⟩
theorem After.next {i : Nat} {l3 bb : List UInt8} {e3 e : Int} {S : List (Int × Int)} (h : After i l3 e3 S bb e) :
    After (i + 1) l3 e3 (S ++ [(un (num (cutOut 8 bb)), un (num (cutOut 8 (cutRest 8 bb))))]) (cutRest 8 (cutRest 8 bb)) (cutErr 8 (cutRest 8 bb) (cutErr 8 bb e)) := by
  obtain ⟨hl, h⟩ := h
  refine ⟨by rw [List.length_append, hl]; rfl, ?_⟩
  rcases h with ⟨h1, rfl, rfl, rfl⟩ | ⟨h1, rfl, rfl⟩
  · have hd : (l3.drop (16 * i)).length = l3.length - 16 * i := List.length_drop
    by_cases h2 : 16 * (i + 1) ≤ l3.length
    · left
      obtain ⟨a1, a2, a3⟩ := c_ok (n := 8) (l := l3.drop (16 * i)) (by omega) e
      have hd2 : ((l3.drop (16 * i)).drop 8).length = l3.length - 16 * i - 8 := by rw [List.length_drop, hd]
      obtain ⟨b1, b2, b3⟩ := c_ok (n := 8) (l := (l3.drop (16 * i)).drop 8) (by omega) e
      rw [a1, a2, a3, b1, b2, b3]
      refine ⟨h2, ?_, rfl, ?_⟩
      · rw [List.drop_drop, List.drop_drop]; congr 1
      · rw [parse_snoc, List.drop_drop]
    · right
      refine ⟨by omega, ?_⟩
      by_cases h3 : (l3.drop (16 * i)).length < 8
      · obtain ⟨a1, a2, a3⟩ := c_short (n := 8) (l := l3.drop (16 * i)) h3 e
        obtain ⟨b1, b2, b3⟩ := c_short (n := 8) (l := []) (by simp) (failE 3 e)
        rw [a2, a3, b2, b3, failE_twice]
        exact ⟨rfl, rfl⟩
      · obtain ⟨a1, a2, a3⟩ := c_ok (n := 8) (l := l3.drop (16 * i)) (by omega) e
        obtain ⟨b1, b2, b3⟩ := c_short (n := 8) (l := (l3.drop (16 * i)).drop 8) (by rw [List.length_drop]; omega) e
        rw [a2, a3, b2, b3]
        exact ⟨rfl, rfl⟩
  · right
    obtain ⟨b1, b2, b3⟩ := c_short (n := 8) (l := []) (by simp) (failE 3 e3)
    rw [b2, b3, b2]
    obtain ⟨_, _, b4⟩ := c_short (n := 8) (l := []) (by simp) (failE 3 (failE 3 e3))
    rw [b4, failE_twice, failE_twice]
    exact ⟨by omega, rfl, rfl⟩
theorem getB_nil : getB [] = (zero, 3) := rfl
theorem cut1_nil : num (cutOut 1 []) = 0 ∧ cutRest 1 [] = [] ∧ cutErr 1 [] 0 = 3 := ⟨rfl, rfl, rfl⟩
theorem cut1_cons (k : UInt8) (l : List UInt8) (e : Int) : num (cutOut 1 (k :: l)) = k.toNat ∧ cutRest 1 (k :: l) = l ∧ cutErr 1 (k :: l) e = e := by
  obtain ⟨h1, h2, h3⟩ := c_ok (n := 1) (l := k :: l) (by simp) e
  rw [h1, h2, h3]
  exact ⟨by simp [num], rfl, rfl⟩
theorem getB_none {k : UInt8} {l : List UInt8} (h1 : ¬ k.toNat = 1) (h2 : ¬ k.toNat = 2) : getB (k :: l) = (zero, 2) := by
  unfold getB
  simp only
  rw [if_neg (by omega)]
theorem pget_p {k : UInt8} {l bb : List UInt8} {S : List (Int × Int)} {e : Int} (hk : k.toNat = 1)
    (hA : After (num (cutOut 1 (bytesRest 16 l))) (cutRest 1 (bytesRest 16 l)) (cutErr 1 (bytesRest 16 l) (bytesErr 16 l 0)) S bb e) :
    (¬ e = 0 → getB (k :: l) = (zero, e)) ∧ (e = 0 → getB (k :: l) = fin ⟨1, bytesOut 16 l, S, 0, 0, 0⟩ bb) := by
  have hg : getB (k :: l) = (if bytesErr 16 l 0 = 0 then getP (bytesOut 16 l) (bytesRest 16 l) else (zero, bytesErr 16 l 0)) := by
    unfold getB
    simp only [hk, true_or, if_true]
  rw [hg]
  obtain ⟨hl, hA⟩ := hA
  by_cases he : bytesErr 16 l 0 = 0
  · rw [if_pos he]
    rw [he] at hA
    generalize bytesRest 16 l = r at *
    cases r with
    | nil =>
      obtain ⟨c1, c2, c3⟩ := cut1_nil
      rw [c1, c2, c3] at hA
      rcases hA with ⟨_, _, rfl, _⟩ | ⟨h, _⟩
      · exact ⟨fun _ => rfl, fun h => absurd h (by decide)⟩
      · exact absurd h (by simp)
    | cons c l3 =>
      obtain ⟨c1, c2, c3⟩ := cut1_cons c l3 0
      rw [c1, c2, c3] at hA
      unfold getP
      simp only
      rcases hA with ⟨h1, rfl, rfl, rfl⟩ | ⟨h1, rfl, rfl⟩
      · rw [if_neg (by omega)]
        exact ⟨fun h => absurd rfl h, fun _ => rfl⟩
      · rw [if_pos h1]
        exact ⟨fun _ => rfl, fun h => absurd h (by decide)⟩
  · rw [if_neg he]
    have h2 : cutErr 1 (bytesRest 16 l) (bytesErr 16 l 0) = bytesErr 16 l 0 := cutErr_keep he
    rw [h2] at hA
    have h3 : e = bytesErr 16 l 0 := by
      rcases hA with ⟨_, _, h, _⟩ | ⟨_, _, h⟩
      · exact h
      · rw [h, failE_keep he]
    rw [h3]
    exact ⟨fun _ => rfl, fun h => absurd h he⟩
theorem getD_take1 (l : List UInt8) (h : 0 < l.length) : num (l.take 1) = (l.getD 0 0).toNat := by
  cases l with
  | nil => simp at h
  | cons c l => simp [num]
theorem pget_q {k : UInt8} {l b2 b3 b4 : List UInt8} {e2 e3 e4 : Int} (hk : k.toNat = 2) (hb2 : b2 = bytesRest 16 l) (he2 : e2 = bytesErr 16 l 0)
    (hb3 : b3 = cutRest 8 b2) (he3 : e3 = cutErr 8 b2 e2) (hb4 : b4 = cutRest 8 b3) (he4 : e4 = cutErr 8 b3 e3) :
    (¬ cutErr 1 b4 e4 = 0 → getB (k :: l) = (zero, cutErr 1 b4 e4)) ∧ (cutErr 1 b4 e4 = 0 → getB (k :: l) = fin ⟨2, bytesOut 16 l, [], un (num (cutOut 8 b2)), un (num (cutOut 8 b3)), (num (cutOut 1 b4) : Int)⟩ (cutRest 1 b4)) := by
  have hg : getB (k :: l) = (if bytesErr 16 l 0 = 0 then getQ (bytesOut 16 l) (bytesRest 16 l) else (zero, bytesErr 16 l 0)) := by
    unfold getB
    simp only [hk, or_true, if_true]
    rfl
  rw [hg, ← hb2, ← he2]
  by_cases he : e2 = 0
  · rw [if_pos he]
    subst he3
    subst he
    subst he4
    unfold getQ
    by_cases hl : b2.length < 17
    · rw [if_pos hl]
      have hE : cutErr 1 b4 (cutErr 8 b3 (cutErr 8 b2 0)) = 3 := by
        by_cases h1 : b2.length < 8
        · obtain ⟨_, a2, a3⟩ := c_short h1 0
          rw [a3]
          rw [cutErr_keep (n := 8) (failE_ne (by decide)), cutErr_keep (failE_ne (by decide))]
          rfl
        · obtain ⟨_, a2, a3⟩ := c_ok (n := 8) (l := b2) (by omega) 0
          rw [a2] at hb3
          have l3 : b3.length = b2.length - 8 := by rw [hb3, List.length_drop]
          rw [a3]
          by_cases h2 : b3.length < 8
          · obtain ⟨_, c2, c3⟩ := c_short h2 0
            rw [c3, cutErr_keep (failE_ne (by decide))]
            rfl
          · obtain ⟨_, c2, c3⟩ := c_ok (n := 8) (l := b3) (by omega) 0
            rw [c2] at hb4
            have l4 : b4.length = b3.length - 8 := by rw [hb4, List.length_drop]
            rw [c3]
            obtain ⟨_, _, d3⟩ := c_short (n := 1) (l := b4) (by omega) 0
            rw [d3]
            rfl
      rw [hE]
      exact ⟨fun _ => rfl, fun h => absurd h (by decide)⟩
    · rw [if_neg hl]
      obtain ⟨a1, a2, a3⟩ := c_ok (n := 8) (l := b2) (by omega) 0
      rw [a2] at hb3
      have l3 : b3.length = b2.length - 8 := by rw [hb3, List.length_drop]
      obtain ⟨c1, c2, c3⟩ := c_ok (n := 8) (l := b3) (by omega) 0
      rw [c2] at hb4
      have l4 : b4.length = b3.length - 8 := by rw [hb4, List.length_drop]
      obtain ⟨d1, d2, d3⟩ := c_ok (n := 1) (l := b4) (by omega) 0
      rw [a3, c3, d3, a1, c1, d1, d2]
      refine ⟨fun h => absurd rfl h, fun _ => ?_⟩
      have hw : num (b4.take 1) = (b2.getD 16 0).toNat := by
        rw [getD_take1 b4 (by omega), hb4, hb3, List.drop_drop]
        simp [List.getD_eq_getElem?_getD, List.getElem?_drop]
      have hr : b4.drop 1 = b2.drop 17 := by rw [hb4, hb3, List.drop_drop, List.drop_drop]
      rw [hw, hr, hb3]
  · rw [if_neg he]
    have h3 : e3 = e2 := by rw [he3, cutErr_keep he]
    have h4 : e4 = e2 := by rw [he4, h3, cutErr_keep he]
    have h5 : cutErr 1 b4 e4 = e2 := by rw [h4, cutErr_keep he]
    rw [h5]
    exact ⟨fun _ => rfl, fun h => absurd h he⟩
end Go.Proofs.Ytemfohccnpopfaa.Ask
