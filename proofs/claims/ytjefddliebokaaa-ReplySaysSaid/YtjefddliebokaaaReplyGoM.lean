/-
  What the program's next reckons is what getB tells; a front of 263 bytes is enough.
-/
import Derived.Test.YtjefddliebokaaaReplyMem
namespace Go.Proofs.Ytjefddliebokaaa.Reply
open Go.RowKit Base Pack

theorem c_ok {n : Nat} {l : List UInt8} (h : n ≤ l.length) (e : Int) : cutOut n l = l.take n ∧ cutRest n l = l.drop n ∧ cutErr n l e = e := by
  unfold cutOut cutRest cutErr
  rw [if_neg (by omega), if_neg (by omega), if_neg (by omega)]
  exact ⟨rfl, rfl, rfl⟩
theorem c_short {n : Nat} {l : List UInt8} (h : l.length < n) : cutOut n l = [] ∧ cutRest n l = [] ∧ cutErr n l 0 = 3 := by
  unfold cutOut cutRest cutErr failE
  rw [if_pos h, if_pos h, if_pos h, if_pos rfl]
  exact ⟨rfl, rfl, rfl⟩
theorem c_keep {n : Nat} {l : List UInt8} {e : Int} (h : ¬ e = 0) : cutErr n l e = e := by
  unfold cutErr failE
  rw [if_neg h]
  split <;> rfl
theorem b_keep {m : Int} {l : List UInt8} {e : Int} (h : ¬ e = 0) : bytesErr m l e = e := by
  unfold bytesErr
  rw [c_keep h, c_keep h]
  unfold failE
  rw [if_neg h]
  split <;> rfl
theorem num_1 (x : UInt8) : num [x] = x.toNat := by simp [num]
theorem take_1 (b : List UInt8) (h : 0 < b.length) : b.take 1 = [b.getD 0 0] := by
  match b, h with
  | x :: l, _ => rfl
theorem drop_0 (b : List UInt8) (k : Nat) : (b.drop k).getD 0 0 = b.getD k 0 := by
  rw [List.getD_eq_getElem?_getD, List.getD_eq_getElem?_getD, List.getElem?_drop, Nat.add_zero]
/-- the program's road to what getB tells -/
theorem next_is {b b1 b2 b3 b4 body : List UInt8} {K H S : Nat} {e1 e2 e3 e4 : Int} (hK : K = num (cutOut 1 b)) (h1 : b1 = cutRest 1 b) (g1 : e1 = cutErr 1 b 0) (hH : H = num (cutOut 1 b1)) (h2 : b2 = cutRest 1 b1) (g2 : e2 = cutErr 1 b1 e1)
    (hS : S = num (cutOut 4 b2)) (h3 : b3 = cutRest 4 b2) (g3 : e3 = cutErr 4 b2 e2) (hB : body = bytesOut 255 b3) (h4 : b4 = bytesRest 255 b3) (g4 : e4 = bytesErr 255 b3 e3) :
    (¬ e4 = 0 → getB b = ⟨zero, 0, e4⟩) ∧ (e4 = 0 → (1 < H ∨ good ⟨(K : Int), decide (H = 1), S, body⟩ = false) → getB b = ⟨zero, 0, 2⟩) ∧
      (e4 = 0 → ¬ (1 < H ∨ good ⟨(K : Int), decide (H = 1), S, body⟩ = false) → getB b = ⟨⟨(K : Int), decide (H = 1), S, body⟩, b.length - b4.length, 0⟩ ∧ b4 = b.drop (b.length - b4.length)) := by
  by_cases h6 : b.length < 6
  · have he3 : e3 = 3 := by
      by_cases l1 : b.length < 1
      · rw [(c_short l1).2.2] at g1
        subst g1
        rw [c_keep (by decide)] at g2
        subst g2
        rw [g3, c_keep (by decide)]
      · obtain ⟨_, r2, r3⟩ := c_ok (n := 1) (l := b) (by omega) 0
        rw [r3] at g1
        rw [r2] at h1
        subst g1
        by_cases l2 : b.length < 2
        · rw [(c_short (n := 1) (l := b1) (by rw [h1, List.length_drop]; omega)).2.2] at g2
          subst g2
          rw [g3, c_keep (by decide)]
        · obtain ⟨_, q2, q3⟩ := c_ok (n := 1) (l := b1) (by rw [h1, List.length_drop]; omega) 0
          rw [q3] at g2
          rw [q2, h1, List.drop_drop] at h2
          subst g2
          rw [g3, (c_short (n := 4) (l := b2) (by rw [h2, List.length_drop]; omega)).2.2]
    rw [he3, b_keep (by decide)] at g4
    refine ⟨fun _ => ?_, fun h => absurd (g4.symm.trans h) (by decide), fun h => absurd (g4.symm.trans h) (by decide)⟩
    rw [g4]
    unfold getB
    rw [if_pos h6]
  · obtain ⟨r1, r2, r3⟩ := c_ok (n := 1) (l := b) (by omega) 0
    rw [r1, take_1 b (by omega), num_1] at hK
    rw [r3] at g1
    rw [r2] at h1
    subst g1
    obtain ⟨q1, q2, q3⟩ := c_ok (n := 1) (l := b1) (by rw [h1, List.length_drop]; omega) 0
    rw [q1, take_1 b1 (by rw [h1, List.length_drop]; omega), num_1, h1, drop_0 b 1] at hH
    rw [q3] at g2
    rw [q2, h1, List.drop_drop] at h2
    subst g2
    obtain ⟨s1, s2, s3⟩ := c_ok (n := 4) (l := b2) (by rw [h2, List.length_drop]; omega) 0
    rw [s1, h2] at hS
    rw [s3] at g3
    rw [s2, h2, List.drop_drop] at h3
    subst g3
    have hx : readR b = ⟨(K : Int), decide (H = 1), S, body⟩ := by
      unfold readR
      rw [hK, hH, hS, hB, h3]
    have hd : b.drop 6 = b3 := h3.symm
    have hg : getB b = if e4 = 0 then (if 1 < H ∨ good ⟨(K : Int), decide (H = 1), S, body⟩ = false then ⟨zero, 0, 2⟩ else ⟨⟨(K : Int), decide (H = 1), S, body⟩, b.length - b4.length, 0⟩) else ⟨zero, 0, e4⟩ := by
      unfold getB
      rw [if_neg h6, hd, ← g4, hx, ← hH, ← h4]
    refine ⟨fun h => by rw [hg, if_neg h], fun h hc => by rw [hg, if_pos h, if_pos hc], fun h hc => ⟨by rw [hg, if_pos h, if_neg hc], ?_⟩⟩
    have hz : bytesErr 255 b3 0 = 0 := by rw [← g4]; exact h
    obtain ⟨z1, z2, z3⟩ := bytes_stood (m := 255) (l := b3) hz
    have z3' : b3 = be 2 body.length ++ (body ++ b4) := by rw [hB, h4]; exact z3
    have hl := congrArg List.length z3'
    rw [List.length_append, List.length_append, be_length] at hl
    have hl6 : b3.length = b.length - 6 := by rw [h3, List.length_drop]
    have e : b.length - b4.length = 6 + (2 + body.length) := by omega
    rw [e, ← List.drop_drop, hd]
    conv => rhs; rw [z3', ← List.append_assoc]
    rw [List.drop_append_of_le_length (by rw [List.length_append, be_length]; exact Nat.le_refl _), List.drop_of_length_le (by rw [List.length_append, be_length]; exact Nat.le_refl _), List.nil_append]
theorem take_cut {k n : Nat} {x : List UInt8} (h : k ≤ n) : (x.take n).take k = x.take k := by rw [List.take_take, Nat.min_eq_left h]
/-- so many bytes are enough for a body -/
theorem bytes_take (m : Nat) (x : List UInt8) (h : 2 + m ≤ x.length) :
    bytesOut m (x.take (2 + m)) = bytesOut m x ∧ bytesErr m (x.take (2 + m)) 0 = bytesErr m x 0 ∧ (bytesErr m x 0 = 0 → (bytesRest m (x.take (2 + m))).length + (x.length - (2 + m)) = (bytesRest m x).length) := by
  have hl : (x.take (2 + m)).length = 2 + m := by rw [List.length_take]; omega
  obtain ⟨a1, a2, a3⟩ := c_ok (n := 2) (l := x.take (2 + m)) (by omega) 0
  obtain ⟨b1, b2, b3⟩ := c_ok (n := 2) (l := x) (by omega) 0
  unfold bytesOut bytesErr bytesRest
  rw [a1, a2, a3, b1, b2, b3, take_cut (by omega)]
  have hd : (x.take (2 + m)).drop 2 = (x.drop 2).take m := by rw [List.drop_take]; congr 1; omega
  rw [hd]
  generalize num (x.take 2) = n
  by_cases hm : (m : Int) < (n : Int)
  · simp only [if_pos hm]
    refine ⟨trivial, trivial, fun h => ?_⟩
    exact absurd h (by unfold failE; simp)
  · simp only [if_neg hm]
    have hx2 : (x.drop 2).length = x.length - 2 := List.length_drop
    have ht : ((x.drop 2).take m).length = m := by rw [List.length_take, hx2]; omega
    obtain ⟨c1, c2, c3⟩ := c_ok (n := n) (l := (x.drop 2).take m) (by omega) 0
    obtain ⟨d1, d2, d3⟩ := c_ok (n := n) (l := x.drop 2) (by omega) 0
    rw [c1, c2, c3, d1, d2, d3, take_cut (by omega)]
    refine ⟨rfl, rfl, fun _ => ?_⟩
    rw [List.length_drop, ht, List.length_drop, hx2]
    omega
/-- no more than 263 bytes are looked at -/
theorem get_take (b : List UInt8) : getB (b.take 263) = getB b := by
  by_cases h : b.length ≤ 263
  · rw [List.take_of_length_le h]
  · have hl : (b.take 263).length = 263 := by rw [List.length_take]; omega
    have hd : (b.take 263).drop 6 = (b.drop 6).take (2 + 255) := by rw [List.drop_take]
    have hx6 : (b.drop 6).length = b.length - 6 := List.length_drop
    obtain ⟨a1, a2, a3⟩ := bytes_take 255 (b.drop 6) (by omega)
    rw [show ((255 : Nat) : Int) = 255 from rfl] at a1 a2 a3
    have g : ∀ i, i < 263 → (b.take 263).getD i 0 = b.getD i 0 := fun i hi => by
      rw [List.getD_eq_getElem?_getD, List.getD_eq_getElem?_getD, List.getElem?_take, if_pos hi]
    have g2 : ((b.take 263).drop 2).take 4 = (b.drop 2).take 4 := by rw [List.drop_take, take_cut (by decide)]
    have hr : readR (b.take 263) = readR b := by
      unfold readR
      rw [g 0 (by decide), g 1 (by decide), g2, hd, a1]
    unfold getB
    rw [hr, hd, a2, hl, g 1 (by decide), if_neg (show ¬ 263 < 6 by decide), if_neg (show ¬ b.length < 6 by omega)]
    by_cases hz : bytesErr 255 (b.drop 6) 0 = 0
    · have h3 := a3 hz
      rw [if_pos hz, if_pos hz]
      have e : 263 - (bytesRest 255 ((b.drop 6).take (2 + 255))).length = b.length - (bytesRest 255 (b.drop 6)).length := by omega
      rw [e]
    · rw [if_neg hz, if_neg hz]
end Go.Proofs.Ytjefddliebokaaa.Reply
