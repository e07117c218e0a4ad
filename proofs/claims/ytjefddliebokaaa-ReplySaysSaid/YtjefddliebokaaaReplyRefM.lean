/-
  What GetReply reckons, read by the reference's reader.
-/
import Derived.Test.YtjefddliebokaaaReplyMem
import Derived.Test.YtjefddliebokaaaPackRdM
namespace Go.Proofs.Ytjefddliebokaaa.Reply
open Go.RowKit Base Pack

theorem num_one (x : UInt8) : num [x] = x.toNat := by simp [num]
theorem take_one (b : List UInt8) (h : 0 < b.length) : b.take 1 = [b.getD 0 0] := by
  match b, h with
  | x :: l, _ => rfl
theorem drop_getD (b : List UInt8) (k : Nat) (h : k < b.length) : (b.drop k).getD 0 0 = b.getD k 0 := by
  rw [List.getD_eq_getElem?_getD, List.getD_eq_getElem?_getD, List.getElem?_drop, Nat.add_zero]
/-- the reference's road to what getB tells -/
theorem get_is {b b1 b2 b3 b4 body : List UInt8} {K H S : Nat} {e1 e2 e3 e4 : Int} (hK : K = num (refOut 1 b 0)) (h1 : b1 = refRest 1 b 0) (g1 : e1 = refErr 1 b 0) (hH : H = num (refOut 1 b1 e1)) (h2 : b2 = refRest 1 b1 e1) (g2 : e2 = refErr 1 b1 e1)
    (hS : S = num (refOut 4 b2 e2)) (h3 : b3 = refRest 4 b2 e2) (g3 : e3 = refErr 4 b2 e2) (hB : body = refBytesOut 255 b3 e3) (h4 : b4 = refBytesRest 255 b3 e3) (g4 : e4 = refBytesErr 255 b3 e3) :
    (¬ e4 = 0 → getB b = ⟨zero, 0, e4⟩) ∧ (e4 = 0 → (1 < H ∨ good ⟨(K : Int), decide (H = 1), S, body⟩ = false) → getB b = ⟨zero, 0, 2⟩) ∧
      (e4 = 0 → ¬ (1 < H ∨ good ⟨(K : Int), decide (H = 1), S, body⟩ = false) → getB b = ⟨⟨(K : Int), decide (H = 1), S, body⟩, b.length - b4.length, 0⟩) := by
  by_cases h6 : b.length < 6
  · have he3 : e3 = 3 := by
      by_cases l1 : b.length < 1
      · have r := rd_short (n := 1) (b := b) l1
        simp only [show ((1 : Nat) : Int) = 1 from rfl] at r
        rw [r.2.2] at g1
        subst g1
        have r2 := rd_err (n := 1) (b := b1) (e := 3) (by decide)
        simp only [show ((1 : Nat) : Int) = 1 from rfl] at r2
        rw [r2.2.2] at g2
        subst g2
        have r3 := rd_err (n := 4) (b := b2) (e := 3) (by decide)
        simp only [show ((4 : Nat) : Int) = 4 from rfl] at r3
        rw [g3, r3.2.2]
      · have r := rd_ok (n := 1) (b := b) (by omega)
        simp only [show ((1 : Nat) : Int) = 1 from rfl] at r
        rw [r.2.2] at g1
        rw [r.2.1] at h1
        subst g1
        by_cases l2 : b.length < 2
        · have r2 := rd_short (n := 1) (b := b1) (by rw [h1, List.length_drop]; omega)
          simp only [show ((1 : Nat) : Int) = 1 from rfl] at r2
          rw [r2.2.2] at g2
          subst g2
          have r3 := rd_err (n := 4) (b := b2) (e := 3) (by decide)
          simp only [show ((4 : Nat) : Int) = 4 from rfl] at r3
          rw [g3, r3.2.2]
        · have r2 := rd_ok (n := 1) (b := b1) (by rw [h1, List.length_drop]; omega)
          simp only [show ((1 : Nat) : Int) = 1 from rfl] at r2
          rw [r2.2.2] at g2
          rw [r2.2.1, h1, List.drop_drop] at h2
          subst g2
          have r3 := rd_short (n := 4) (b := b2) (by rw [h2, List.length_drop]; omega)
          simp only [show ((4 : Nat) : Int) = 4 from rfl] at r3
          rw [g3, r3.2.2]
    rw [he3, (rdb_err (m := 255) (b := b3) (e := 3) (by decide)).2] at g4
    refine ⟨fun _ => ?_, fun h => absurd (g4.symm.trans h) (by decide), fun h => absurd (g4.symm.trans h) (by decide)⟩
    rw [g4]
    unfold getB
    rw [if_pos h6]
  · have r := rd_ok (n := 1) (b := b) (by omega)
    simp only [show ((1 : Nat) : Int) = 1 from rfl] at r
    rw [r.1, take_one b (by omega), num_one] at hK
    rw [r.2.2] at g1
    rw [r.2.1] at h1
    subst g1
    have r2 := rd_ok (n := 1) (b := b1) (by rw [h1, List.length_drop]; omega)
    simp only [show ((1 : Nat) : Int) = 1 from rfl] at r2
    rw [r2.1, take_one b1 (by rw [h1, List.length_drop]; omega), num_one, h1, drop_getD b 1 (by omega)] at hH
    rw [r2.2.2] at g2
    rw [r2.2.1, h1, List.drop_drop] at h2
    subst g2
    have r3 := rd_ok (n := 4) (b := b2) (by rw [h2, List.length_drop]; omega)
    simp only [show ((4 : Nat) : Int) = 4 from rfl] at r3
    rw [r3.1, h2] at hS
    rw [r3.2.2] at g3
    rw [r3.2.1, h2, List.drop_drop] at h3
    subst g3
    obtain ⟨q1, q2, q3⟩ := rdb_ok 255 b3
    rw [q1] at hB
    rw [q2] at g4
    have hx : readR b = ⟨(K : Int), decide (H = 1), S, body⟩ := by
      unfold readR
      rw [hK, hH, hS, hB, h3]
    have hd : b.drop 6 = b3 := h3.symm
    unfold getB
    rw [if_neg h6, hd, ← g4, hx, ← hH]
    refine ⟨fun h => if_neg h, fun h hc => ?_, fun h hc => ?_⟩
    · rw [if_pos h, if_pos hc]
    · rw [if_pos h, if_neg hc, h4, q3 (by rw [← g4]; exact h)]
end Go.Proofs.Ytjefddliebokaaa.Reply
