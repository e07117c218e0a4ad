/-
  What the laws of pack ask first.
-/
import Derived.Test.YtheednoklgccdaaPackRef
namespace Go.Proofs.Ytheednoklgccdaa.Pack
open Go.RowKit Base

/-- what a call does to a block that was not there before is no business of the caller's -/
theorem fr0_of_fr1 {w0 w w' : World} {g : Nat} (h : Fr0 w0 w) (h1 : Fr1 g w w') (hg : w0.heap.size ≤ g) : Fr0 w0 w' := h.trans h1 (fun i hi e => by have e' : i = g := e; omega)
theorem be258 : [] ++ be 2 258 = [1, 2] := by decide
set_option maxHeartbeats 1000000 in
theorem awake_any (w : World) : Calls Try.prog 8 #[] w fun e w' => e = .returned (.bool true) ∧ Fr0 w w' := by
  go_enter Try.func8, Try.ntmps8
  go_wp2_with fail
  refine (u16_any (.slice none 0 0) [] 258 (by decide) (by decide) w (BytesIs.nil w)).mono ?_
  rintro e w1 ⟨v1, rfl, hB1, hF1⟩
  rw [be258] at hB1
  have HB1 := Lib.hid hB1
  have HF1 := Lib.hid hF1
  clear hB1 hF1
  go_wp2_with fail
  refine (new_any v1 [1, 2] (by decide) w1 HB1.out).mono ?_
  rintro e w2 ⟨g, rfl, hg, hR2, hF2⟩
  have HR2 := Lib.hid hR2
  have HF2 := Lib.hid (HF1.out.trans' hF2)
  have HG : Hid (w.heap.size ≤ g) := Lib.hid (Nat.le_trans HF1.out.size hg)
  clear hR2 hF2 hg
  go_wp2_with fail
  refine (u16_any (.slice none 0 0) [] 258 (by decide) (by decide) w2 (BytesIs.nil w2)).mono ?_
  rintro e w3 ⟨v3, rfl, hB3, hF3⟩
  rw [be258] at hB3
  have HR3 := Lib.hid (HR2.out.fr0 hF3)
  have HF3 := Lib.hid (HF2.out.trans' hF3)
  have hconv := hB3.convert (P := Try.prog) 23 9 5 Try.underlying23 Try.underlying5 Try.underlying9
  clear hB3 hF3
  go_wp2_with fail
  refine (ru16_any g [1, 2] 0 w3 (by decide) HR3.out).mono ?_
  rintro e w4 ⟨rfl, hR4, hF4⟩
  rw [show num (cutOut 2 [1, 2]) = 258 by decide]
  rw [show cutRest 2 [1, 2] = [] by decide, show cutErr 2 [1, 2] 0 = 0 by decide] at hR4
  have HR4 := Lib.hid hR4
  have HF4 := Lib.hid (fr0_of_fr1 HF3.out hF4 HG.out)
  clear hR4 hF4 hconv
  go_wp2_with fail
  refine (left_any g [] 0 w4 HR4.out).mono ?_
  rintro e w5 ⟨rfl, rfl⟩
  go_wp2_with fail
  refine (err_any g [] 0 w4 HR4.out).mono ?_
  rintro e w5 ⟨rfl, rfl⟩
  go_wp2
  go_ret
  exact ⟨rfl, HF4.out⟩
end Go.Proofs.Ytheednoklgccdaa.Pack
