/-
  What the laws of blocks ask first.
-/
import Derived.Test.YtagniipldmagdaaBlkAlike
namespace Go.Proofs.Ytagniipldmagdaa.Blocks
open Go.RowKit Base Arena

/-- a literal of ints -/
theorem ints_lit (w : World) (cs : Array Value) (l : List Int) (h : cs.toList = l.map fun n => .int .i64 n) (t : TypeId) (N k : Nat) (hN : N = w.heap.size) (hk : k = l.length) : IntsIs (w.alloc (.cells cs t)) (.slice (some ⟨N, 0, none⟩) k k) l := by
  subst hN hk
  refine ⟨_, l.length, w.heap.size, 0, rfl, Nat.le_refl _, fun _ => rfl, fun j hj => ?_⟩
  rw [Nat.zero_add, cell_of_row _ _ _ _ _ _ (heap_alloc_new w _), ← Array.getElem?_toList, h]
  simp [hj]
abbrev O3 : List Bool := [false, false, false]
set_option maxHeartbeats 2000000 in
theorem awake_any (w : World) : Calls Try.prog 8 #[] w fun e w' => e = .returned (.bool true) ∧ Fr0 w w' := by
  go_enter Try.func8, Try.ntmps8
  go_wp2_with fail
  refine (new_any 100 (by decide) w).mono ?_
  rintro e w1 ⟨g, ob, rfl, hB, hf⟩
  rw [show List.replicate (whole 100) false = O3 by decide] at hB
  have HB1 := Lib.hid hB
  have HF1 := Lib.hid hf
  clear hB hf
  go_wp2_with fail
  refine (take_any _ g ob _ 2 (by decide) w1 HB1.out).mono ?_
  rintro e w2 ⟨v, rfl, hI, _, hB, hf⟩
  rw [show terr O3 2 = 0 by decide]
  rw [show nints (tout O3 2) = [0, 1] by decide] at hI
  rw [show took O3 2 = [true, true, false] by decide] at hB
  have HI2 := Lib.hid hI
  have HF2 := Lib.hid (fr0_of_fr1 HF1.out hf hB.oB)
  have HB2 : Hid (BlkP w2 w.heap.size g ob [true, true, false]) := Lib.hid hB
  clear hB hf hI
  go_wp2_with fail
  refine (alike_any _ _ [0, 1] [0, 1] (by decide) (by decide) _ (HI2.out.fr0 ((Fr.refl _ _).alloc _)) (ints_lit w2 _ [0, 1] rfl _ _ _ rfl rfl)).mono ?_
  rintro e w3 ⟨rfl, hf⟩
  have HF3 := Lib.hid (HF2.out.trans' (((Fr.refl _ _).alloc _).trans' hf))
  have HB3 : Hid (BlkP w3 w.heap.size g ob [true, true, false]) := Lib.hid (HB2.out.fr0 (((Fr.refl _ _).alloc _).trans' hf))
  rw [show decide (([0, 1] : List Int) = [0, 1]) = true by decide]
  clear hf
  go_wp2_with fail
  refine (all_any _ g ob _ w3 HB3.out).mono ?_
  rintro e w4 ⟨rfl, rfl⟩
  rw [show ((([true, true, false] : List Bool).length : Nat) : Int) = 3 by decide]
  go_wp2_with fail
  refine (free_any _ g ob _ w4 HB3.out).mono ?_
  rintro e w5 ⟨rfl, hf⟩
  have HF5 := Lib.hid (HF3.out.trans' hf)
  rw [show (((frees [true, true, false]).length : Nat) : Int) = 1 by decide]
  clear hf
  go_wp2
  go_ret
  exact ⟨rfl, HF5.out⟩
end Go.Proofs.Ytagniipldmagdaa.Blocks
