/-
  What the laws of arena ask first.
-/
import Derived.Test.YtjpnmkcbkpikoaaAreIO
import Derived.Test.YtjpnmkcbkpikoaaAreNew
namespace Go.Proofs.Ytjpnmkcbkpikoaa.Arena
open Go.RowKit Base

/-- a literal of ints -/
theorem ints_lit (w : World) (cs : Array Value) (l : List Int) (h : cs.toList = l.map fun n => .int .i64 n) (t : TypeId) (N k : Nat) (hN : N = w.heap.size) (hk : k = l.length) : IntsIs (w.alloc (.cells cs t)) (.slice (some ⟨N, 0, none⟩) k k) l := by
  subst hN hk
  refine ⟨_, l.length, w.heap.size, 0, rfl, Nat.le_refl _, fun _ => rfl, fun j hj => ?_⟩
  rw [Nat.zero_add, cell_of_row _ _ _ _ _ _ (heap_alloc_new w _), ← Array.getElem?_toList, h]
  simp [hj]
theorem fits46 : Fits 10 [4, 6] := ⟨by decide, by decide, by decide, fun k hk => by
  match k, hk with
  | 0, _ => decide
  | 1, _ => decide, by decide⟩
set_option maxHeartbeats 2000000 in
theorem awake_any (w : World) : Calls Try.prog 8 #[] w fun e w' => e = .returned (.bool true) ∧ Fr0 w w' := by
  go_enter Try.func8, Try.ntmps8
  go_wp2_with fail
  refine (new_any 10 _ [4, 6] (by decide) (by decide) (by decide) _ (ints_lit w _ [4, 6] rfl _ _ _ rfl rfl)).mono ?_
  rintro e w1 ⟨h1, _, hf⟩
  obtain ⟨g, pb, cb, rfl, hA⟩ := h1 fits46
  have HA := Lib.hid hA
  have HF : Hid (Fr0 w w1) := Lib.hid (((Fr.refl _ _).alloc _).trans' hf)
  clear hA hf h1
  unfold ptr
  go_wp2_with fail
  refine (region_in _ g pb cb _ _ 1 w1 HA.out (by decide)).mono ?_
  rintro e w2 ⟨rfl, hf2⟩
  rw [show cut [4, 6] 1 = 4 by decide, show cut [4, 6] (1 + 1) = 10 by decide]
  have HA2 := Lib.hid (HA.out.fr0 hf2)
  have HF2 := Lib.hid (HF.out.trans' hf2)
  clear hf2 HA HF
  go_wp2_with fail
  refine (parts_any _ g pb cb _ _ w2 HA2.out).mono ?_
  rintro e w3 ⟨rfl, rfl⟩
  rw [show (([4, 6] : List Int).length : Int) = 2 by decide]
  go_wp2_with fail
  refine (all_any _ g pb cb _ _ w3 HA2.out).mono ?_
  rintro e w4 ⟨v, rfl, hb, hf4⟩
  have HF4 := Lib.hid (HF2.out.trans' hf4)
  obtain ⟨va, vc, _, _, rfl, _⟩ := hb
  rw [show (List.replicate (Int.toNat 10) (0 : UInt8)).length = 10 by decide]
  clear hf4
  go_wp2
  go_ret
  exact ⟨rfl, HF4.out⟩
end Go.Proofs.Ytjpnmkcbkpikoaa.Arena
