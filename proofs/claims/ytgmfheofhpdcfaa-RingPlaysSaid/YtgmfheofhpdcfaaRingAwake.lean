/-
  What the laws of ring ask first.
-/
import Derived.Test.YtgmfheofhpdcfaaRingInt
namespace Go.Proofs.Ytgmfheofhpdcfaa.Ring
open Go.RowKit Go.Conc Base

set_option maxHeartbeats 1000000 in
theorem awake_any (w : World) : Calls Try.prog 7 #[] w fun e w' => e = .returned (.bool true) ∧ Fr0 w w' := by
  go_enter Try.func7, Try.ntmps7
  go_wp2_with fail
  refine (new_int 1 w).mono ?_
  rintro e w1 ⟨g, rfl, _, c, hc, hR, hF⟩
  have HR := Lib.hid hR
  have HF := Lib.hid hF
  have HC := Lib.hid hc
  clear hR hF hc
  go_wp2_with fail
  refine (put_int_room g c 7 _ _ _ w1 HR.out (by decide)).mono ?_
  rintro e w2 ⟨rfl, hR2, hF2⟩
  have HR2 := Lib.hid hR2
  have HF2 := Lib.hid (fr0_of_fr1 HF.out hF2 HC.out)
  clear hR2 hF2 HR HF
  go_wp2_with fail
  refine (put_int_full g c 8 _ _ _ w2 HR2.out (by decide)).mono ?_
  rintro e w3 ⟨rfl, hR3, hF3⟩
  have HR3 := Lib.hid hR3
  have HF3 := Lib.hid (HF2.out.trans' hF3)
  clear hR3 hF3 HR2 HF2
  go_wp2_with fail
  refine (take_int_some g c 7 _ _ _ w3 HR3.out).mono ?_
  rintro e w4 ⟨rfl, _, hF4⟩
  have HF4 := Lib.hid (fr0_of_fr1 HF3.out hF4 HC.out)
  clear hF4 HR3 HF3
  go_wp2
  go_ret
  exact ⟨rfl, HF4.out⟩
end Go.Proofs.Ytgmfheofhpdcfaa.Ring
