/-
  awake.
-/
import Derived.Test.YtpdmglmhbdjcmaaQuotaGo
import Derived.Test.YtpdmglmhbdjcmaaQuotaOwn
namespace Go.Proofs.Ytpdmglmhbdjcmaa.QuotaL
open Go.RowKit Base _root_.Go.Proofs.Ytpdmglmhbdjcmaa.Quota

set_option maxRecDepth 100000 in
set_option maxHeartbeats 4000000 in
theorem awake_any (w : World) : Calls Try.prog 6 #[] w fun e w' => e = .returned (.bool true) ∧ Fr0 w w' := by
  have HF0 : Hid (Fr0 w w) := Lib.hid (Fr.refl _ _)
  go_enter Try.func6, Try.ntmps6
  have hk : Calls Try.prog 7 #[.int .i64 1, .int .i64 2] w fun e w' => e = .returned (.tuple #[.agg #[.int .i64 1, .int .i64 2, .int .i64 1, .int .i64 0], .int .i64 0]) ∧ Fr0 w w' := pnew_any 1 2 (by unfold Fit; decide) (by unfold Fit; decide) w
  go_wp2_with fail
  refine hk.mono ?_
  clear hk 
  rintro e V1 ⟨rfl, hF⟩
  have HFV1 := Lib.hid (HF0.out.trans' hF)
  clear hF
  have hb := Bx.new 24 V1 ⟨1, 2, 1, 0⟩
  have hf := (Fr.refl (fun _ => False) V1).alloc (.cells #[.int .i64 1, .int .i64 2, .int .i64 1, .int .i64 0] 24)
  obtain ⟨V2, hW⟩ : ∃ W', W' = V1.alloc (.cells #[.int .i64 1, .int .i64 2, .int .i64 1, .int .i64 0] 24) := ⟨_, rfl⟩
  rw [← hW] at hb
  rw [← hW] at hf
  have HWV2 := Lib.hid hW
  have HFV2 := Lib.hid (HFV1.out.trans' hf)
  have HNV2 := Lib.hid hb
  clear hb hf hW
  have hk : Calls Try.prog 8 #[.agg #[.int .i64 1, .int .i64 2, .int .i64 1, .int .i64 0]] V2 fun e w' => e = .returned (.tuple #[.agg #[.int .i64 1, .int .i64 2, .int .i64 0, .int .i64 0], .bool true]) ∧ Fr0 V2 w' := puse_any ⟨1, 2, 1, 0⟩ (by unfold SizedQ Fit; decide) _
  have hc := HNV2.out.cells
  rw [HWV2.out] at hc
  obtain ⟨c00, c01, c02, c03⟩ := hc
  go_wp2_with fail
  rw [← HWV2.out]
  refine hk.mono ?_
  clear hk c00 c01 c02 c03
  rintro e V3 ⟨rfl, hF⟩
  have HFV3 := Lib.hid (HFV2.out.trans' hF)
  have HB0V3 := Lib.hid (HNV2.out.fr0 hF)
  clear hF
  have hb := HB0V3.out.setRow ⟨1, 2, 0, 0⟩
  have hf : Fr0 w (V3.setRow V1.heap.size #[.int .i64 1, .int .i64 2, .int .i64 0, .int .i64 0]) := Fr.setRow HFV3.out (fun h => by have := HFV1.out.size; omega) _
  obtain ⟨V4, hW⟩ : ∃ W', W' = V3.setRow V1.heap.size #[.int .i64 1, .int .i64 2, .int .i64 0, .int .i64 0] := ⟨_, rfl⟩
  replace hb : Bx 24 V4 V1.heap.size ⟨1, 2, 0, 0⟩ := by rw [hW]; exact hb
  rw [← hW] at hf
  have HWV4 := Lib.hid hW
  have HGV4 := Lib.hid HB0V3.out.heap
  have HFV4 := Lib.hid hf
  have HNV4 := Lib.hid hb
  clear hb hf hW
  have hk : Calls Try.prog 8 #[.agg #[.int .i64 1, .int .i64 2, .int .i64 0, .int .i64 0]] V4 fun e w' => e = .returned (.tuple #[.agg #[.int .i64 1, .int .i64 2, .int .i64 0, .int .i64 0], .bool false]) ∧ Fr0 V4 w' := puse_any ⟨1, 2, 0, 0⟩ (by unfold SizedQ Fit; decide) _
  have hc := HNV4.out.cells
  obtain ⟨c00, c01, c02, c03⟩ := hc
  go_wp2_with ((with_reducible change wpList _ _ _ (⟨_, Op.store 24 _ _, _, _, _, _⟩ :: _) _ _); refine wpList_store_row rfl 24 _ _ rfl V1.heap.size #[.int .i64 1, .int .i64 2, .int .i64 0, .int .i64 0] rfl rfl 24 _ HGV4.out infoP rfl (q4_one ⟨1, 2, 0, 0⟩) ?_; rw [← HWV4.out])
  refine hk.mono ?_
  clear hk c00 c01 c02 c03
  rintro e V5 ⟨rfl, hF⟩
  have HFV5 := Lib.hid (HFV4.out.trans' hF)
  have HB0V5 := Lib.hid (HNV4.out.fr0 hF)
  clear hF
  have hb := Bx.new 24 V5 ⟨1, 2, 0, 0⟩
  have hf := (Fr.refl (fun _ => False) V5).alloc (.cells #[.int .i64 1, .int .i64 2, .int .i64 0, .int .i64 0] 24)
  obtain ⟨V6, hW⟩ : ∃ W', W' = V5.alloc (.cells #[.int .i64 1, .int .i64 2, .int .i64 0, .int .i64 0] 24) := ⟨_, rfl⟩
  rw [← hW] at hb
  rw [← hW] at hf
  have HWV6 := Lib.hid hW
  have HFV6 := Lib.hid (HFV5.out.trans' hf)
  have HNV6 := Lib.hid hb
  have hlt60 := HB0V5.out.lt
  have HB0V6 := Lib.hid (HB0V5.out.fr0 hf)
  clear hb hf hW
  have hk : Calls Try.prog 10 #[.agg #[.int .i64 1, .int .i64 2, .int .i64 0, .int .i64 0], .int .i64 2] V6 fun e w' => e = .returned (.agg #[.int .i64 1, .int .i64 2, .int .i64 1, .int .i64 0]) ∧ Fr0 V6 w' := pslots_any ⟨1, 2, 0, 0⟩ 2 (by unfold SizedQ Fit; decide) (by unfold Fit; decide) _
  have hc := HB0V6.out.cells
  rw [HWV6.out] at hc
  obtain ⟨c00, c01, c02, c03⟩ := hc
  have hc := HNV6.out.cells
  rw [HWV6.out] at hc
  obtain ⟨c10, c11, c12, c13⟩ := hc
  go_wp2_with fail
  rw [← HWV6.out]
  refine hk.mono ?_
  clear hk c00 c01 c02 c03 c10 c11 c12 c13
  rintro e V7 ⟨rfl, hF⟩
  have HFV7 := Lib.hid (HFV6.out.trans' hF)
  have HB0V7 := Lib.hid (HB0V6.out.fr0 hF)
  have HB1V7 := Lib.hid (HNV6.out.fr0 hF)
  clear hF
  have hk : Calls Try.prog 8 #[.agg #[.int .i64 1, .int .i64 2, .int .i64 1, .int .i64 0]] V7 fun e w' => e = .returned (.tuple #[.agg #[.int .i64 1, .int .i64 2, .int .i64 0, .int .i64 0], .bool true]) ∧ Fr0 V7 w' := puse_any ⟨1, 2, 1, 0⟩ (by unfold SizedQ Fit; decide) _
  have hc := HB0V7.out.cells
  obtain ⟨c00, c01, c02, c03⟩ := hc
  have hc := HB1V7.out.cells
  obtain ⟨c10, c11, c12, c13⟩ := hc
  go_wp2_with fail
  refine hk.mono ?_
  clear hk c00 c01 c02 c03 c10 c11 c12 c13
  rintro e V8 ⟨rfl, hF⟩
  have HFV8 := Lib.hid (HFV7.out.trans' hF)
  have HB0V8 := Lib.hid (HB0V7.out.fr0 hF)
  have HB1V8 := Lib.hid (HB1V7.out.fr0 hF)
  clear hF
  have HE := Lib.hid (HFV8.out.alloc (.cells #[.int .i64 1, .int .i64 2, .int .i64 0, .int .i64 0] 24))
  go_wp2
  go_ret
  exact ⟨rfl, HE.out⟩
end Go.Proofs.Ytpdmglmhbdjcmaa.QuotaL
