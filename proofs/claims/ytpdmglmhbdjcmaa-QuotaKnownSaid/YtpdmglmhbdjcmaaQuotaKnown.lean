/-
  QuotaKnown walked.
-/
import Derived.Test.YtpdmglmhbdjcmaaQuotaAwake
import Derived.Test.YtpdmglmhbdjcmaaMixS
import Derived.Deep.DeepCutAuto
namespace Go.Proofs.Ytpdmglmhbdjcmaa.QuotaL
open Go.RowKit Base _root_.Go.Proofs.Ytpdmglmhbdjcmaa.Quota

set_option maxRecDepth 100000 in
set_option maxHeartbeats 8000000 in
theorem quotaKnown_walk (w : World) :
    Calls Try.prog 3 #[] w fun e w' => e = .returned (.bool true) ∧ Fr0 w w' := by
  go_enter Try.func3, Try.ntmps3
  go_wp2_with fail
  refine (awake_any _).mono ?_
  rintro e w1 ⟨rfl, hF1⟩
  have HF1 := Lib.hid hF1
  clear hF1
  have hk : Calls Try.prog 7 #[.int .i64 (-1), .int .i64 1] w1 fun e w' => e = .returned (.tuple #[.agg #[.int .i64 0, .int .i64 0, .int .i64 0, .int .i64 0], .int .i64 1]) ∧ Fr0 w1 w' := pnew_any (-1) 1 (by unfold Fit; decide) (by unfold Fit; decide) _
  go_wp2_with fail
  refine hk.mono ?_
  clear hk 
  rintro e V1 ⟨rfl, hF⟩
  have HFV1 := Lib.hid (HF1.out.trans' hF)
  clear hF
  have hb := Bx.new 24 V1 ⟨0, 0, 0, 0⟩
  have hf := (Fr.refl (fun _ => False) V1).alloc (.cells #[.int .i64 0, .int .i64 0, .int .i64 0, .int .i64 0] 24)
  obtain ⟨V2, hW⟩ : ∃ W', W' = V1.alloc (.cells #[.int .i64 0, .int .i64 0, .int .i64 0, .int .i64 0] 24) := ⟨_, rfl⟩
  rw [← hW] at hb
  rw [← hW] at hf
  have HWV2 := Lib.hid hW
  have HFV2 := Lib.hid (HFV1.out.trans' hf)
  have HNV2 := Lib.hid hb
  clear hb hf hW
  have hk : Calls Try.prog 7 #[.int .i64 1, .int .i64 0] V2 fun e w' => e = .returned (.tuple #[.agg #[.int .i64 0, .int .i64 0, .int .i64 0, .int .i64 0], .int .i64 1]) ∧ Fr0 V2 w' := pnew_any 1 0 (by unfold Fit; decide) (by unfold Fit; decide) _
  have hc := HNV2.out.cells
  rw [HWV2.out] at hc
  obtain ⟨c00, c01, c02, c03⟩ := hc
  go_wp2_with fail
  rw [← HWV2.out]
  refine hk.mono ?_
  clear hk c00 c01 c02 c03
  rintro e V3 ⟨rfl, hF⟩
  have HFV3 := Lib.hid (HFV2.out.trans' hF)
  have HB0V3 := Lib.hid (HNV2.out.fr0 hF)
  clear hF
  have hb := Bx.new 24 V3 ⟨0, 0, 0, 0⟩
  have hf := (Fr.refl (fun _ => False) V3).alloc (.cells #[.int .i64 0, .int .i64 0, .int .i64 0, .int .i64 0] 24)
  obtain ⟨V4, hW⟩ : ∃ W', W' = V3.alloc (.cells #[.int .i64 0, .int .i64 0, .int .i64 0, .int .i64 0] 24) := ⟨_, rfl⟩
  rw [← hW] at hb
  rw [← hW] at hf
  have HWV4 := Lib.hid hW
  have HFV4 := Lib.hid (HFV3.out.trans' hf)
  have HNV4 := Lib.hid hb
  have hlt40 := HB0V3.out.lt
  have HB0V4 := Lib.hid (HB0V3.out.fr0 hf)
  clear hb hf hW
  have hk : Calls Try.prog 7 #[.int .i64 1048577, .int .i64 1] V4 fun e w' => e = .returned (.tuple #[.agg #[.int .i64 0, .int .i64 0, .int .i64 0, .int .i64 0], .int .i64 1]) ∧ Fr0 V4 w' := pnew_any 1048577 1 (by unfold Fit; decide) (by unfold Fit; decide) _
  have hc := HB0V4.out.cells
  rw [HWV4.out] at hc
  obtain ⟨c00, c01, c02, c03⟩ := hc
  have hc := HNV4.out.cells
  rw [HWV4.out] at hc
  obtain ⟨c10, c11, c12, c13⟩ := hc
  go_wp2_with fail
  rw [← HWV4.out]
  refine hk.mono ?_
  clear hk c00 c01 c02 c03 c10 c11 c12 c13
  rintro e V5 ⟨rfl, hF⟩
  have HFV5 := Lib.hid (HFV4.out.trans' hF)
  have HB0V5 := Lib.hid (HB0V4.out.fr0 hF)
  have HB1V5 := Lib.hid (HNV4.out.fr0 hF)
  clear hF
  have hb := Bx.new 24 V5 ⟨0, 0, 0, 0⟩
  have hf := (Fr.refl (fun _ => False) V5).alloc (.cells #[.int .i64 0, .int .i64 0, .int .i64 0, .int .i64 0] 24)
  obtain ⟨V6, hW⟩ : ∃ W', W' = V5.alloc (.cells #[.int .i64 0, .int .i64 0, .int .i64 0, .int .i64 0] 24) := ⟨_, rfl⟩
  rw [← hW] at hb
  rw [← hW] at hf
  have HWV6 := Lib.hid hW
  have HFV6 := Lib.hid (HFV5.out.trans' hf)
  have HNV6 := Lib.hid hb
  have hlt60 := HB0V5.out.lt
  have hlt61 := HB1V5.out.lt
  have HB0V6 := Lib.hid (HB0V5.out.fr0 hf)
  have HB1V6 := Lib.hid (HB1V5.out.fr0 hf)
  clear hb hf hW
  have hk : Calls Try.prog 7 #[.int .i64 0, .int .i64 3] V6 fun e w' => e = .returned (.tuple #[.agg #[.int .i64 0, .int .i64 3, .int .i64 0, .int .i64 0], .int .i64 0]) ∧ Fr0 V6 w' := pnew_any 0 3 (by unfold Fit; decide) (by unfold Fit; decide) _
  have hc := HB0V6.out.cells
  rw [HWV6.out] at hc
  obtain ⟨c00, c01, c02, c03⟩ := hc
  have hc := HB1V6.out.cells
  rw [HWV6.out] at hc
  obtain ⟨c10, c11, c12, c13⟩ := hc
  have hc := HNV6.out.cells
  rw [HWV6.out] at hc
  obtain ⟨c20, c21, c22, c23⟩ := hc
  go_wp2_with fail
  rw [← HWV6.out]
  refine hk.mono ?_
  clear hk c00 c01 c02 c03 c10 c11 c12 c13 c20 c21 c22 c23
  rintro e V7 ⟨rfl, hF⟩
  have HFV7 := Lib.hid (HFV6.out.trans' hF)
  have HB0V7 := Lib.hid (HB0V6.out.fr0 hF)
  have HB1V7 := Lib.hid (HB1V6.out.fr0 hF)
  have HB2V7 := Lib.hid (HNV6.out.fr0 hF)
  clear hF
  have hb := Bx.new 24 V7 ⟨0, 3, 0, 0⟩
  have hf := (Fr.refl (fun _ => False) V7).alloc (.cells #[.int .i64 0, .int .i64 3, .int .i64 0, .int .i64 0] 24)
  obtain ⟨V8, hW⟩ : ∃ W', W' = V7.alloc (.cells #[.int .i64 0, .int .i64 3, .int .i64 0, .int .i64 0] 24) := ⟨_, rfl⟩
  rw [← hW] at hb
  rw [← hW] at hf
  have HWV8 := Lib.hid hW
  have HFV8 := Lib.hid (HFV7.out.trans' hf)
  have HNV8 := Lib.hid hb
  have hlt80 := HB0V7.out.lt
  have hlt81 := HB1V7.out.lt
  have hlt82 := HB2V7.out.lt
  have HB0V8 := Lib.hid (HB0V7.out.fr0 hf)
  have HB1V8 := Lib.hid (HB1V7.out.fr0 hf)
  have HB2V8 := Lib.hid (HB2V7.out.fr0 hf)
  clear hb hf hW
  have hk : Calls Try.prog 8 #[.agg #[.int .i64 0, .int .i64 3, .int .i64 0, .int .i64 0]] V8 fun e w' => e = .returned (.tuple #[.agg #[.int .i64 0, .int .i64 3, .int .i64 0, .int .i64 0], .bool false]) ∧ Fr0 V8 w' := puse_any ⟨0, 3, 0, 0⟩ (by unfold SizedQ Fit; decide) _
  have hc := HB0V8.out.cells
  rw [HWV8.out] at hc
  obtain ⟨c00, c01, c02, c03⟩ := hc
  have hc := HB1V8.out.cells
  rw [HWV8.out] at hc
  obtain ⟨c10, c11, c12, c13⟩ := hc
  have hc := HB2V8.out.cells
  rw [HWV8.out] at hc
  obtain ⟨c20, c21, c22, c23⟩ := hc
  have hc := HNV8.out.cells
  rw [HWV8.out] at hc
  obtain ⟨c30, c31, c32, c33⟩ := hc
  go_wp2_with fail
  rw [← HWV8.out]
  refine hk.mono ?_
  clear hk c00 c01 c02 c03 c10 c11 c12 c13 c20 c21 c22 c23 c30 c31 c32 c33
  rintro e V9 ⟨rfl, hF⟩
  have HFV9 := Lib.hid (HFV8.out.trans' hF)
  have HB0V9 := Lib.hid (HB0V8.out.fr0 hF)
  have HB1V9 := Lib.hid (HB1V8.out.fr0 hF)
  have HB2V9 := Lib.hid (HB2V8.out.fr0 hF)
  have HB3V9 := Lib.hid (HNV8.out.fr0 hF)
  clear hF
  have hb := Bx.new 24 V9 ⟨0, 3, 0, 0⟩
  have hf := (Fr.refl (fun _ => False) V9).alloc (.cells #[.int .i64 0, .int .i64 3, .int .i64 0, .int .i64 0] 24)
  obtain ⟨V10, hW⟩ : ∃ W', W' = V9.alloc (.cells #[.int .i64 0, .int .i64 3, .int .i64 0, .int .i64 0] 24) := ⟨_, rfl⟩
  rw [← hW] at hb
  rw [← hW] at hf
  have HWV10 := Lib.hid hW
  have HFV10 := Lib.hid (HFV9.out.trans' hf)
  have HNV10 := Lib.hid hb
  have hlt100 := HB0V9.out.lt
  have hlt101 := HB1V9.out.lt
  have hlt102 := HB2V9.out.lt
  have hlt103 := HB3V9.out.lt
  have HB0V10 := Lib.hid (HB0V9.out.fr0 hf)
  have HB1V10 := Lib.hid (HB1V9.out.fr0 hf)
  have HB2V10 := Lib.hid (HB2V9.out.fr0 hf)
  have HB3V10 := Lib.hid (HB3V9.out.fr0 hf)
  clear hb hf hW
  have hb := Bx.new 24 V10 ⟨1, 2, 2, 0⟩
  have hf := (Fr.refl (fun _ => False) V10).alloc (.cells #[.int .i64 1, .int .i64 2, .int .i64 2, .int .i64 0] 24)
  obtain ⟨V11, hW⟩ : ∃ W', W' = V10.alloc (.cells #[.int .i64 1, .int .i64 2, .int .i64 2, .int .i64 0] 24) := ⟨_, rfl⟩
  rw [← hW] at hb
  have hsz : V10.heap.size = V9.heap.size + 1 := by rw [HWV10.out, World.size_alloc]
  rw [hsz] at hb
  clear hsz
  rw [← hW] at hf
  have HWV11 := Lib.hid hW
  have HFV11 := Lib.hid (HFV10.out.trans' hf)
  have HNV11 := Lib.hid hb
  have hlt110 := HB0V10.out.lt
  have hlt111 := HB1V10.out.lt
  have hlt112 := HB2V10.out.lt
  have hlt113 := HB3V10.out.lt
  have hlt114 := HNV10.out.lt
  have HB0V11 := Lib.hid (HB0V10.out.fr0 hf)
  have HB1V11 := Lib.hid (HB1V10.out.fr0 hf)
  have HB2V11 := Lib.hid (HB2V10.out.fr0 hf)
  have HB3V11 := Lib.hid (HB3V10.out.fr0 hf)
  have HB4V11 := Lib.hid (HNV10.out.fr0 hf)
  clear hb hf hW
  have hk : Calls Try.prog 8 #[.agg #[.int .i64 1, .int .i64 2, .int .i64 2, .int .i64 0]] V11 fun e w' => e = .returned (.tuple #[.agg #[.int .i64 1, .int .i64 2, .int .i64 2, .int .i64 0], .bool false]) ∧ Fr0 V11 w' := puse_any ⟨1, 2, 2, 0⟩ (by unfold SizedQ Fit; decide) _
  have hc := HB0V11.out.cells
  rw [HWV11.out, HWV10.out] at hc
  obtain ⟨c00, c01, c02, c03⟩ := hc
  have hc := HB1V11.out.cells
  rw [HWV11.out, HWV10.out] at hc
  obtain ⟨c10, c11, c12, c13⟩ := hc
  have hc := HB2V11.out.cells
  rw [HWV11.out, HWV10.out] at hc
  obtain ⟨c20, c21, c22, c23⟩ := hc
  have hc := HB3V11.out.cells
  rw [HWV11.out, HWV10.out] at hc
  obtain ⟨c30, c31, c32, c33⟩ := hc
  have hc := HB4V11.out.cells
  rw [HWV11.out, HWV10.out] at hc
  obtain ⟨c40, c41, c42, c43⟩ := hc
  have hc := HNV11.out.cells
  rw [HWV11.out, HWV10.out] at hc
  obtain ⟨c50, c51, c52, c53⟩ := hc
  go_wp2_with fail
  rw [← HWV10.out, ← HWV11.out]
  refine hk.mono ?_
  clear hk c00 c01 c02 c03 c10 c11 c12 c13 c20 c21 c22 c23 c30 c31 c32 c33 c40 c41 c42 c43 c50 c51 c52 c53
  rintro e V12 ⟨rfl, hF⟩
  have HFV12 := Lib.hid (HFV11.out.trans' hF)
  have HB0V12 := Lib.hid (HB0V11.out.fr0 hF)
  have HB1V12 := Lib.hid (HB1V11.out.fr0 hF)
  have HB2V12 := Lib.hid (HB2V11.out.fr0 hF)
  have HB3V12 := Lib.hid (HB3V11.out.fr0 hF)
  have HB4V12 := Lib.hid (HB4V11.out.fr0 hF)
  have HB5V12 := Lib.hid (HNV11.out.fr0 hF)
  clear hF
  have hb := Bx.new 24 V12 ⟨1, 2, 2, 0⟩
  have hf := (Fr.refl (fun _ => False) V12).alloc (.cells #[.int .i64 1, .int .i64 2, .int .i64 2, .int .i64 0] 24)
  obtain ⟨V13, hW⟩ : ∃ W', W' = V12.alloc (.cells #[.int .i64 1, .int .i64 2, .int .i64 2, .int .i64 0] 24) := ⟨_, rfl⟩
  rw [← hW] at hb
  rw [← hW] at hf
  have HWV13 := Lib.hid hW
  have HFV13 := Lib.hid (HFV12.out.trans' hf)
  have HNV13 := Lib.hid hb
  have hlt130 := HB0V12.out.lt
  have hlt131 := HB1V12.out.lt
  have hlt132 := HB2V12.out.lt
  have hlt133 := HB3V12.out.lt
  have hlt134 := HB4V12.out.lt
  have hlt135 := HB5V12.out.lt
  have HB0V13 := Lib.hid (HB0V12.out.fr0 hf)
  have HB1V13 := Lib.hid (HB1V12.out.fr0 hf)
  have HB2V13 := Lib.hid (HB2V12.out.fr0 hf)
  have HB3V13 := Lib.hid (HB3V12.out.fr0 hf)
  have HB4V13 := Lib.hid (HB4V12.out.fr0 hf)
  have HB5V13 := Lib.hid (HB5V12.out.fr0 hf)
  clear hb hf hW
  have hk : Calls Try.prog 7 #[.int .i64 4, .int .i64 1] V13 fun e w' => e = .returned (.tuple #[.agg #[.int .i64 4, .int .i64 1, .int .i64 4, .int .i64 0], .int .i64 0]) ∧ Fr0 V13 w' := pnew_any 4 1 (by unfold Fit; decide) (by unfold Fit; decide) _
  have hc := HB0V13.out.cells
  rw [HWV13.out] at hc
  obtain ⟨c00, c01, c02, c03⟩ := hc
  have hc := HB1V13.out.cells
  rw [HWV13.out] at hc
  obtain ⟨c10, c11, c12, c13⟩ := hc
  have hc := HB2V13.out.cells
  rw [HWV13.out] at hc
  obtain ⟨c20, c21, c22, c23⟩ := hc
  have hc := HB3V13.out.cells
  rw [HWV13.out] at hc
  obtain ⟨c30, c31, c32, c33⟩ := hc
  have hc := HB4V13.out.cells
  rw [HWV13.out] at hc
  obtain ⟨c40, c41, c42, c43⟩ := hc
  have hc := HB5V13.out.cells
  rw [HWV13.out] at hc
  obtain ⟨c50, c51, c52, c53⟩ := hc
  have hc := HNV13.out.cells
  rw [HWV13.out] at hc
  obtain ⟨c60, c61, c62, c63⟩ := hc
  go_wp2_with fail
  rw [← HWV13.out]
  refine hk.mono ?_
  clear hk c00 c01 c02 c03 c10 c11 c12 c13 c20 c21 c22 c23 c30 c31 c32 c33 c40 c41 c42 c43 c50 c51 c52 c53 c60 c61 c62 c63
  rintro e V14 ⟨rfl, hF⟩
  have HFV14 := Lib.hid (HFV13.out.trans' hF)
  have HB0V14 := Lib.hid (HB0V13.out.fr0 hF)
  have HB1V14 := Lib.hid (HB1V13.out.fr0 hF)
  have HB2V14 := Lib.hid (HB2V13.out.fr0 hF)
  have HB3V14 := Lib.hid (HB3V13.out.fr0 hF)
  have HB4V14 := Lib.hid (HB4V13.out.fr0 hF)
  have HB5V14 := Lib.hid (HB5V13.out.fr0 hF)
  have HB6V14 := Lib.hid (HNV13.out.fr0 hF)
  clear hF
  have hb := Bx.new 24 V14 ⟨4, 1, 4, 0⟩
  have hf := (Fr.refl (fun _ => False) V14).alloc (.cells #[.int .i64 4, .int .i64 1, .int .i64 4, .int .i64 0] 24)
  obtain ⟨V15, hW⟩ : ∃ W', W' = V14.alloc (.cells #[.int .i64 4, .int .i64 1, .int .i64 4, .int .i64 0] 24) := ⟨_, rfl⟩
  rw [← hW] at hb
  rw [← hW] at hf
  have HWV15 := Lib.hid hW
  have HFV15 := Lib.hid (HFV14.out.trans' hf)
  have HNV15 := Lib.hid hb
  have hlt150 := HB0V14.out.lt
  have hlt151 := HB1V14.out.lt
  have hlt152 := HB2V14.out.lt
  have hlt153 := HB3V14.out.lt
  have hlt154 := HB4V14.out.lt
  have hlt155 := HB5V14.out.lt
  have hlt156 := HB6V14.out.lt
  have HB0V15 := Lib.hid (HB0V14.out.fr0 hf)
  have HB1V15 := Lib.hid (HB1V14.out.fr0 hf)
  have HB2V15 := Lib.hid (HB2V14.out.fr0 hf)
  have HB3V15 := Lib.hid (HB3V14.out.fr0 hf)
  have HB4V15 := Lib.hid (HB4V14.out.fr0 hf)
  have HB5V15 := Lib.hid (HB5V14.out.fr0 hf)
  have HB6V15 := Lib.hid (HB6V14.out.fr0 hf)
  clear hb hf hW
  have HGW := HFV14.out.size
  have hk : Calls Try.prog 8 #[.agg #[.int .i64 4, .int .i64 1, .int .i64 4, .int .i64 0]] V15 fun e w' => e = .returned (.tuple #[.agg #[.int .i64 4, .int .i64 1, .int .i64 3, .int .i64 0], .bool true]) ∧ Fr0 V15 w' := puse_any ⟨4, 1, 4, 0⟩ (by unfold SizedQ Fit; decide) _
  have hc := HB0V15.out.cells
  rw [HWV15.out] at hc
  obtain ⟨c00, c01, c02, c03⟩ := hc
  have hc := HB1V15.out.cells
  rw [HWV15.out] at hc
  obtain ⟨c10, c11, c12, c13⟩ := hc
  have hc := HB2V15.out.cells
  rw [HWV15.out] at hc
  obtain ⟨c20, c21, c22, c23⟩ := hc
  have hc := HB3V15.out.cells
  rw [HWV15.out] at hc
  obtain ⟨c30, c31, c32, c33⟩ := hc
  have hc := HB4V15.out.cells
  rw [HWV15.out] at hc
  obtain ⟨c40, c41, c42, c43⟩ := hc
  have hc := HB5V15.out.cells
  rw [HWV15.out] at hc
  obtain ⟨c50, c51, c52, c53⟩ := hc
  have hc := HB6V15.out.cells
  rw [HWV15.out] at hc
  obtain ⟨c60, c61, c62, c63⟩ := hc
  have hc := HNV15.out.cells
  rw [HWV15.out] at hc
  obtain ⟨c70, c71, c72, c73⟩ := hc
  go_wp2_with fail
  rw [← HWV15.out]
  refine hk.mono ?_
  clear hk c00 c01 c02 c03 c10 c11 c12 c13 c20 c21 c22 c23 c30 c31 c32 c33 c40 c41 c42 c43 c50 c51 c52 c53 c60 c61 c62 c63 c70 c71 c72 c73
  rintro e V16 ⟨rfl, hF⟩
  have HFV16 := Lib.hid (HFV15.out.trans' hF)
  have HB0V16 := Lib.hid (HB0V15.out.fr0 hF)
  have HB1V16 := Lib.hid (HB1V15.out.fr0 hF)
  have HB2V16 := Lib.hid (HB2V15.out.fr0 hF)
  have HB3V16 := Lib.hid (HB3V15.out.fr0 hF)
  have HB4V16 := Lib.hid (HB4V15.out.fr0 hF)
  have HB5V16 := Lib.hid (HB5V15.out.fr0 hF)
  have HB6V16 := Lib.hid (HB6V15.out.fr0 hF)
  have HB7V16 := Lib.hid (HNV15.out.fr0 hF)
  clear hF
  have hb := HB7V16.out.setRow ⟨4, 1, 3, 0⟩
  have hf : Fr0 w (V16.setRow V14.heap.size #[.int .i64 4, .int .i64 1, .int .i64 3, .int .i64 0]) := Fr.setRow HFV16.out (fun h => by have := HGW; omega) _
  obtain ⟨V17, hW⟩ : ∃ W', W' = V16.setRow V14.heap.size #[.int .i64 4, .int .i64 1, .int .i64 3, .int .i64 0] := ⟨_, rfl⟩
  replace hb : Bx 24 V17 V14.heap.size ⟨4, 1, 3, 0⟩ := by rw [hW]; exact hb
  rw [← hW] at hf
  have HWV17 := Lib.hid hW
  have HGV17 := Lib.hid HB7V16.out.heap
  have HFV17 := Lib.hid hf
  have HNV17 := Lib.hid hb
  have HB0V17 : Hid (Bx 24 V17 V1.heap.size ⟨0, 0, 0, 0⟩) := Lib.hid (by rw [hW]; exact HB0V16.out.otherRow (by omega) _)
  have HB1V17 : Hid (Bx 24 V17 V3.heap.size ⟨0, 0, 0, 0⟩) := Lib.hid (by rw [hW]; exact HB1V16.out.otherRow (by omega) _)
  have HB2V17 : Hid (Bx 24 V17 V5.heap.size ⟨0, 0, 0, 0⟩) := Lib.hid (by rw [hW]; exact HB2V16.out.otherRow (by omega) _)
  have HB3V17 : Hid (Bx 24 V17 V7.heap.size ⟨0, 3, 0, 0⟩) := Lib.hid (by rw [hW]; exact HB3V16.out.otherRow (by omega) _)
  have HB4V17 : Hid (Bx 24 V17 V9.heap.size ⟨0, 3, 0, 0⟩) := Lib.hid (by rw [hW]; exact HB4V16.out.otherRow (by omega) _)
  have HB5V17 : Hid (Bx 24 V17 (V9.heap.size + 1) ⟨1, 2, 2, 0⟩) := Lib.hid (by rw [hW]; exact HB5V16.out.otherRow (by omega) _)
  have HB6V17 : Hid (Bx 24 V17 V12.heap.size ⟨1, 2, 2, 0⟩) := Lib.hid (by rw [hW]; exact HB6V16.out.otherRow (by omega) _)
  clear hb hf hW
  have HR3 := Lib.hid HB3V17.out.heap
  have HR5 := Lib.hid HB5V17.out.heap
  have HR6 := Lib.hid HB6V17.out.heap
  have HR7 := Lib.hid HNV17.out.heap
  have hfd1 : ∀ w : World, (Instr.field 24 (.agg #[.int .i64 4, .int .i64 1, .int .i64 4, .int .i64 0]) 2).run Try.prog w = .ok (.int .i64 4) w := fun _ => by kernel_rfl
  have hfd2 : ∀ w : World, (Instr.field 24 (.agg #[.int .i64 0, .int .i64 3, .int .i64 0, .int .i64 1]) 3).run Try.prog w = .ok (.int .i64 1) w := fun _ => by kernel_rfl
  go_wp2_with ((with_reducible change wpList _ _ _ (⟨_, Op.store 24 _ _, _, _, _, _⟩ :: _) _ _); refine wpList_store_row rfl 24 _ _ rfl V14.heap.size #[.int .i64 4, .int .i64 1, .int .i64 3, .int .i64 0] rfl rfl 24 _ HGV17.out infoP rfl (q4_one ⟨4, 1, 3, 0⟩) ?_; rw [← HWV17.out])
  refine Mix.law (fun X => Fr0 V17 X) [(.sure, 0), (.sure, 1), (.sure, 2), (.sure, 3), (.sure, 4), (.sure, 5), (.sure, 6), (.sure, 7), (.sure, 8), (.sure, 9), (.sure, 10), (.sure, 11), (.sure, 12), (.sure, 13), (.sure, 14), (.sure, 15), (.sure, 16), (.sure, 17), (.sure, 18), (.sure, 19), (.sure, 20), (.sure, 21), (.sure, 22), (.sure, 23), (.sure, 24), (.sure, 25), (.sure, 26), (.sure, 27), (.sure, 28), (.sure, 30), (.turn, 29), (.sure, 31), (.sure, 32), (.sure, 33), (.sure, 34), (.sure, 36), (.turn, 35), (.sure, 37), (.sure, 38), (.sure, 39), (.sure, 40), (.turn, 41), (.sure, 42), (.sure, 43), (.sure, 44), (.sure, 45), (.turn, 46), (.sure, 47), (.sure, 48), (.sure, 49), (.sure, 50), (.sure, 51), (.sure, 53), (.turn, 52), (.sure, 54), (.sure, 55), (.sure, 56), (.sure, 57), (.turn, 58), (.sure, 59), (.sure, 60), (.sure, 61), (.sure, 62), (.sure, 63), (.turn, 64), (.sure, 65), (.sure, 66)] (by kernel_rfl) (by kernel_rfl) (Fr.refl _ _).drew ?_
  simp only [List.append_eq, List.cons_append, List.nil_append, List.map_cons, List.map_nil, Mix.nth_zero, Mix.nth_succ]
  have HX0 := Lib.hid ((Fr.refl (fun _ => False) V17).drew)
  generalize V17.drew = x0 at *
  repeat (first
    | ((with_reducible refine Mix.go_skipS ?_ ?_); (focus (first | exact Mix.wanted_no rfl rfl rfl rfl | exact Mix.wanted_void rfl rfl rfl)); go_frame)
    | ((with_reducible refine Mix.go_skipL ?_ ?_); (focus (first | exact Mix.wanted_no rfl rfl rfl rfl | exact Mix.wanted_void rfl rfl rfl)); go_frame)
    | (refine Mix.go_move (by first | exact Mix.wanted_none rfl | exact Mix.wanted_yes rfl rfl rfl) _ rfl _ (by first | (go_simp; done) | (go_simp; rfl)) ?_; go_frame)
    | (refine Mix.go_assign (by first | exact Mix.wanted_none rfl | exact Mix.wanted_yes rfl rfl rfl) _ rfl _ (by first | (go_simp; done) | (go_simp; rfl)) ?_; go_frame)
    | (refine Mix.go_sure_row (by first | exact Mix.wanted_none rfl | exact Mix.wanted_yes rfl rfl rfl) 24 _ rfl (V7.heap.size) rfl 24 _ (0, 0) _ (fun w1 hC1 => hC1.heap HR3.out (fun f => f)) Try.underlying24 rfl (by kernel_rfl) ?_; go_frame)
    | (refine Mix.go_sure_row (by first | exact Mix.wanted_none rfl | exact Mix.wanted_yes rfl rfl rfl) 24 _ rfl (V9.heap.size+1) rfl 24 _ (0, 0) _ (fun w1 hC1 => hC1.heap HR5.out (fun f => f)) Try.underlying24 rfl (by kernel_rfl) ?_; go_frame)
    | (refine Mix.go_sure_row (by first | exact Mix.wanted_none rfl | exact Mix.wanted_yes rfl rfl rfl) 24 _ rfl (V12.heap.size) rfl 24 _ (0, 0) _ (fun w1 hC1 => hC1.heap HR6.out (fun f => f)) Try.underlying24 rfl (by kernel_rfl) ?_; go_frame)
    | (refine Mix.go_sure_row (by first | exact Mix.wanted_none rfl | exact Mix.wanted_yes rfl rfl rfl) 24 _ rfl (V14.heap.size) rfl 24 _ (0, 0) _ (fun w1 hC1 => hC1.heap HR7.out (fun f => f)) Try.underlying24 rfl (by kernel_rfl) ?_; go_frame)
    | (refine Mix.go_sureW (by first | exact Mix.wanted_none rfl | exact Mix.wanted_yes rfl rfl rfl) _ (by rfl) (by rfl) _ (fun w' hC' => by go_wp2_with fail; refine Mix.stays ?_; go_frame; rfl) ?_; go_frame)
    | (refine Mix.go_lookW (by first | exact Mix.wanted_none rfl | exact Mix.wanted_yes rfl rfl rfl) _ (by rfl) (by rfl) _ (by go_wp2_with fail; refine Mix.stays ?_; go_frame; rfl) ?_; go_frame))
  refine Mix.go_turn ?_
  go_wp2_with fail
  have hk : Calls Try.prog 9 #[.agg #[.int .i64 1, .int .i64 2, .int .i64 2, .int .i64 0]] x0 fun e w' => e = .returned (.agg #[.int .i64 1, .int .i64 2, .int .i64 2, .int .i64 0]) ∧ Fr0 x0 w' := pslot_any ⟨1, 2, 2, 0⟩ (by unfold SizedQ Fit; decide) _
  refine hk.mono ?_
  clear hk
  rintro e x1 ⟨rfl, hF⟩
  have HX1 := Lib.hid (HX0.out.trans' hF)
  clear hF
  go_wp2
  refine Mix.then_go HX1.out ?_
  repeat (first
    | ((with_reducible refine Mix.go_skipS ?_ ?_); (focus (first | exact Mix.wanted_no rfl rfl rfl rfl | exact Mix.wanted_void rfl rfl rfl)); go_frame)
    | ((with_reducible refine Mix.go_skipL ?_ ?_); (focus (first | exact Mix.wanted_no rfl rfl rfl rfl | exact Mix.wanted_void rfl rfl rfl)); go_frame)
    | (refine Mix.go_move (by first | exact Mix.wanted_none rfl | exact Mix.wanted_yes rfl rfl rfl) _ rfl _ (by first | (go_simp; done) | (go_simp; rfl)) ?_; go_frame)
    | (refine Mix.go_assign (by first | exact Mix.wanted_none rfl | exact Mix.wanted_yes rfl rfl rfl) _ rfl _ (by first | (go_simp; done) | (go_simp; rfl)) ?_; go_frame)
    | (refine Mix.go_sure_row (by first | exact Mix.wanted_none rfl | exact Mix.wanted_yes rfl rfl rfl) 24 _ rfl (V7.heap.size) rfl 24 _ (0, 0) _ (fun w1 hC1 => hC1.heap HR3.out (fun f => f)) Try.underlying24 rfl (by kernel_rfl) ?_; go_frame)
    | (refine Mix.go_sure_row (by first | exact Mix.wanted_none rfl | exact Mix.wanted_yes rfl rfl rfl) 24 _ rfl (V9.heap.size+1) rfl 24 _ (0, 0) _ (fun w1 hC1 => hC1.heap HR5.out (fun f => f)) Try.underlying24 rfl (by kernel_rfl) ?_; go_frame)
    | (refine Mix.go_sure_row (by first | exact Mix.wanted_none rfl | exact Mix.wanted_yes rfl rfl rfl) 24 _ rfl (V12.heap.size) rfl 24 _ (0, 0) _ (fun w1 hC1 => hC1.heap HR6.out (fun f => f)) Try.underlying24 rfl (by kernel_rfl) ?_; go_frame)
    | (refine Mix.go_sure_row (by first | exact Mix.wanted_none rfl | exact Mix.wanted_yes rfl rfl rfl) 24 _ rfl (V14.heap.size) rfl 24 _ (0, 0) _ (fun w1 hC1 => hC1.heap HR7.out (fun f => f)) Try.underlying24 rfl (by kernel_rfl) ?_; go_frame)
    | (refine Mix.go_sureW (by first | exact Mix.wanted_none rfl | exact Mix.wanted_yes rfl rfl rfl) _ (by rfl) (by rfl) _ (fun w' hC' => by go_wp2_with fail; refine Mix.stays ?_; go_frame; rfl) ?_; go_frame)
    | (refine Mix.go_lookW (by first | exact Mix.wanted_none rfl | exact Mix.wanted_yes rfl rfl rfl) _ (by rfl) (by rfl) _ (by go_wp2_with fail; refine Mix.stays ?_; go_frame; rfl) ?_; go_frame))
  refine Mix.go_turn ?_
  go_wp2_with fail
  have hk : Calls Try.prog 10 #[.agg #[.int .i64 1, .int .i64 2, .int .i64 2, .int .i64 0], .int .i64 9] x1 fun e w' => e = .returned (.agg #[.int .i64 1, .int .i64 2, .int .i64 2, .int .i64 0]) ∧ Fr0 x1 w' := pslots_any ⟨1, 2, 2, 0⟩ 9 (by unfold SizedQ Fit; decide) (by unfold Fit; decide) _
  refine hk.mono ?_
  clear hk
  rintro e x2 ⟨rfl, hF⟩
  have HX2 := Lib.hid (HX1.out.trans' hF)
  clear hF
  go_wp2
  refine Mix.then_go HX2.out ?_
  repeat (first
    | ((with_reducible refine Mix.go_skipS ?_ ?_); (focus (first | exact Mix.wanted_no rfl rfl rfl rfl | exact Mix.wanted_void rfl rfl rfl)); go_frame)
    | ((with_reducible refine Mix.go_skipL ?_ ?_); (focus (first | exact Mix.wanted_no rfl rfl rfl rfl | exact Mix.wanted_void rfl rfl rfl)); go_frame)
    | (refine Mix.go_move (by first | exact Mix.wanted_none rfl | exact Mix.wanted_yes rfl rfl rfl) _ rfl _ (by first | (go_simp; done) | (go_simp; rfl)) ?_; go_frame)
    | (refine Mix.go_assign (by first | exact Mix.wanted_none rfl | exact Mix.wanted_yes rfl rfl rfl) _ rfl _ (by first | (go_simp; done) | (go_simp; rfl)) ?_; go_frame)
    | (refine Mix.go_sure_row (by first | exact Mix.wanted_none rfl | exact Mix.wanted_yes rfl rfl rfl) 24 _ rfl (V7.heap.size) rfl 24 _ (0, 0) _ (fun w1 hC1 => hC1.heap HR3.out (fun f => f)) Try.underlying24 rfl (by kernel_rfl) ?_; go_frame)
    | (refine Mix.go_sure_row (by first | exact Mix.wanted_none rfl | exact Mix.wanted_yes rfl rfl rfl) 24 _ rfl (V9.heap.size+1) rfl 24 _ (0, 0) _ (fun w1 hC1 => hC1.heap HR5.out (fun f => f)) Try.underlying24 rfl (by kernel_rfl) ?_; go_frame)
    | (refine Mix.go_sure_row (by first | exact Mix.wanted_none rfl | exact Mix.wanted_yes rfl rfl rfl) 24 _ rfl (V12.heap.size) rfl 24 _ (0, 0) _ (fun w1 hC1 => hC1.heap HR6.out (fun f => f)) Try.underlying24 rfl (by kernel_rfl) ?_; go_frame)
    | (refine Mix.go_sure_row (by first | exact Mix.wanted_none rfl | exact Mix.wanted_yes rfl rfl rfl) 24 _ rfl (V14.heap.size) rfl 24 _ (0, 0) _ (fun w1 hC1 => hC1.heap HR7.out (fun f => f)) Try.underlying24 rfl (by kernel_rfl) ?_; go_frame)
    | (refine Mix.go_sureW (by first | exact Mix.wanted_none rfl | exact Mix.wanted_yes rfl rfl rfl) _ (by rfl) (by rfl) _ (fun w' hC' => by go_wp2_with fail; refine Mix.stays ?_; go_frame; rfl) ?_; go_frame)
    | (refine Mix.go_lookW (by first | exact Mix.wanted_none rfl | exact Mix.wanted_yes rfl rfl rfl) _ (by rfl) (by rfl) _ (by go_wp2_with fail; refine Mix.stays ?_; go_frame; rfl) ?_; go_frame))
  refine Mix.go_turn ?_
  go_wp2_with fail
  have hk : Calls Try.prog 11 #[.agg #[.int .i64 1, .int .i64 2, .int .i64 2, .int .i64 0]] x2 fun e w' => e = .returned (.bool false) ∧ Fr0 x2 w' := pgood_any ⟨1, 2, 2, 0⟩ (by unfold SizedQ Fit; decide) _
  refine hk.mono ?_
  clear hk
  rintro e x3 ⟨rfl, hF⟩
  have HX3 := Lib.hid (HX2.out.trans' hF)
  clear hF
  go_wp2
  refine Mix.then_go HX3.out ?_
  repeat (first
    | ((with_reducible refine Mix.go_skipS ?_ ?_); (focus (first | exact Mix.wanted_no rfl rfl rfl rfl | exact Mix.wanted_void rfl rfl rfl)); go_frame)
    | ((with_reducible refine Mix.go_skipL ?_ ?_); (focus (first | exact Mix.wanted_no rfl rfl rfl rfl | exact Mix.wanted_void rfl rfl rfl)); go_frame)
    | (refine Mix.go_move (by first | exact Mix.wanted_none rfl | exact Mix.wanted_yes rfl rfl rfl) _ rfl _ (by first | (go_simp; done) | (go_simp; rfl)) ?_; go_frame)
    | (refine Mix.go_assign (by first | exact Mix.wanted_none rfl | exact Mix.wanted_yes rfl rfl rfl) _ rfl _ (by first | (go_simp; done) | (go_simp; rfl)) ?_; go_frame)
    | (refine Mix.go_sure_row (by first | exact Mix.wanted_none rfl | exact Mix.wanted_yes rfl rfl rfl) 24 _ rfl (V7.heap.size) rfl 24 _ (0, 0) _ (fun w1 hC1 => hC1.heap HR3.out (fun f => f)) Try.underlying24 rfl (by kernel_rfl) ?_; go_frame)
    | (refine Mix.go_sure_row (by first | exact Mix.wanted_none rfl | exact Mix.wanted_yes rfl rfl rfl) 24 _ rfl (V9.heap.size+1) rfl 24 _ (0, 0) _ (fun w1 hC1 => hC1.heap HR5.out (fun f => f)) Try.underlying24 rfl (by kernel_rfl) ?_; go_frame)
    | (refine Mix.go_sure_row (by first | exact Mix.wanted_none rfl | exact Mix.wanted_yes rfl rfl rfl) 24 _ rfl (V12.heap.size) rfl 24 _ (0, 0) _ (fun w1 hC1 => hC1.heap HR6.out (fun f => f)) Try.underlying24 rfl (by kernel_rfl) ?_; go_frame)
    | (refine Mix.go_sure_row (by first | exact Mix.wanted_none rfl | exact Mix.wanted_yes rfl rfl rfl) 24 _ rfl (V14.heap.size) rfl 24 _ (0, 0) _ (fun w1 hC1 => hC1.heap HR7.out (fun f => f)) Try.underlying24 rfl (by kernel_rfl) ?_; go_frame)
    | (refine Mix.go_sureW (by first | exact Mix.wanted_none rfl | exact Mix.wanted_yes rfl rfl rfl) _ (by rfl) (by rfl) _ (fun w' hC' => by go_wp2_with fail; refine Mix.stays ?_; go_frame; rfl) ?_; go_frame)
    | (refine Mix.go_lookW (by first | exact Mix.wanted_none rfl | exact Mix.wanted_yes rfl rfl rfl) _ (by rfl) (by rfl) _ (by go_wp2_with fail; refine Mix.stays ?_; go_frame; rfl) ?_; go_frame))
  refine Mix.go_turn ?_
  go_wp2_with fail
  have hk : Calls Try.prog 9 #[.agg #[.int .i64 4, .int .i64 1, .int .i64 3, .int .i64 0]] x3 fun e w' => e = .returned (.agg #[.int .i64 4, .int .i64 1, .int .i64 4, .int .i64 0]) ∧ Fr0 x3 w' := pslot_any ⟨4, 1, 3, 0⟩ (by unfold SizedQ Fit; decide) _
  refine hk.mono ?_
  clear hk
  rintro e x4 ⟨rfl, hF⟩
  have HX4 := Lib.hid (HX3.out.trans' hF)
  clear hF
  go_wp2
  refine Mix.then_go HX4.out ?_
  repeat (first
    | ((with_reducible refine Mix.go_skipS ?_ ?_); (focus (first | exact Mix.wanted_no rfl rfl rfl rfl | exact Mix.wanted_void rfl rfl rfl)); go_frame)
    | ((with_reducible refine Mix.go_skipL ?_ ?_); (focus (first | exact Mix.wanted_no rfl rfl rfl rfl | exact Mix.wanted_void rfl rfl rfl)); go_frame)
    | (refine Mix.go_move (by first | exact Mix.wanted_none rfl | exact Mix.wanted_yes rfl rfl rfl) _ rfl _ (by first | (go_simp; done) | (go_simp; rfl)) ?_; go_frame)
    | (refine Mix.go_assign (by first | exact Mix.wanted_none rfl | exact Mix.wanted_yes rfl rfl rfl) _ rfl _ (by first | (go_simp; done) | (go_simp; rfl)) ?_; go_frame)
    | (refine Mix.go_sure_row (by first | exact Mix.wanted_none rfl | exact Mix.wanted_yes rfl rfl rfl) 24 _ rfl (V7.heap.size) rfl 24 _ (0, 0) _ (fun w1 hC1 => hC1.heap HR3.out (fun f => f)) Try.underlying24 rfl (by kernel_rfl) ?_; go_frame)
    | (refine Mix.go_sure_row (by first | exact Mix.wanted_none rfl | exact Mix.wanted_yes rfl rfl rfl) 24 _ rfl (V9.heap.size+1) rfl 24 _ (0, 0) _ (fun w1 hC1 => hC1.heap HR5.out (fun f => f)) Try.underlying24 rfl (by kernel_rfl) ?_; go_frame)
    | (refine Mix.go_sure_row (by first | exact Mix.wanted_none rfl | exact Mix.wanted_yes rfl rfl rfl) 24 _ rfl (V12.heap.size) rfl 24 _ (0, 0) _ (fun w1 hC1 => hC1.heap HR6.out (fun f => f)) Try.underlying24 rfl (by kernel_rfl) ?_; go_frame)
    | (refine Mix.go_sure_row (by first | exact Mix.wanted_none rfl | exact Mix.wanted_yes rfl rfl rfl) 24 _ rfl (V14.heap.size) rfl 24 _ (0, 0) _ (fun w1 hC1 => hC1.heap HR7.out (fun f => f)) Try.underlying24 rfl (by kernel_rfl) ?_; go_frame)
    | (refine Mix.go_sureW (by first | exact Mix.wanted_none rfl | exact Mix.wanted_yes rfl rfl rfl) _ (by rfl) (by rfl) _ (fun w' hC' => by go_wp2_with fail; refine Mix.stays ?_; go_frame; rfl) ?_; go_frame)
    | (refine Mix.go_lookW (by first | exact Mix.wanted_none rfl | exact Mix.wanted_yes rfl rfl rfl) _ (by rfl) (by rfl) _ (by go_wp2_with fail; refine Mix.stays ?_; go_frame; rfl) ?_; go_frame))
  refine Mix.go_turn ?_
  go_wp2_with fail
  have hk : Calls Try.prog 10 #[.agg #[.int .i64 4, .int .i64 1, .int .i64 3, .int .i64 0], .int .i64 (-5)] x4 fun e w' => e = .returned (.agg #[.int .i64 4, .int .i64 1, .int .i64 3, .int .i64 0]) ∧ Fr0 x4 w' := pslots_any ⟨4, 1, 3, 0⟩ (-5) (by unfold SizedQ Fit; decide) (by unfold Fit; decide) _
  refine hk.mono ?_
  clear hk
  rintro e x5 ⟨rfl, hF⟩
  have HX5 := Lib.hid (HX4.out.trans' hF)
  clear hF
  go_wp2
  refine Mix.then_go HX5.out ?_
  repeat (first
    | ((with_reducible refine Mix.go_skipS ?_ ?_); (focus (first | exact Mix.wanted_no rfl rfl rfl rfl | exact Mix.wanted_void rfl rfl rfl)); go_frame)
    | ((with_reducible refine Mix.go_skipL ?_ ?_); (focus (first | exact Mix.wanted_no rfl rfl rfl rfl | exact Mix.wanted_void rfl rfl rfl)); go_frame)
    | (refine Mix.go_move (by first | exact Mix.wanted_none rfl | exact Mix.wanted_yes rfl rfl rfl) _ rfl _ (by first | (go_simp; done) | (go_simp; rfl)) ?_; go_frame)
    | (refine Mix.go_assign (by first | exact Mix.wanted_none rfl | exact Mix.wanted_yes rfl rfl rfl) _ rfl _ (by first | (go_simp; done) | (go_simp; rfl)) ?_; go_frame)
    | (refine Mix.go_sure_row (by first | exact Mix.wanted_none rfl | exact Mix.wanted_yes rfl rfl rfl) 24 _ rfl (V7.heap.size) rfl 24 _ (0, 0) _ (fun w1 hC1 => hC1.heap HR3.out (fun f => f)) Try.underlying24 rfl (by kernel_rfl) ?_; go_frame)
    | (refine Mix.go_sure_row (by first | exact Mix.wanted_none rfl | exact Mix.wanted_yes rfl rfl rfl) 24 _ rfl (V9.heap.size+1) rfl 24 _ (0, 0) _ (fun w1 hC1 => hC1.heap HR5.out (fun f => f)) Try.underlying24 rfl (by kernel_rfl) ?_; go_frame)
    | (refine Mix.go_sure_row (by first | exact Mix.wanted_none rfl | exact Mix.wanted_yes rfl rfl rfl) 24 _ rfl (V12.heap.size) rfl 24 _ (0, 0) _ (fun w1 hC1 => hC1.heap HR6.out (fun f => f)) Try.underlying24 rfl (by kernel_rfl) ?_; go_frame)
    | (refine Mix.go_sure_row (by first | exact Mix.wanted_none rfl | exact Mix.wanted_yes rfl rfl rfl) 24 _ rfl (V14.heap.size) rfl 24 _ (0, 0) _ (fun w1 hC1 => hC1.heap HR7.out (fun f => f)) Try.underlying24 rfl (by kernel_rfl) ?_; go_frame)
    | (refine Mix.go_sureW (by first | exact Mix.wanted_none rfl | exact Mix.wanted_yes rfl rfl rfl) _ (by rfl) (by rfl) _ (fun w' hC' => by go_wp2_with fail; refine Mix.stays ?_; go_frame; rfl) ?_; go_frame)
    | (refine Mix.go_lookW (by first | exact Mix.wanted_none rfl | exact Mix.wanted_yes rfl rfl rfl) _ (by rfl) (by rfl) _ (by go_wp2_with fail; refine Mix.stays ?_; go_frame; rfl) ?_; go_frame))
  refine Mix.go_turn ?_
  go_wp2_with fail
  have hk : Calls Try.prog 10 #[.agg #[.int .i64 0, .int .i64 3, .int .i64 0, .int .i64 0], .int .i64 4] x5 fun e w' => e = .returned (.agg #[.int .i64 0, .int .i64 3, .int .i64 0, .int .i64 1]) ∧ Fr0 x5 w' := pslots_any ⟨0, 3, 0, 0⟩ 4 (by unfold SizedQ Fit; decide) (by unfold Fit; decide) _
  refine hk.mono ?_
  clear hk
  rintro e x6 ⟨rfl, hF⟩
  have HX6 := Lib.hid (HX5.out.trans' hF)
  clear hF
  go_wp2
  refine Mix.then_go HX6.out ?_
  repeat (first
    | ((with_reducible refine Mix.go_skipS ?_ ?_); (focus (first | exact Mix.wanted_no rfl rfl rfl rfl | exact Mix.wanted_void rfl rfl rfl)); go_frame)
    | ((with_reducible refine Mix.go_skipL ?_ ?_); (focus (first | exact Mix.wanted_no rfl rfl rfl rfl | exact Mix.wanted_void rfl rfl rfl)); go_frame)
    | (refine Mix.go_move (by first | exact Mix.wanted_none rfl | exact Mix.wanted_yes rfl rfl rfl) _ rfl _ (by first | (go_simp; done) | (go_simp; rfl)) ?_; go_frame)
    | (refine Mix.go_assign (by first | exact Mix.wanted_none rfl | exact Mix.wanted_yes rfl rfl rfl) _ rfl _ (by first | (go_simp; done) | (go_simp; rfl)) ?_; go_frame)
    | (refine Mix.go_sure_row (by first | exact Mix.wanted_none rfl | exact Mix.wanted_yes rfl rfl rfl) 24 _ rfl (V7.heap.size) rfl 24 _ (0, 0) _ (fun w1 hC1 => hC1.heap HR3.out (fun f => f)) Try.underlying24 rfl (by kernel_rfl) ?_; go_frame)
    | (refine Mix.go_sure_row (by first | exact Mix.wanted_none rfl | exact Mix.wanted_yes rfl rfl rfl) 24 _ rfl (V9.heap.size+1) rfl 24 _ (0, 0) _ (fun w1 hC1 => hC1.heap HR5.out (fun f => f)) Try.underlying24 rfl (by kernel_rfl) ?_; go_frame)
    | (refine Mix.go_sure_row (by first | exact Mix.wanted_none rfl | exact Mix.wanted_yes rfl rfl rfl) 24 _ rfl (V12.heap.size) rfl 24 _ (0, 0) _ (fun w1 hC1 => hC1.heap HR6.out (fun f => f)) Try.underlying24 rfl (by kernel_rfl) ?_; go_frame)
    | (refine Mix.go_sure_row (by first | exact Mix.wanted_none rfl | exact Mix.wanted_yes rfl rfl rfl) 24 _ rfl (V14.heap.size) rfl 24 _ (0, 0) _ (fun w1 hC1 => hC1.heap HR7.out (fun f => f)) Try.underlying24 rfl (by kernel_rfl) ?_; go_frame)
    | (refine Mix.go_sureW (by first | exact Mix.wanted_none rfl | exact Mix.wanted_yes rfl rfl rfl) _ (by rfl) (by rfl) _ (fun w' hC' => by go_wp2_with fail; refine Mix.stays ?_; go_frame; rfl) ?_; go_frame)
    | (refine Mix.go_lookW (by first | exact Mix.wanted_none rfl | exact Mix.wanted_yes rfl rfl rfl) _ (by rfl) (by rfl) _ (by go_wp2_with fail; refine Mix.stays ?_; go_frame; rfl) ?_; go_frame))
  refine Mix.go_turn ?_
  go_wp2_with fail
  have hk : Calls Try.prog 11 #[.agg #[.int .i64 0, .int .i64 3, .int .i64 0, .int .i64 0]] x6 fun e w' => e = .returned (.bool true) ∧ Fr0 x6 w' := pgood_any ⟨0, 3, 0, 0⟩ (by unfold SizedQ Fit; decide) _
  refine hk.mono ?_
  clear hk
  rintro e x7 ⟨rfl, hF⟩
  have HX7 := Lib.hid (HX6.out.trans' hF)
  clear hF
  go_wp2
  refine Mix.then_go HX7.out ?_
  repeat (first
    | ((with_reducible refine Mix.go_skipS ?_ ?_); (focus (first | exact Mix.wanted_no rfl rfl rfl rfl | exact Mix.wanted_void rfl rfl rfl)); go_frame)
    | ((with_reducible refine Mix.go_skipL ?_ ?_); (focus (first | exact Mix.wanted_no rfl rfl rfl rfl | exact Mix.wanted_void rfl rfl rfl)); go_frame)
    | (refine Mix.go_move (by first | exact Mix.wanted_none rfl | exact Mix.wanted_yes rfl rfl rfl) _ rfl _ (by first | (go_simp; done) | (go_simp; rfl)) ?_; go_frame)
    | (refine Mix.go_assign (by first | exact Mix.wanted_none rfl | exact Mix.wanted_yes rfl rfl rfl) _ rfl _ (by first | (go_simp; done) | (go_simp; rfl)) ?_; go_frame)
    | (refine Mix.go_sure_row (by first | exact Mix.wanted_none rfl | exact Mix.wanted_yes rfl rfl rfl) 24 _ rfl (V7.heap.size) rfl 24 _ (0, 0) _ (fun w1 hC1 => hC1.heap HR3.out (fun f => f)) Try.underlying24 rfl (by kernel_rfl) ?_; go_frame)
    | (refine Mix.go_sure_row (by first | exact Mix.wanted_none rfl | exact Mix.wanted_yes rfl rfl rfl) 24 _ rfl (V9.heap.size+1) rfl 24 _ (0, 0) _ (fun w1 hC1 => hC1.heap HR5.out (fun f => f)) Try.underlying24 rfl (by kernel_rfl) ?_; go_frame)
    | (refine Mix.go_sure_row (by first | exact Mix.wanted_none rfl | exact Mix.wanted_yes rfl rfl rfl) 24 _ rfl (V12.heap.size) rfl 24 _ (0, 0) _ (fun w1 hC1 => hC1.heap HR6.out (fun f => f)) Try.underlying24 rfl (by kernel_rfl) ?_; go_frame)
    | (refine Mix.go_sure_row (by first | exact Mix.wanted_none rfl | exact Mix.wanted_yes rfl rfl rfl) 24 _ rfl (V14.heap.size) rfl 24 _ (0, 0) _ (fun w1 hC1 => hC1.heap HR7.out (fun f => f)) Try.underlying24 rfl (by kernel_rfl) ?_; go_frame)
    | (refine Mix.go_sureW (by first | exact Mix.wanted_none rfl | exact Mix.wanted_yes rfl rfl rfl) _ (by rfl) (by rfl) _ (fun w' hC' => by go_wp2_with fail; refine Mix.stays ?_; go_frame; rfl) ?_; go_frame)
    | (refine Mix.go_lookW (by first | exact Mix.wanted_none rfl | exact Mix.wanted_yes rfl rfl rfl) _ (by rfl) (by rfl) _ (by go_wp2_with fail; refine Mix.stays ?_; go_frame; rfl) ?_; go_frame))
  refine Mix.go_end ?_
  go_wp2
  go_ret
  exact ⟨rfl, HFV17.out.trans' HX7.out⟩
end Go.Proofs.Ytpdmglmhbdjcmaa.QuotaL
