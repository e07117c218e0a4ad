/-
  AggKnown walked.
-/
import Derived.Test.YtbiokogihimboaaDoorAggKnownS
namespace Go.Proofs.YtbiokogihimboaaDoor.AggL
open Go.RowKit Base _root_.Go.Proofs.YtbiokogihimboaaDoor.Series _root_.Go.Proofs.YtbiokogihimboaaDoor.Agg _root_.Go.Proofs.YtbiokogihimboaaDoor.Pack

set_option maxRecDepth 100000 in
set_option maxHeartbeats 16000000 in
theorem aggKnown_walk (w : World) (hL : Laid w) :
    Calls Tryd.prog 3 #[] w fun e w' => e = .returned (.bool true) ∧ Fr0 w w' := by
  have HL := Lib.hid hL
  clear hL
  go_enter Tryd.func3, Tryd.ntmps3
  go_wp2_with fail
  refine (awake_any _ HL.out).mono ?_
  rintro e w1 ⟨rfl, hF⟩
  have HF1 := Lib.hid hF
  clear hF
  have HV1 := Lib.hid (vals_any (.slice (some ⟨w1.heap.size, 0, none⟩) 2 2) [9223372036854775807, 1] (by simp) (w1.alloc (.cells #[.int .i64 9223372036854775807, .int .i64 1] 2)) (ints_lit w1 [9223372036854775807, 1] _ rfl _ rfl _ (w1.heap.size) (by simp only [World.size_alloc])))
  have hfa := (Fr.refl (fun _ => False) w1).alloc (.cells #[.int .i64 9223372036854775807, .int .i64 1] 2)
  have HF2 := Lib.hid (HF1.out.trans' hfa)
  clear hfa
  go_wp2_with fail
  refine (HV1.out).mono ?_
  rintro e w3 ⟨A2, C2, rfl, hP2, hF⟩
  have HF3 := Lib.hid (HF2.out.trans' hF)
  clear hF
  clear HV1
  have ho := of_is [9223372036854775807, 1] ⟨2, 0, 1, 9223372036854775807, 1, true⟩ (by kernel_rfl) (fun x hx => by simp only [List.mem_cons, List.not_mem_nil, or_false] at hx; unfold Fit; omega) (by simp) _ w3 hP2
  go_wp2_with fail
  refine (ho).mono ?_
  rintro e w4 ⟨rfl, hF⟩
  have HF4 := Lib.hid (HF3.out.trans' hF)
  clear hF
  clear ho hP2
  have HV5 := Lib.hid (vals_any (.slice (some ⟨w4.heap.size, 0, none⟩) 3 3) [9223372036854775807, 1, -1] (by simp) (w4.alloc (.cells #[.int .i64 9223372036854775807, .int .i64 1, .int .i64 (-1)] 2)) (ints_lit w4 [9223372036854775807, 1, -1] _ rfl _ rfl _ (w4.heap.size) (by simp only [World.size_alloc])))
  have hfa := (Fr.refl (fun _ => False) w4).alloc (.cells #[.int .i64 9223372036854775807, .int .i64 1, .int .i64 (-1)] 2)
  have HF6 := Lib.hid (HF4.out.trans' hfa)
  clear hfa
  go_wp2_with fail
  refine (HV5.out).mono ?_
  rintro e w7 ⟨A6, C6, rfl, hP6, hF⟩
  have HF7 := Lib.hid (HF6.out.trans' hF)
  clear hF
  clear HV5
  have ho := of_is [9223372036854775807, 1, -1] ⟨3, 9223372036854775807, -1, 9223372036854775807, -1, false⟩ (by kernel_rfl) (fun x hx => by simp only [List.mem_cons, List.not_mem_nil, or_false] at hx; unfold Fit; omega) (by simp) _ w7 hP6
  go_wp2_with fail
  refine (ho).mono ?_
  rintro e w8 ⟨rfl, hF⟩
  have HF8 := Lib.hid (HF7.out.trans' hF)
  clear hF
  clear ho hP6
  have HV9 := Lib.hid (vals_any (.slice (some ⟨w8.heap.size, 0, none⟩) 2 2) [(-9223372036854775808), -1] (by simp) (w8.alloc (.cells #[.int .i64 (-9223372036854775808), .int .i64 (-1)] 2)) (ints_lit w8 [(-9223372036854775808), -1] _ rfl _ rfl _ (w8.heap.size) (by simp only [World.size_alloc])))
  have hfa := (Fr.refl (fun _ => False) w8).alloc (.cells #[.int .i64 (-9223372036854775808), .int .i64 (-1)] 2)
  have HF10 := Lib.hid (HF8.out.trans' hfa)
  clear hfa
  go_wp2_with fail
  refine (HV9.out).mono ?_
  rintro e w11 ⟨A10, C10, rfl, hP10, hF⟩
  have HF11 := Lib.hid (HF10.out.trans' hF)
  clear hF
  clear HV9
  have ho := of_is [(-9223372036854775808), -1] ⟨2, 0, -9223372036854775808, -1, -1, true⟩ (by kernel_rfl) (fun x hx => by simp only [List.mem_cons, List.not_mem_nil, or_false] at hx; unfold Fit; omega) (by simp) _ w11 hP10
  go_wp2_with fail
  refine (ho).mono ?_
  rintro e w12 ⟨rfl, hF⟩
  have HF12 := Lib.hid (HF11.out.trans' hF)
  clear hF
  clear ho hP10
  have HV13 := Lib.hid (vals_any (.slice (some ⟨w12.heap.size, 0, none⟩) 5 5) [(-9223372036854775808), (-9223372036854775808), 9223372036854775807, 9223372036854775807, 2] (by simp) (w12.alloc (.cells #[.int .i64 (-9223372036854775808), .int .i64 (-9223372036854775808), .int .i64 9223372036854775807, .int .i64 9223372036854775807, .int .i64 2] 2)) (ints_lit w12 [(-9223372036854775808), (-9223372036854775808), 9223372036854775807, 9223372036854775807, 2] _ rfl _ rfl _ (w12.heap.size) (by simp only [World.size_alloc])))
  have hfa := (Fr.refl (fun _ => False) w12).alloc (.cells #[.int .i64 (-9223372036854775808), .int .i64 (-9223372036854775808), .int .i64 9223372036854775807, .int .i64 9223372036854775807, .int .i64 2] 2)
  have HF14 := Lib.hid (HF12.out.trans' hfa)
  clear hfa
  go_wp2_with fail
  refine (HV13.out).mono ?_
  rintro e w15 ⟨A14, C14, rfl, hP14, hF⟩
  have HF15 := Lib.hid (HF14.out.trans' hF)
  clear hF
  clear HV13
  have ho := of_is [(-9223372036854775808), (-9223372036854775808), 9223372036854775807, 9223372036854775807, 2] ⟨5, 0, -9223372036854775808, 9223372036854775807, 2, false⟩ (by kernel_rfl) (fun x hx => by simp only [List.mem_cons, List.not_mem_nil, or_false] at hx; unfold Fit; omega) (by simp) _ w15 hP14
  go_wp2_with fail
  refine (ho).mono ?_
  rintro e w16 ⟨rfl, hF⟩
  have HF16 := Lib.hid (HF15.out.trans' hF)
  clear hF
  clear ho hP14
  have hfa := (Fr.refl (fun _ => False) w16).alloc (.cells #[.int .i64 2, .int .i64 0, .int .i64 1, .int .i64 9223372036854775807, .int .i64 1, .bool true] 24)
  have HF17 := Lib.hid (HF16.out.trans' hfa)
  clear hfa
  have BA_18 : Hid (Bx 24 (w16.alloc (.cells #[.int .i64 2, .int .i64 0, .int .i64 1, .int .i64 9223372036854775807, .int .i64 1, .bool true] 24)) (w16.heap.size) ⟨2, 0, 1, 9223372036854775807, 1, true⟩) := Lib.hid (by have h := Bx.new 24 w16 ⟨2, 0, 1, 9223372036854775807, 1, true⟩; simp only [World.size_alloc] at h; exact h)
  have hfa := (Fr.refl (fun _ => False) (w16.alloc (.cells #[.int .i64 2, .int .i64 0, .int .i64 1, .int .i64 9223372036854775807, .int .i64 1, .bool true] 24))).alloc (.cells #[.int .i64 3, .int .i64 9223372036854775807, .int .i64 (-1), .int .i64 9223372036854775807, .int .i64 (-1), .bool false] 24)
  have HF19 := Lib.hid (HF17.out.trans' hfa)
  have BA_20 := Lib.hid (BA_18.out.fr0 hfa)
  clear BA_18
  clear hfa
  have BB_21 : Hid (Bx 24 ((w16.alloc (.cells #[.int .i64 2, .int .i64 0, .int .i64 1, .int .i64 9223372036854775807, .int .i64 1, .bool true] 24)).alloc (.cells #[.int .i64 3, .int .i64 9223372036854775807, .int .i64 (-1), .int .i64 9223372036854775807, .int .i64 (-1), .bool false] 24)) (w16.heap.size + 1) ⟨3, 9223372036854775807, -1, 9223372036854775807, -1, false⟩) := Lib.hid (by have h := Bx.new 24 (w16.alloc (.cells #[.int .i64 2, .int .i64 0, .int .i64 1, .int .i64 9223372036854775807, .int .i64 1, .bool true] 24)) ⟨3, 9223372036854775807, -1, 9223372036854775807, -1, false⟩; simp only [World.size_alloc] at h; exact h)
  have hfa := (Fr.refl (fun _ => False) ((w16.alloc (.cells #[.int .i64 2, .int .i64 0, .int .i64 1, .int .i64 9223372036854775807, .int .i64 1, .bool true] 24)).alloc (.cells #[.int .i64 3, .int .i64 9223372036854775807, .int .i64 (-1), .int .i64 9223372036854775807, .int .i64 (-1), .bool false] 24))).alloc (.cells #[.int .i64 2, .int .i64 0, .int .i64 (-9223372036854775808), .int .i64 (-1), .int .i64 (-1), .bool true] 24)
  have HF22 := Lib.hid (HF19.out.trans' hfa)
  have BA_23 := Lib.hid (BA_20.out.fr0 hfa)
  clear BA_20
  have BB_24 := Lib.hid (BB_21.out.fr0 hfa)
  clear BB_21
  clear hfa
  have BC_25 : Hid (Bx 24 (((w16.alloc (.cells #[.int .i64 2, .int .i64 0, .int .i64 1, .int .i64 9223372036854775807, .int .i64 1, .bool true] 24)).alloc (.cells #[.int .i64 3, .int .i64 9223372036854775807, .int .i64 (-1), .int .i64 9223372036854775807, .int .i64 (-1), .bool false] 24)).alloc (.cells #[.int .i64 2, .int .i64 0, .int .i64 (-9223372036854775808), .int .i64 (-1), .int .i64 (-1), .bool true] 24)) (w16.heap.size + 1 + 1) ⟨2, 0, -9223372036854775808, -1, -1, true⟩) := Lib.hid (by have h := Bx.new 24 ((w16.alloc (.cells #[.int .i64 2, .int .i64 0, .int .i64 1, .int .i64 9223372036854775807, .int .i64 1, .bool true] 24)).alloc (.cells #[.int .i64 3, .int .i64 9223372036854775807, .int .i64 (-1), .int .i64 9223372036854775807, .int .i64 (-1), .bool false] 24)) ⟨2, 0, -9223372036854775808, -1, -1, true⟩; simp only [World.size_alloc] at h; exact h)
  have hfa := (Fr.refl (fun _ => False) (((w16.alloc (.cells #[.int .i64 2, .int .i64 0, .int .i64 1, .int .i64 9223372036854775807, .int .i64 1, .bool true] 24)).alloc (.cells #[.int .i64 3, .int .i64 9223372036854775807, .int .i64 (-1), .int .i64 9223372036854775807, .int .i64 (-1), .bool false] 24)).alloc (.cells #[.int .i64 2, .int .i64 0, .int .i64 (-9223372036854775808), .int .i64 (-1), .int .i64 (-1), .bool true] 24))).alloc (.cells #[.int .i64 5, .int .i64 0, .int .i64 (-9223372036854775808), .int .i64 9223372036854775807, .int .i64 2, .bool false] 24)
  have HF26 := Lib.hid (HF22.out.trans' hfa)
  have BA_27 := Lib.hid (BA_23.out.fr0 hfa)
  clear BA_23
  have BB_28 := Lib.hid (BB_24.out.fr0 hfa)
  clear BB_24
  have BC_29 := Lib.hid (BC_25.out.fr0 hfa)
  clear BC_25
  clear hfa
  have BD_30 : Hid (Bx 24 ((((w16.alloc (.cells #[.int .i64 2, .int .i64 0, .int .i64 1, .int .i64 9223372036854775807, .int .i64 1, .bool true] 24)).alloc (.cells #[.int .i64 3, .int .i64 9223372036854775807, .int .i64 (-1), .int .i64 9223372036854775807, .int .i64 (-1), .bool false] 24)).alloc (.cells #[.int .i64 2, .int .i64 0, .int .i64 (-9223372036854775808), .int .i64 (-1), .int .i64 (-1), .bool true] 24)).alloc (.cells #[.int .i64 5, .int .i64 0, .int .i64 (-9223372036854775808), .int .i64 9223372036854775807, .int .i64 2, .bool false] 24)) (w16.heap.size + 1 + 1 + 1) ⟨5, 0, -9223372036854775808, 9223372036854775807, 2, false⟩) := Lib.hid (by have h := Bx.new 24 (((w16.alloc (.cells #[.int .i64 2, .int .i64 0, .int .i64 1, .int .i64 9223372036854775807, .int .i64 1, .bool true] 24)).alloc (.cells #[.int .i64 3, .int .i64 9223372036854775807, .int .i64 (-1), .int .i64 9223372036854775807, .int .i64 (-1), .bool false] 24)).alloc (.cells #[.int .i64 2, .int .i64 0, .int .i64 (-9223372036854775808), .int .i64 (-1), .int .i64 (-1), .bool true] 24)) ⟨5, 0, -9223372036854775808, 9223372036854775807, 2, false⟩; simp only [World.size_alloc] at h; exact h)
  as_aux_lemma =>
    have HV31 := Lib.hid (vals_any (.slice (some ⟨w16.heap.size + 1 + 1 + 1 + 1, 0, none⟩) 2 2) [5, 7] (by simp) (((((w16.alloc (.cells #[.int .i64 2, .int .i64 0, .int .i64 1, .int .i64 9223372036854775807, .int .i64 1, .bool true] 24)).alloc (.cells #[.int .i64 3, .int .i64 9223372036854775807, .int .i64 (-1), .int .i64 9223372036854775807, .int .i64 (-1), .bool false] 24)).alloc (.cells #[.int .i64 2, .int .i64 0, .int .i64 (-9223372036854775808), .int .i64 (-1), .int .i64 (-1), .bool true] 24)).alloc (.cells #[.int .i64 5, .int .i64 0, .int .i64 (-9223372036854775808), .int .i64 9223372036854775807, .int .i64 2, .bool false] 24)).alloc (.cells #[.int .i64 5, .int .i64 7] 2)) (ints_lit ((((w16.alloc (.cells #[.int .i64 2, .int .i64 0, .int .i64 1, .int .i64 9223372036854775807, .int .i64 1, .bool true] 24)).alloc (.cells #[.int .i64 3, .int .i64 9223372036854775807, .int .i64 (-1), .int .i64 9223372036854775807, .int .i64 (-1), .bool false] 24)).alloc (.cells #[.int .i64 2, .int .i64 0, .int .i64 (-9223372036854775808), .int .i64 (-1), .int .i64 (-1), .bool true] 24)).alloc (.cells #[.int .i64 5, .int .i64 0, .int .i64 (-9223372036854775808), .int .i64 9223372036854775807, .int .i64 2, .bool false] 24)) [5, 7] _ rfl _ rfl _ (w16.heap.size + 1 + 1 + 1 + 1) (by simp only [World.size_alloc])))
    have hfa := (Fr.refl (fun _ => False) ((((w16.alloc (.cells #[.int .i64 2, .int .i64 0, .int .i64 1, .int .i64 9223372036854775807, .int .i64 1, .bool true] 24)).alloc (.cells #[.int .i64 3, .int .i64 9223372036854775807, .int .i64 (-1), .int .i64 9223372036854775807, .int .i64 (-1), .bool false] 24)).alloc (.cells #[.int .i64 2, .int .i64 0, .int .i64 (-9223372036854775808), .int .i64 (-1), .int .i64 (-1), .bool true] 24)).alloc (.cells #[.int .i64 5, .int .i64 0, .int .i64 (-9223372036854775808), .int .i64 9223372036854775807, .int .i64 2, .bool false] 24))).alloc (.cells #[.int .i64 5, .int .i64 7] 2)
    have HF32 := Lib.hid (HF26.out.trans' hfa)
    have BA_33 := Lib.hid (BA_27.out.fr0 hfa)
    clear BA_27
    have BB_34 := Lib.hid (BB_28.out.fr0 hfa)
    clear BB_28
    have BC_35 := Lib.hid (BC_29.out.fr0 hfa)
    clear BC_29
    have BD_36 := Lib.hid (BD_30.out.fr0 hfa)
    clear BD_30
    clear hfa
    go_wp2_with fail
    refine (HV31.out).mono ?_
    rintro e w37 ⟨A36, C36, rfl, hP36, hF⟩
    have HF37 := Lib.hid (HF32.out.trans' hF)
    have BA_38 := Lib.hid (BA_33.out.fr0 hF)
    clear BA_33
    have BB_39 := Lib.hid (BB_34.out.fr0 hF)
    clear BB_34
    have BC_40 := Lib.hid (BC_35.out.fr0 hF)
    clear BC_35
    have BD_41 := Lib.hid (BD_36.out.fr0 hF)
    clear BD_36
    clear hF
    clear HV31
    have ho := of_is [5, 7] ⟨2, 12, 5, 7, 7, false⟩ (by kernel_rfl) (fun x hx => by simp only [List.mem_cons, List.not_mem_nil, or_false] at hx; unfold Fit; omega) (by simp) _ w37 hP36
    go_wp2_with fail
    refine (ho).mono ?_
    rintro e w42 ⟨rfl, hF⟩
    have HF42 := Lib.hid (HF37.out.trans' hF)
    have BA_43 := Lib.hid (BA_38.out.fr0 hF)
    clear BA_38
    have BB_44 := Lib.hid (BB_39.out.fr0 hF)
    clear BB_39
    have BC_45 := Lib.hid (BC_40.out.fr0 hF)
    clear BC_40
    have BD_46 := Lib.hid (BD_41.out.fr0 hF)
    clear BD_41
    clear hF
    clear ho hP36
    generalize hg : w16.heap.size = g at *
    clear hg
    obtain ⟨ob, hob⟩ : ∃ ob, ob = putOut ⟨2, 12, 5, 7, 7, false⟩ 31 := ⟨_, rfl⟩
    have HOB : Hid (ob.length = 40 ∧ ob.getD 7 0 = 2 ∧ ob.getD 15 0 = 12) := Lib.hid (by rw [hob]; exact ⟨by kernel_rfl, by kernel_rfl, by kernel_rfl⟩)
    have hp := put_is ⟨2, 12, 5, 7, 7, false⟩ (by unfold SizedA Fit; simp) 31 ob 0 40 (by rw [hob]) (by kernel_rfl) HOB.out.1 (by unfold Fit; omega) w42
    go_wp2_with fail
    refine (hp).mono ?_
    rintro e w47 ⟨Ae, Ce, rfl, hBe, hF⟩
    have HF47 := Lib.hid (HF42.out.trans' hF)
    have BA_48 := Lib.hid (BA_43.out.fr0 hF)
    clear BA_43
    have BB_49 := Lib.hid (BB_44.out.fr0 hF)
    clear BB_44
    have BC_50 := Lib.hid (BC_45.out.fr0 hF)
    clear BC_45
    have BD_51 := Lib.hid (BD_46.out.fr0 hF)
    clear BD_46
    clear hF
    clear hp hob
    have PE_52 := Lib.hid hBe
    clear hBe
    obtain ⟨c0, c1, c2, c3, c4, c5⟩ := BA_48.out.cells
    have hp := put_is ⟨2, 0, 1, 9223372036854775807, 1, true⟩ (by unfold SizedA Fit; simp) 1 [0, 0, 0, 0, 0, 0, 0, 2] 0 8 (by kernel_rfl) (by kernel_rfl) (by kernel_rfl) (by unfold Fit; omega) w47
    go_wp2_with fail
    go_wp2_with fail
    refine (hp).mono ?_
    rintro e w53 ⟨Sag, Scg, rfl, hBg, hF⟩
    have HF53 := Lib.hid (HF47.out.trans' hF)
    have BA_54 := Lib.hid (BA_48.out.fr0 hF)
    clear BA_48
    have BB_55 := Lib.hid (BB_49.out.fr0 hF)
    clear BB_49
    have BC_56 := Lib.hid (BC_50.out.fr0 hF)
    clear BC_50
    have BD_57 := Lib.hid (BD_51.out.fr0 hF)
    clear BD_51
    have PE_58 := Lib.hid (PE_52.out.fr0 hF)
    clear PE_52
    clear hF
    clear hp c0 c1 c2 c3 c4 c5
    obtain ⟨c0, c1, c2, c3, c4, c5⟩ := BA_54.out.cells
    have hp := put_is ⟨2, 0, 1, 9223372036854775807, 1, true⟩ (by unfold SizedA Fit; simp) 3 [] 9 0 (by kernel_rfl) (by kernel_rfl) (by kernel_rfl) (by unfold Fit; omega) w53
    go_wp2_with fail
    go_wp2_with fail
    refine (hp).mono ?_
    rintro e w59 ⟨Sai, Sci, rfl, hBi, hF⟩
    have HF59 := Lib.hid (HF53.out.trans' hF)
    have BA_60 := Lib.hid (BA_54.out.fr0 hF)
    clear BA_54
    have BB_61 := Lib.hid (BB_55.out.fr0 hF)
    clear BB_55
    have BC_62 := Lib.hid (BC_56.out.fr0 hF)
    clear BC_56
    have BD_63 := Lib.hid (BD_57.out.fr0 hF)
    clear BD_57
    have PE_64 := Lib.hid (PE_58.out.fr0 hF)
    clear PE_58
    clear hF
    clear hp c0 c1 c2 c3 c4 c5
    obtain ⟨c0, c1, c2, c3, c4, c5⟩ := BA_60.out.cells
    have hp := put_is ⟨2, 0, 1, 9223372036854775807, 1, true⟩ (by unfold SizedA Fit; simp) 0 [] 1 0 (by kernel_rfl) (by kernel_rfl) (by kernel_rfl) (by unfold Fit; omega) w59
    go_wp2_with fail
    go_wp2_with fail
    refine (hp).mono ?_
    rintro e w65 ⟨Saj, Scj, rfl, hBj, hF⟩
    have HF65 := Lib.hid (HF59.out.trans' hF)
    have BA_66 := Lib.hid (BA_60.out.fr0 hF)
    clear BA_60
    have BB_67 := Lib.hid (BB_61.out.fr0 hF)
    clear BB_61
    have BC_68 := Lib.hid (BC_62.out.fr0 hF)
    clear BC_62
    have BD_69 := Lib.hid (BD_63.out.fr0 hF)
    clear BD_63
    have PE_70 := Lib.hid (PE_64.out.fr0 hF)
    clear PE_64
    clear hF
    clear hp c0 c1 c2 c3 c4 c5
    obtain ⟨c0, c1, c2, c3, c4, c5⟩ := BA_66.out.cells
    have hp := put_is ⟨2, 0, 1, 9223372036854775807, 1, true⟩ (by unfold SizedA Fit; simp) 32 [] 1 0 (by kernel_rfl) (by kernel_rfl) (by kernel_rfl) (by unfold Fit; omega) w65
    go_wp2_with fail
    go_wp2_with fail
    refine (hp).mono ?_
    rintro e w71 ⟨Sak, Sck, rfl, hBk, hF⟩
    have HF71 := Lib.hid (HF65.out.trans' hF)
    have BA_72 := Lib.hid (BA_66.out.fr0 hF)
    clear BA_66
    have BB_73 := Lib.hid (BB_67.out.fr0 hF)
    clear BB_67
    have BC_74 := Lib.hid (BC_68.out.fr0 hF)
    clear BC_68
    have BD_75 := Lib.hid (BD_69.out.fr0 hF)
    clear BD_69
    have PE_76 := Lib.hid (PE_70.out.fr0 hF)
    clear PE_70
    clear hF
    clear hp c0 c1 c2 c3 c4 c5
    have HV77 := Lib.hid (vals_any (.slice (some ⟨w71.heap.size, 0, none⟩) 1 1) [-1] (by simp) (w71.alloc (.cells #[.int .i64 (-1)] 2)) (ints_lit w71 [-1] _ rfl _ rfl _ (w71.heap.size) (by simp only [World.size_alloc])))
    have hfa := (Fr.refl (fun _ => False) w71).alloc (.cells #[.int .i64 (-1)] 2)
    have HF78 := Lib.hid (HF71.out.trans' hfa)
    have BA_79 := Lib.hid (BA_72.out.fr0 hfa)
    clear BA_72
    have BB_80 := Lib.hid (BB_73.out.fr0 hfa)
    clear BB_73
    have BC_81 := Lib.hid (BC_74.out.fr0 hfa)
    clear BC_74
    have BD_82 := Lib.hid (BD_75.out.fr0 hfa)
    clear BD_75
    have PE_83 := Lib.hid (PE_76.out.fr0 hfa)
    clear PE_76
    clear hfa
    go_wp2_with fail
    refine (HV77.out).mono ?_
    rintro e w84 ⟨A83, C83, rfl, hP83, hF⟩
    have HF84 := Lib.hid (HF78.out.trans' hF)
    have BA_85 := Lib.hid (BA_79.out.fr0 hF)
    clear BA_79
    have BB_86 := Lib.hid (BB_80.out.fr0 hF)
    clear BB_80
    have BC_87 := Lib.hid (BC_81.out.fr0 hF)
    clear BC_81
    have BD_88 := Lib.hid (BD_82.out.fr0 hF)
    clear BD_82
    have PE_89 := Lib.hid (PE_83.out.fr0 hF)
    clear PE_83
    clear hF
    clear HV77
    have ho := of_is [-1] ⟨1, -1, -1, -1, -1, false⟩ (by kernel_rfl) (fun x hx => by simp only [List.mem_cons, List.not_mem_nil, or_false] at hx; unfold Fit; omega) (by simp) _ w84 hP83
    go_wp2_with fail
    refine (ho).mono ?_
    rintro e w90 ⟨rfl, hF⟩
    have HF90 := Lib.hid (HF84.out.trans' hF)
    have BA_91 := Lib.hid (BA_85.out.fr0 hF)
    clear BA_85
    have BB_92 := Lib.hid (BB_86.out.fr0 hF)
    clear BB_86
    have BC_93 := Lib.hid (BC_87.out.fr0 hF)
    clear BC_87
    have BD_94 := Lib.hid (BD_88.out.fr0 hF)
    clear BD_88
    have PE_95 := Lib.hid (PE_89.out.fr0 hF)
    clear PE_89
    clear hF
    clear ho hP83
    have hp := put_is ⟨1, -1, -1, -1, -1, false⟩ (by unfold SizedA Fit; simp) 2 [255, 255, 255, 255, 255, 255, 255, 255] 0 8 (by kernel_rfl) (by kernel_rfl) (by kernel_rfl) (by unfold Fit; omega) w90
    go_wp2_with fail
    refine (hp).mono ?_
    rintro e w96 ⟨Al, Cl, rfl, hBl, hF⟩
    have HF96 := Lib.hid (HF90.out.trans' hF)
    have BA_97 := Lib.hid (BA_91.out.fr0 hF)
    clear BA_91
    have BB_98 := Lib.hid (BB_92.out.fr0 hF)
    clear BB_92
    have BC_99 := Lib.hid (BC_93.out.fr0 hF)
    clear BC_93
    have BD_100 := Lib.hid (BD_94.out.fr0 hF)
    clear BD_94
    have PE_101 := Lib.hid (PE_95.out.fr0 hF)
    clear PE_95
    clear hF
    clear hp
    have PL_102 := Lib.hid hBl
    clear hBl
    as_aux_lemma =>
      have hfa := (Fr.refl (fun _ => False) w96).alloc (.cells #[.int .i64 0, .int .i64 0, .int .i64 0, .int .i64 0, .int .i64 0, .bool false] 24)
      have HF103 := Lib.hid (HF96.out.trans' hfa)
      have BA_104 := Lib.hid (BA_97.out.fr0 hfa)
      clear BA_97
      have BB_105 := Lib.hid (BB_98.out.fr0 hfa)
      clear BB_98
      have BC_106 := Lib.hid (BC_99.out.fr0 hfa)
      clear BC_99
      have BD_107 := Lib.hid (BD_100.out.fr0 hfa)
      clear BD_100
      have PE_108 := Lib.hid (PE_101.out.fr0 hfa)
      clear PE_101
      have PL_109 := Lib.hid (PL_102.out.fr0 hfa)
      clear PL_102
      clear hfa
      have BN_110 : Hid (Bx 24 (w96.alloc (.cells #[.int .i64 0, .int .i64 0, .int .i64 0, .int .i64 0, .int .i64 0, .bool false] 24)) w96.heap.size zeroA) := Lib.hid (Bx.new 24 w96 zeroA)
      have HV111 := Lib.hid (vals_any (.slice (some ⟨w96.heap.size + 1, 0, none⟩) 1 1) [9223372036854775807] (by simp) ((w96.alloc (.cells #[.int .i64 0, .int .i64 0, .int .i64 0, .int .i64 0, .int .i64 0, .bool false] 24)).alloc (.cells #[.int .i64 9223372036854775807] 2)) (ints_lit (w96.alloc (.cells #[.int .i64 0, .int .i64 0, .int .i64 0, .int .i64 0, .int .i64 0, .bool false] 24)) [9223372036854775807] _ rfl _ rfl _ (w96.heap.size + 1) (by simp only [World.size_alloc])))
      have hfa := (Fr.refl (fun _ => False) (w96.alloc (.cells #[.int .i64 0, .int .i64 0, .int .i64 0, .int .i64 0, .int .i64 0, .bool false] 24))).alloc (.cells #[.int .i64 9223372036854775807] 2)
      have HF112 := Lib.hid (HF103.out.trans' hfa)
      have BA_113 := Lib.hid (BA_104.out.fr0 hfa)
      clear BA_104
      have BB_114 := Lib.hid (BB_105.out.fr0 hfa)
      clear BB_105
      have BC_115 := Lib.hid (BC_106.out.fr0 hfa)
      clear BC_106
      have BD_116 := Lib.hid (BD_107.out.fr0 hfa)
      clear BD_107
      have PE_117 := Lib.hid (PE_108.out.fr0 hfa)
      clear PE_108
      have PL_118 := Lib.hid (PL_109.out.fr0 hfa)
      clear PL_109
      have BN_119 := Lib.hid (BN_110.out.fr0 hfa)
      clear BN_110
      clear hfa
      go_wp2_with fail
      refine (HV111.out).mono ?_
      rintro e w120 ⟨A119, C119, rfl, hP119, hF⟩
      have HF120 := Lib.hid (HF112.out.trans' hF)
      have BA_121 := Lib.hid (BA_113.out.fr0 hF)
      clear BA_113
      have BB_122 := Lib.hid (BB_114.out.fr0 hF)
      clear BB_114
      have BC_123 := Lib.hid (BC_115.out.fr0 hF)
      clear BC_115
      have BD_124 := Lib.hid (BD_116.out.fr0 hF)
      clear BD_116
      have PE_125 := Lib.hid (PE_117.out.fr0 hF)
      clear PE_117
      have PL_126 := Lib.hid (PL_118.out.fr0 hF)
      clear PL_118
      have BN_127 := Lib.hid (BN_119.out.fr0 hF)
      clear BN_119
      clear hF
      clear HV111
      have ho := of_is [9223372036854775807] ⟨1, 9223372036854775807, 9223372036854775807, 9223372036854775807, 9223372036854775807, false⟩ (by kernel_rfl) (fun x hx => by simp only [List.mem_cons, List.not_mem_nil, or_false] at hx; unfold Fit; omega) (by simp) _ w120 hP119
      go_wp2_with fail
      refine (ho).mono ?_
      rintro e w128 ⟨rfl, hF⟩
      have HF128 := Lib.hid (HF120.out.trans' hF)
      have BA_129 := Lib.hid (BA_121.out.fr0 hF)
      clear BA_121
      have BB_130 := Lib.hid (BB_122.out.fr0 hF)
      clear BB_122
      have BC_131 := Lib.hid (BC_123.out.fr0 hF)
      clear BC_123
      have BD_132 := Lib.hid (BD_124.out.fr0 hF)
      clear BD_124
      have PE_133 := Lib.hid (PE_125.out.fr0 hF)
      clear PE_125
      have PL_134 := Lib.hid (PL_126.out.fr0 hF)
      clear PL_126
      have BN_135 := Lib.hid (BN_127.out.fr0 hF)
      clear BN_127
      clear hF
      clear ho hP119
      generalize hgn : w96.heap.size = gn at *
      clear hgn
      have HV136 := Lib.hid (vals_any (.slice (some ⟨w128.heap.size, 0, none⟩) 1 1) [1] (by simp) (w128.alloc (.cells #[.int .i64 1] 2)) (ints_lit w128 [1] _ rfl _ rfl _ (w128.heap.size) (by simp only [World.size_alloc])))
      have hfa := (Fr.refl (fun _ => False) w128).alloc (.cells #[.int .i64 1] 2)
      have HF137 := Lib.hid (HF128.out.trans' hfa)
      have BA_138 := Lib.hid (BA_129.out.fr0 hfa)
      clear BA_129
      have BB_139 := Lib.hid (BB_130.out.fr0 hfa)
      clear BB_130
      have BC_140 := Lib.hid (BC_131.out.fr0 hfa)
      clear BC_131
      have BD_141 := Lib.hid (BD_132.out.fr0 hfa)
      clear BD_132
      have PE_142 := Lib.hid (PE_133.out.fr0 hfa)
      clear PE_133
      have PL_143 := Lib.hid (PL_134.out.fr0 hfa)
      clear PL_134
      have BN_144 := Lib.hid (BN_135.out.fr0 hfa)
      clear BN_135
      clear hfa
      go_wp2_with fail
      refine (HV136.out).mono ?_
      rintro e w145 ⟨A144, C144, rfl, hP144, hF⟩
      have HF145 := Lib.hid (HF137.out.trans' hF)
      have BA_146 := Lib.hid (BA_138.out.fr0 hF)
      clear BA_138
      have BB_147 := Lib.hid (BB_139.out.fr0 hF)
      clear BB_139
      have BC_148 := Lib.hid (BC_140.out.fr0 hF)
      clear BC_140
      have BD_149 := Lib.hid (BD_141.out.fr0 hF)
      clear BD_141
      have PE_150 := Lib.hid (PE_142.out.fr0 hF)
      clear PE_142
      have PL_151 := Lib.hid (PL_143.out.fr0 hF)
      clear PL_143
      have BN_152 := Lib.hid (BN_144.out.fr0 hF)
      clear BN_144
      clear hF
      clear HV136
      have ho := of_is [1] ⟨1, 1, 1, 1, 1, false⟩ (by kernel_rfl) (fun x hx => by simp only [List.mem_cons, List.not_mem_nil, or_false] at hx; unfold Fit; omega) (by simp) _ w145 hP144
      go_wp2_with fail
      refine (ho).mono ?_
      rintro e w153 ⟨rfl, hF⟩
      have HF153 := Lib.hid (HF145.out.trans' hF)
      have BA_154 := Lib.hid (BA_146.out.fr0 hF)
      clear BA_146
      have BB_155 := Lib.hid (BB_147.out.fr0 hF)
      clear BB_147
      have BC_156 := Lib.hid (BC_148.out.fr0 hF)
      clear BC_148
      have BD_157 := Lib.hid (BD_149.out.fr0 hF)
      clear BD_149
      have PE_158 := Lib.hid (PE_150.out.fr0 hF)
      clear PE_150
      have PL_159 := Lib.hid (PL_151.out.fr0 hF)
      clear PL_151
      have BN_160 := Lib.hid (BN_152.out.fr0 hF)
      clear BN_152
      clear hF
      clear ho hP144
      go_wp2_with fail
      refine ((join_is ⟨1, 9223372036854775807, 9223372036854775807, 9223372036854775807, 9223372036854775807, false⟩ ⟨1, 1, 1, 1, 1, false⟩ ⟨2, 0, 1, 9223372036854775807, 1, true⟩ (by unfold SizedA Fit; simp) (by unfold SizedA Fit; simp) (by unfold Fit; decide) (by kernel_rfl) w153)).mono ?_
      rintro e w161 ⟨rfl, hF⟩
      have HF161 := Lib.hid (HF153.out.trans' hF)
      have BA_162 := Lib.hid (BA_154.out.fr0 hF)
      clear BA_154
      have BB_163 := Lib.hid (BB_155.out.fr0 hF)
      clear BB_155
      have BC_164 := Lib.hid (BC_156.out.fr0 hF)
      clear BC_156
      have BD_165 := Lib.hid (BD_157.out.fr0 hF)
      clear BD_157
      have PE_166 := Lib.hid (PE_158.out.fr0 hF)
      clear PE_158
      have PL_167 := Lib.hid (PL_159.out.fr0 hF)
      clear PL_159
      have BN_168 := Lib.hid (BN_160.out.fr0 hF)
      clear BN_160
      clear hF
      have hfa := (Fr.refl (fun _ => False) w161).alloc (.cells #[.int .i64 2, .int .i64 0, .int .i64 1, .int .i64 9223372036854775807, .int .i64 1, .bool true] 24)
      have HF169 := Lib.hid (HF161.out.trans' hfa)
      have BA_170 := Lib.hid (BA_162.out.fr0 hfa)
      clear BA_162
      have BB_171 := Lib.hid (BB_163.out.fr0 hfa)
      clear BB_163
      have BC_172 := Lib.hid (BC_164.out.fr0 hfa)
      clear BC_164
      have BD_173 := Lib.hid (BD_165.out.fr0 hfa)
      clear BD_165
      have PE_174 := Lib.hid (PE_166.out.fr0 hfa)
      clear PE_166
      have PL_175 := Lib.hid (PL_167.out.fr0 hfa)
      clear PL_167
      have BN_176 := Lib.hid (BN_168.out.fr0 hfa)
      clear BN_168
      clear hfa
      have BX_177 := Lib.hid (Bx.new 24 w161 ⟨2, 0, 1, 9223372036854775807, 1, true⟩)
      as_aux_lemma =>
        go_wp2_with fail
        generalize hgx : w161.heap.size = gx at *
        clear hgx
        refine r13 gn rfl rfl BN_176.out ?_
        intro vals V_BY g_BY hf hv hb
        rw [ds13]
        simp only [frm, List.mapIdx_toArray, List.mapIdx_cons, List.mapIdx_nil, Nat.zero_add, Nat.reduceAdd, List.contains_cons, List.contains_nil, Nat.reduceBEq, Bool.or_false, Bool.false_or, Bool.or_true, Bool.true_or, Bool.or_self, Bool.false_eq_true, if_true, if_false, hv]
        clear hv
        generalize vals 87 = u87
        generalize vals 88 = u88
        generalize vals 89 = u89
        generalize vals 90 = u90
        generalize vals 91 = u91
        clear vals
        have HF178 := Lib.hid (HF169.out.trans' hf)
        have BA_179 := Lib.hid (BA_170.out.fr0 hf)
        clear BA_170
        have BB_180 := Lib.hid (BB_171.out.fr0 hf)
        clear BB_171
        have BC_181 := Lib.hid (BC_172.out.fr0 hf)
        clear BC_172
        have BD_182 := Lib.hid (BD_173.out.fr0 hf)
        clear BD_173
        have PE_183 := Lib.hid (PE_174.out.fr0 hf)
        clear PE_174
        have PL_184 := Lib.hid (PL_175.out.fr0 hf)
        clear PL_175
        have BN_185 := Lib.hid (BN_176.out.fr0 hf)
        clear BN_176
        have BX_186 := Lib.hid (BX_177.out.fr0 hf)
        clear BX_177
        have BY_187 := Lib.hid hb
        clear hb hf
        as_aux_lemma =>
          go_wp2_with fail
          refine r14 gn rfl rfl BN_185.out ?_
          intro vals V_BZ g_BZ hf hv hb
          rw [ds14]
          simp only [frm, List.mapIdx_toArray, List.mapIdx_cons, List.mapIdx_nil, Nat.zero_add, Nat.reduceAdd, List.contains_cons, List.contains_nil, Nat.reduceBEq, Bool.or_false, Bool.false_or, Bool.or_true, Bool.true_or, Bool.or_self, Bool.false_eq_true, if_true, if_false, hv]
          clear hv
          generalize vals 92 = u92
          generalize vals 93 = u93
          generalize vals 94 = u94
          generalize vals 95 = u95
          generalize vals 96 = u96
          clear vals
          have HF188 := Lib.hid (HF178.out.trans' hf)
          have BA_189 := Lib.hid (BA_179.out.fr0 hf)
          clear BA_179
          have BB_190 := Lib.hid (BB_180.out.fr0 hf)
          clear BB_180
          have BC_191 := Lib.hid (BC_181.out.fr0 hf)
          clear BC_181
          have BD_192 := Lib.hid (BD_182.out.fr0 hf)
          clear BD_182
          have PE_193 := Lib.hid (PE_183.out.fr0 hf)
          clear PE_183
          have PL_194 := Lib.hid (PL_184.out.fr0 hf)
          clear PL_184
          have BN_195 := Lib.hid (BN_185.out.fr0 hf)
          clear BN_185
          have BX_196 := Lib.hid (BX_186.out.fr0 hf)
          clear BX_186
          have BY_197 := Lib.hid (BY_187.out.fr0 hf)
          clear BY_187
          have BZ_198 := Lib.hid hb
          clear hb hf
          as_aux_lemma =>
            go_wp2_with fail
            obtain ⟨pe, po, hpe, hce⟩ := bytes_at' PE_193.out (by rw [HOB.out.1]; omega)
            subst hpe
            have HCE := Lib.hid hce
            clear hce
            have HLX := Lib.hid (HL.out.fr HF188.out)
            refine akr (g := g) (gx := gx) (gn := gn) (gy := g_BY) (gz := g_BZ) (pe := pe) (po := po) ⟨rfl, rfl, rfl, rfl, rfl, rfl, rfl, rfl, rfl, rfl, rfl, rfl, rfl, rfl, rfl, rfl, rfl, rfl, rfl, fun X h => (BA_189.out.fr0 h).cells.2.2.2.2.2, fun X h => (BA_189.out.fr0 h).cells.2.1, fun X h => (BA_189.out.fr0 h).cells.2.2.2.1, fun X h => (BB_190.out.fr0 h).cells.2.2.2.2.2, fun X h => (BB_190.out.fr0 h).cells.2.1, fun X h => (BC_191.out.fr0 h).cells.2.2.2.2.2, fun X h => (BD_192.out.fr0 h).cells.2.2.2.2.2, fun X h => (BD_192.out.fr0 h).cells.2.1, fun X h => (BX_196.out.fr0 h).cells.2.2.2.2.2, fun X h => (BX_196.out.fr0 h).cells.1, fun X h => by have hz := HCE.out.1 X h; rw [HOB.out.2.1] at hz; exact hz, fun X h => by have hz := HCE.out.2 X h; rw [HOB.out.2.2] at hz; exact hz, fun X h => (BN_195.out.fr0 h).heap, fun X h => (BY_197.out.fr0 h).heap, fun X h => (BZ_198.out.fr0 h).heap, fun X h => (BA_189.out.fr0 h).heap, fun X h => PL_194.out.fr0 h, HLX.out⟩ ?_
            intro a9 w9 hF hd h0
            have HFE := Lib.hid (HF188.out.trans' hF)
            go_wp2
            exact bodyPost_ret (results_tmp rfl a9.tmps Tryd.prog w9) hd ⟨congrArg Ending.returned h0, HFE.out⟩
end Go.Proofs.YtbiokogihimboaaDoor.AggL
