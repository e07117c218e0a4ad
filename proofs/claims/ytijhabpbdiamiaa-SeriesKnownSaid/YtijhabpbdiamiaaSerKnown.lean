/-
  SeriesKnown.
-/
import Derived.Test.YtijhabpbdiamiaaSerAwake
namespace Go.Proofs.Ytijhabpbdiamiaa.SeriesL
open Go.RowKit Base _root_.Go.Proofs.Ytijhabpbdiamiaa.Series

def L3 : List Sm := [(-3, 1), (0, 2), (7, 3)]
theorem sized_all (l : List Sm) (h : (l.all fun q => decide (-9223372036854775808 ≤ q.1) && (decide (q.1 ≤ 9223372036854775807) && (decide (-9223372036854775808 ≤ q.2) && decide (q.2 ≤ 9223372036854775807)))) = true) : SizedS l := fun q hq => by
  have h1 := List.all_eq_true.1 h q hq
  simp only [Bool.and_eq_true, decide_eq_true_eq] at h1
  exact ⟨⟨h1.1, h1.2.1⟩, h1.2.2.1, h1.2.2.2⟩
theorem add1 : addErr L3 [(8, 4), (9, 5)] 3 = 0 ∧ addOut L3 [(8, 4), (9, 5)] 3 = [(7, 3), (8, 4), (9, 5)] := by decide
theorem add2 : addErr L3 [(9, 4), (8, 5)] 9 = 8 := by decide
theorem add3 : addErr L3 [] 0 = 1 := by decide
theorem add4 : addErr [(1, 0), (1, 0)] [] 9 = 1 := by decide
theorem add5 : addErr L3 [] 2 = 0 ∧ addOut L3 [] 2 = [(0, 2), (7, 3)] := by decide
theorem rng1 : rangeOf L3 (-3) 0 = [(-3, 1), (0, 2)] := by decide
theorem rng2 : rangeOf L3 1 0 = [] := by decide
theorem rng3 : rangeOf L3 (-9223372036854775808) 9223372036854775807 = L3 := by decide
theorem good1 : rising [] = true := by decide
theorem good2 : rising [(2, 0), (1, 0)] = false := by decide
set_option maxRecDepth 100000 in
set_option maxHeartbeats 8000000 in
theorem seriesKnown_walk (w : World) : Calls Try.prog 3 #[] w fun e w' => e = .returned (.bool true) ∧ Fr0 w w' := by
  have s3 : SizedS L3 := sized_all _ (by decide)
  go_enter Try.func3, Try.ntmps3
  go_wp2_with fail
  refine (awake_any _).mono ?_
  rintro e w0 ⟨rfl, hF⟩
  have HF := Lib.hid hF
  clear hF
  have HFL := Lib.hid (HF.out.alloc (.cells #[.int .i64 (-3), .int .i64 (1), .int .i64 (0), .int .i64 (2), .int .i64 (7), .int .i64 (3)] 24))
  have HPL := Lib.hid (pairs_lit w0 L3 #[.int .i64 (-3), .int .i64 (1), .int .i64 (0), .int .i64 (2), .int .i64 (7), .int .i64 (3)] rfl 3 rfl 24 _ rfl)
  have HSZ : Hid (w0.heap.size + 1 = (w0.alloc (.cells #[.int .i64 (-3), .int .i64 (1), .int .i64 (0), .int .i64 (2), .int .i64 (7), .int .i64 (3)] 24)).heap.size) := Lib.hid (World.size_alloc _ _).symm
  have HA0 := Lib.hid ((Fr.refl (fun _ => False) (w0.alloc (.cells #[.int .i64 (-3), .int .i64 (1), .int .i64 (0), .int .i64 (2), .int .i64 (7), .int .i64 (3)] 24))).alloc (.cells #[.int .i64 (8), .int .i64 (4), .int .i64 (9), .int .i64 (5)] 24))
  have hm := pairs_lit (w0.alloc (.cells #[.int .i64 (-3), .int .i64 (1), .int .i64 (0), .int .i64 (2), .int .i64 (7), .int .i64 (3)] 24)) [(8, 4), (9, 5)] #[.int .i64 (8), .int .i64 (4), .int .i64 (9), .int .i64 (5)] rfl 2 rfl 24 (w0.heap.size + 1) HSZ.out
  have HPL := Lib.hid (HPL.out.fr0 HA0.out)
  have HFL := Lib.hid (HFL.out.trans' HA0.out)
  have hk := padd_any (.slice (some ⟨w0.heap.size, 0, none⟩) 3 3) _ L3 [(8, 4), (9, 5)] 3 (by decide) (by decide) s3 (sized_all _ (by decide)) (by decide) _ HPL.out hm
  clear HA0 hm
  go_wp2_with fail
  refine hk.mono ?_
  clear hk
  rintro e w1 ⟨v1, rfl, hP, hF⟩
  rw [add1.1, add1.2] at *
  obtain ⟨A1, C1, rfl⟩ := pairs_form hP
  have HF1 := Lib.hid hF
  have HPL := Lib.hid (HPL.out.fr0 hF)
  have HFL := Lib.hid (HFL.out.trans' hF)
  have HR1 := Lib.hid hP
  clear hF hP HF1
  clear HSZ
  generalize w0.heap.size = g at *
  have HA0 := Lib.hid ((Fr.refl (fun _ => False) w1).alloc (.cells #[.int .i64 (9), .int .i64 (4), .int .i64 (8), .int .i64 (5)] 24))
  have hm := pairs_lit w1 [(9, 4), (8, 5)] #[.int .i64 (9), .int .i64 (4), .int .i64 (8), .int .i64 (5)] rfl 2 rfl 24 _ rfl
  have HPL := Lib.hid (HPL.out.fr0 HA0.out)
  have HR1 := Lib.hid (HR1.out.fr0 HA0.out)
  have HFL := Lib.hid (HFL.out.trans' HA0.out)
  have hk := padd_any (.slice (some ⟨g, 0, none⟩) 3 3) _ L3 [(9, 4), (8, 5)] 9 (by decide) (by decide) s3 (sized_all _ (by decide)) (by decide) _ HPL.out hm
  clear HA0 hm
  go_wp2_with fail
  refine hk.mono ?_
  clear hk
  rintro e w2 ⟨v2, rfl, hP, hF⟩
  rw [add2] at *
  obtain ⟨A2, C2, rfl⟩ := pairs_form hP
  have HF2 := Lib.hid hF
  have HPL := Lib.hid (HPL.out.fr0 hF)
  have HR1 := Lib.hid (HR1.out.fr0 hF)
  have HFL := Lib.hid (HFL.out.trans' hF)
  clear hF hP HF2
  have hk := padd_any (.slice (some ⟨g, 0, none⟩) 3 3) (.slice none 0 0) L3 [] 0 (by decide) (by decide) s3 sized_nil (by decide) _ HPL.out (pairs_nil _)
  go_wp2_with fail
  refine hk.mono ?_
  clear hk
  rintro e w3 ⟨v3, rfl, hP, hF⟩
  rw [add3] at *
  obtain ⟨A3, C3, rfl⟩ := pairs_form hP
  have HF3 := Lib.hid hF
  have HPL := Lib.hid (HPL.out.fr0 hF)
  have HR1 := Lib.hid (HR1.out.fr0 hF)
  have HFL := Lib.hid (HFL.out.trans' hF)
  clear hF hP HF3
  have HA0 := Lib.hid ((Fr.refl (fun _ => False) w3).alloc (.cells #[.int .i64 (1), .int .i64 (0), .int .i64 (1), .int .i64 (0)] 24))
  have hm := pairs_lit w3 [(1, 0), (1, 0)] #[.int .i64 (1), .int .i64 (0), .int .i64 (1), .int .i64 (0)] rfl 2 rfl 24 _ rfl
  have HPL := Lib.hid (HPL.out.fr0 HA0.out)
  have HR1 := Lib.hid (HR1.out.fr0 HA0.out)
  have HFL := Lib.hid (HFL.out.trans' HA0.out)
  have hk := padd_any _ (.slice none 0 0) [(1, 0), (1, 0)] [] 9 (by decide) (by decide) (sized_all _ (by decide)) sized_nil (by decide) _ hm (pairs_nil _)
  clear HA0 hm
  go_wp2_with fail
  refine hk.mono ?_
  clear hk
  rintro e w4 ⟨v4, rfl, hP, hF⟩
  rw [add4] at *
  obtain ⟨A4, C4, rfl⟩ := pairs_form hP
  have HPL := Lib.hid (HPL.out.fr0 hF)
  have HR1 := Lib.hid (HR1.out.fr0 hF)
  have HFL := Lib.hid (HFL.out.trans' hF)
  clear hF hP
  have hk := padd_any (.slice (some ⟨g, 0, none⟩) 3 3) (.slice none 0 0) L3 [] 2 (by decide) (by decide) s3 sized_nil (by decide) _ HPL.out (pairs_nil _)
  go_wp2_with fail
  refine hk.mono ?_
  clear hk
  rintro e w5 ⟨v5, rfl, hP, hF⟩
  rw [add5.1, add5.2] at *
  obtain ⟨A5, C5, rfl⟩ := pairs_form hP
  have HF5 := Lib.hid hF
  have HPL := Lib.hid (HPL.out.fr0 hF)
  have HR1 := Lib.hid (HR1.out.fr0 hF)
  have HFL := Lib.hid (HFL.out.trans' hF)
  have HR5 := Lib.hid hP
  clear hF hP HF5
  have hk := plast_any (.slice (some ⟨g, 0, none⟩) 3 3) L3 (by decide) w5 HPL.out
  rw [show lastOf L3 = (7, 3) from rfl, show decide (0 < (L3 : List Sm).length) = true from rfl] at hk
  go_wp2_with fail
  refine hk.mono ?_
  clear hk
  rintro e w6 ⟨rfl, hF⟩
  have HPL := Lib.hid (HPL.out.fr0 hF)
  have HR1 := Lib.hid (HR1.out.fr0 hF)
  have HR5 := Lib.hid (HR5.out.fr0 hF)
  have HFL := Lib.hid (HFL.out.trans' hF)
  clear hF
  have HA0 := Lib.hid ((Fr.refl (fun _ => False) w6).alloc (.cells #[.int .i64 (7), .int .i64 (3)] 24))
  have HXX : Hid (∀ wr, Fr0 (w6.alloc (.cells #[.int .i64 (7), .int .i64 (3)] 24)) wr → wr.cell? ⟨w6.heap.size, 1, none⟩ = some (.int .i64 3)) := Lib.hid (fun wr hf => by
    have h : (w6.alloc (.cells #[.int .i64 (7), .int .i64 (3)] 24)).cell? ⟨w6.heap.size, 1, none⟩ = some (.int .i64 3) := by rw [cell_of_row _ _ _ _ _ _ (heap_alloc_new w6 _)]; rfl
    exact (hf.cell (p := ⟨w6.heap.size, 1, none⟩) (World.block_lt_of_cell? _ _ h) (fun f => f)).trans h)
  have HPL := Lib.hid (HPL.out.fr0 HA0.out)
  have HR1 := Lib.hid (HR1.out.fr0 HA0.out)
  have HR5 := Lib.hid (HR5.out.fr0 HA0.out)
  have HFL := Lib.hid (HFL.out.trans' HA0.out)
  have HX := HXX
  clear HXX
  clear HA0
  have hk := plast_any (.slice none 0 0) [] (by decide) (w6.alloc (.cells #[.int .i64 (7), .int .i64 (3)] 24)) (pairs_nil _)
  rw [show lastOf [] = (0, 0) from rfl, show decide (0 < ([] : List Sm).length) = false from rfl] at hk
  go_wp2_with fail
  refine hk.mono ?_
  clear hk
  rintro e w7 ⟨rfl, hF⟩
  have HPL := Lib.hid (HPL.out.fr0 hF)
  have HR1 := Lib.hid (HR1.out.fr0 hF)
  have HR5 := Lib.hid (HR5.out.fr0 hF)
  have HFL := Lib.hid (HFL.out.trans' hF)
  have HX := Lib.hid (fun wr (hf : Fr0 _ wr) => HX.out wr (hF.trans' hf))
  clear hF
  have HA0 := Lib.hid ((Fr.refl (fun _ => False) w7).alloc (.cells #[.int .i64 (0), .int .i64 (0)] 24))
  have HPL := Lib.hid (HPL.out.fr0 HA0.out)
  have HR1 := Lib.hid (HR1.out.fr0 HA0.out)
  have HR5 := Lib.hid (HR5.out.fr0 HA0.out)
  have HFL := Lib.hid (HFL.out.trans' HA0.out)
  have HX := Lib.hid (fun wr (hf : Fr0 _ wr) => HX.out wr (HA0.out.trans' hf))
  clear HA0
  have hk := prange_any (.slice (some ⟨g, 0, none⟩) 3 3) L3 (-3) (0) (by decide) s3 (by decide) (by decide) (w7.alloc (.cells #[.int .i64 (0), .int .i64 (0)] 24)) HPL.out
  rw [rng1] at hk
  go_wp2_with fail
  refine hk.mono ?_
  clear hk
  rintro e w8 ⟨v8, rfl, hP, hF⟩
  obtain ⟨A8, C8, rfl⟩ := pairs_form hP
  clear hP
  have HPL := Lib.hid (HPL.out.fr0 hF)
  have HR1 := Lib.hid (HR1.out.fr0 hF)
  have HR5 := Lib.hid (HR5.out.fr0 hF)
  have HFL := Lib.hid (HFL.out.trans' hF)
  have HX := Lib.hid (fun wr (hf : Fr0 _ wr) => HX.out wr (hF.trans' hf))
  clear hF
  have hx := HX.out _ (Fr.refl _ _)
  obtain ⟨pb, po, rfl, hc⟩ := pairs_at HR1.out 0 (by decide)
  obtain ⟨pb2, po2, hq, hc2⟩ := pairs_at HR1.out 2 (by decide)
  cases hq
  have e0 : w8.cell? ⟨pb, po, none⟩ = some (.int .i64 7) := (hc _ (Fr.refl _ _)).1
  have e2 : w8.cell? ⟨pb, po + 4 + 1, none⟩ = some (.int .i64 5) := (hc2 _ (Fr.refl _ _)).2
  clear hc hc2
  have hk := prange_any (.slice (some ⟨g, 0, none⟩) 3 3) L3 (1) (0) (by decide) s3 (by decide) (by decide) w8 HPL.out
  rw [rng2] at hk
  go_wp2_with fail
  refine hk.mono ?_
  clear hk
  rintro e w9 ⟨v9, rfl, hP, hF⟩
  obtain ⟨A9, C9, rfl⟩ := pairs_form hP
  clear hP
  have HPL := Lib.hid (HPL.out.fr0 hF)
  have HR1 := Lib.hid (HR1.out.fr0 hF)
  have HR5 := Lib.hid (HR5.out.fr0 hF)
  have HFL := Lib.hid (HFL.out.trans' hF)
  have HX := Lib.hid (fun wr (hf : Fr0 _ wr) => HX.out wr (hF.trans' hf))
  clear hF
  have hk := prange_any (.slice (some ⟨g, 0, none⟩) 3 3) L3 (-9223372036854775808) (9223372036854775807) (by decide) s3 (by decide) (by decide) w9 HPL.out
  rw [rng3] at hk
  go_wp2_with fail
  refine hk.mono ?_
  clear hk
  rintro e w10 ⟨v10, rfl, hP, hF⟩
  obtain ⟨A10, C10, rfl⟩ := pairs_form hP
  clear hP
  have HPL := Lib.hid (HPL.out.fr0 hF)
  have HR1 := Lib.hid (HR1.out.fr0 hF)
  have HR5 := Lib.hid (HR5.out.fr0 hF)
  have HFL := Lib.hid (HFL.out.trans' hF)
  have HX := Lib.hid (fun wr (hf : Fr0 _ wr) => HX.out wr (hF.trans' hf))
  clear hF
  have hk := pgood_any (.slice none 0 0) [] (by decide) (sized_all _ (by decide)) w10 (pairs_nil _)
  rw [good1] at hk
  go_wp2_with fail
  refine hk.mono ?_
  clear hk
  rintro e w11 ⟨rfl, hF⟩
  have HFL := Lib.hid (HFL.out.trans' hF)
  clear hF
  have HFL := Lib.hid (HFL.out.alloc (.cells #[.int .i64 (2), .int .i64 (0), .int .i64 (1), .int .i64 (0)] 24))
  have hm := pairs_lit w11 [(2, 0), (1, 0)] #[.int .i64 (2), .int .i64 (0), .int .i64 (1), .int .i64 (0)] rfl 2 rfl 24 _ rfl
  have hk := pgood_any _ [(2, 0), (1, 0)] (by decide) (sized_all _ (by decide)) _ hm
  rw [good2] at hk
  go_wp2_with fail
  refine hk.mono ?_
  clear hk
  rintro e w12 ⟨rfl, hF⟩
  have HFL := Lib.hid (HFL.out.trans' hF)
  clear hF
  go_wp2
  go_ret
  exact ⟨rfl, HFL.out⟩
end Go.Proofs.Ytijhabpbdiamiaa.SeriesL
