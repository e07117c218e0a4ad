/-
  SumSays: any bytes, any text: as the document says: the walk.
-/
import Derived.Test.YtcdfflieooopjaaDoorSumSaysR
import Derived.Test.YtcdfflieooopjaaDoorSumTexts
import Derived.Test.YtcdfflieooopjaaDoorRefText
import Derived.Test.YtcdfflieooopjaaDoorRefParse
import Derived.Deep.DeepCutAuto
namespace Go.Proofs.YtcdfflieooopjaaDoor.Sha
open Go.RowKit Base

theorem hex_ok16 : ∀ k : Fin 16, hok (hexd k.val).toNat = true := by decide +kernel
theorem hex_ok (d : List UInt8) : ∀ x ∈ hexText d, hok x.toNat = true := by
  intro x hx
  simp only [hexText, List.mem_flatMap, hexOf, List.mem_cons, List.not_mem_nil, or_false] at hx
  obtain ⟨u, _, rfl | rfl⟩ := hx
  · exact hex_ok16 ⟨u.toNat / 16, by have := u.toNat_lt; omega⟩
  · exact hex_ok16 ⟨u.toNat % 16, by omega⟩
theorem parseOk_hex (d : List UInt8) (hd : d.length = 32) : parseOk (hexText d) = true := by
  have hl := hexText_length d
  unfold parseOk
  rw [Bool.and_eq_true, beq_iff_eq, List.all_eq_true]
  refine ⟨by omega, fun i hi => ?_⟩
  have hi := List.mem_range.1 hi
  unfold chk
  refine hex_ok d _ ?_
  rw [List.getD_eq_getElem?_getD, List.getElem?_eq_getElem (by omega)]
  exact List.getElem_mem _
theorem parseList_hex (d : List UInt8) (hd : d.length = 32) : parseList (hexText d) = d := by
  have h := parseOk_hex d hd
  have hl := parseList_length (hexText d)
  refine hexText_inj _ _ (by omega) ?_
  unfold parseList
  rw [if_pos h]
  exact hexText_parsed _ h
theorem eSelf (l : List UInt8) (hl : l.length = 32) (wx : World) : (Op.equalIn 10000 23 (.agg (bvals l).toArray) (.agg (bvals l).toArray)).run Tryd.prog wx = .ok true wx := by
  have := eq_barr (P := Tryd.prog) 9998 23 5 32 Tryd.underlying23 (by kernel_rfl) Tryd.underlying5 l l hl hl wx
  simp only [decide_true] at this
  exact this
set_option maxHeartbeats 2000000 in
set_option maxRecDepth 100000 in
theorem sumSays_walk (v0 v1 : Value) (b c : List UInt8) (hb : b.length ≤ 9223372036854775807) (hc : c.length ≤ 9223372036854775807) (s : List UInt8) (hs : s.length = 32) (t : List UInt8) (ht : t.length ≤ 9223372036854775807) (w : World) (hA : BytesIs w v0 b) (hB : BytesIs w v1 c)
    (hK : Rounds w) (hg : 1 < w.heap.size) :
    Calls Tryd.prog 4 #[v0, v1, .agg (bvals s).toArray, .string ⟨t.toArray⟩] w fun e w' => e = .returned (.bool true) ∧ Fr0 w w' := by
  have HA := Lib.hid hA
  have HB := Lib.hid hB
  have HK := Lib.hid hK
  obtain ⟨a0, cap0, _, _, rfl, _⟩ := hA
  obtain ⟨a1, cap1, _, _, rfl, _⟩ := hB
  obtain ⟨SA, hSA⟩ : ∃ SA, SA = (bvals s).toArray := ⟨_, rfl⟩
  obtain ⟨S, hS⟩ : ∃ S, S = (⟨t.toArray⟩ : ByteArray) := ⟨_, rfl⟩
  rw [← hSA, ← hS]
  have HSA := Lib.hid hSA
  have HS := Lib.hid hS
  have HLS := Lib.hid hs
  clear hK hSA hs hS
  have HK1 : Hid (Rounds (w.alloc (.cells SA 23))) := Lib.hid (HK.out.fr (S := fun _ => False) ((Fr.refl _ _).alloc _) (fun f => f))
  by_cases hbad : 2000 < b.length ∨ 2000 < c.length
  · have HD := Lib.hid hbad
    clear hbad
    go_enter Tryd.func4, Tryd.ntmps4
    go_wp2_with fail
    refine (awake_any _ HK1.out (by simp; try omega)).mono ?_
    rintro e w1 ⟨rfl, hF1⟩
    have HF1 : Hid (Fr0 w w1) := Lib.hid (Fr.trans' ((Fr.refl _ _).alloc _) hF1)
    clear hF1
    by_cases h1 : 2000 < b.length
    · go_wp2
      go_ret
      exact ⟨rfl, HF1.out⟩
    · have h2 : 2000 < c.length := by have := HD.out; omega
      go_wp2
      go_ret
      exact ⟨rfl, HF1.out⟩
  · have h1 : ¬ 2000 < b.length := by omega
    have h2 : ¬ 2000 < c.length := by omega
    clear hbad
    have hz2 := (zero_of_info (P := Tryd.prog) zero24).1
    have hz3 := (zero_of_info (P := Tryd.prog) zero23z).1
    rw [show zeroDig = Array.replicate 32 (Value.int .u8 0) from rfl] at hz3
    generalize hZ : (Array.replicate 32 (Value.int .u8 0)) = Z at hz2 hz3
    have HZ : Hid (Z.size = 32) := Lib.hid (by rw [← hZ]; simp)
    clear hZ
    go_enter Tryd.func4, Tryd.ntmps4
    go_wp2_with fail
    refine (awake_any _ HK1.out (by simp; try omega)).mono ?_
    rintro e w1 ⟨rfl, hF1⟩
    have HF1 : Hid (Fr0 w w1) := Lib.hid (Fr.trans' ((Fr.refl _ _).alloc _) hF1)
    have HS1 : Hid (w1.heap[w.heap.size]? = some (.cells SA 23 (0, 0))) := Lib.hid (hF1.heap (heap_alloc_new w _) (fun f => f))
    clear hF1
    have hpl := parseList_length t
    obtain ⟨X, hX⟩ : ∃ X, X = (bvals (parseList t)).toArray := ⟨_, rfl⟩
    have HXI : Hid ((Tryd.prog.info? 24).map (·.size) = some X.size) := Lib.hid (by rw [hX]; exact sum_info _ hpl)
    have HXI3 : Hid ((Tryd.prog.info? 23).map (·.size) = some X.size) := Lib.hid (by rw [hX]; exact arr_info _ hpl)
    have HSI : Hid ((Tryd.prog.info? 24).map (·.size) = some SA.size) := Lib.hid (by rw [HSA.out]; exact sum_info _ HLS.out)
    have HSI3 : Hid ((Tryd.prog.info? 23).map (·.size) = some SA.size) := Lib.hid (by rw [HSA.out]; exact arr_info _ HLS.out)
    have HXS : Hid (Z.size = X.size) := Lib.hid (by rw [HZ.out, hX]; simp [bvals_length, hpl])
    have HSS : Hid (Z.size = SA.size) := Lib.hid (by rw [HZ.out, HSA.out]; simp [bvals_length, HLS.out])
    have HX1 : Hid (X.all (·.oneCell') = true) := Lib.hid (by rw [hX]; exact all_oneCell_toArray (bvals_one _))
    have HS11 : Hid (SA.all (·.oneCell') = true) := Lib.hid (by rw [HSA.out]; exact all_oneCell_toArray (bvals_one _))
    obtain ⟨ok, hok⟩ : ∃ ok, ok = parseOk t := ⟨_, rfl⟩
    have HXE := Lib.hid hX
    have HPL := Lib.hid hpl
    have pa : ∀ W, Calls Tryd.prog 19 #[.string S] W fun e w' => e = .returned (.tuple #[.agg X, .bool ok]) ∧ Fr0 W w' := fun W => by rw [HS.out, hX, hok]; exact parse_any2 t W ht
    have pr : ∀ W, Calls Tryd.prog 21 #[.string S] W fun e w' => e = .returned (.tuple #[.agg X, .bool ok]) ∧ Fr0 W w' := fun W => by rw [HS.out, hX, hok]; exact refParse_any t W ht
    have PA := Lib.hid pa
    have PR := Lib.hid pr
    clear hX hpl hok pa pr
    go_wp2_with fail
    refine (PA.out _).mono ?_
    rintro e w2 ⟨rfl, hF2⟩
    have HF2 : Hid (Fr0 w w2) := Lib.hid (HF1.out.trans' hF2)
    have HS2 : Hid (w2.heap[w.heap.size]? = some (.cells SA 23 (0, 0))) := Lib.hid (hF2.heap HS1.out (fun f => f))
    clear hF2
    go_upto_region 6 with (refine wpList_store_new rfl 24 _ _ rfl w2.heap.size rfl X rfl rfl 24 _ HXI.out HXS.out HX1.out ?_)
    go_name_world w3 hw3
    have HG9 : Hid (w3.heap[w2.heap.size]? = some (.cells X 24 (0, 0))) := Lib.hid (by rw [← hw3]; exact heap_alloc_new w2 _)
    have HF3 : Hid (Fr0 w2 w3) := Lib.hid (by rw [← hw3]; exact (Fr.refl _ _).alloc _)
    clear hw3
    go_wp2_with fail
    refine (PR.out _).mono ?_
    rintro e w4 ⟨rfl, hF4⟩
    have HF4 : Hid (Fr0 w3 w4) := Lib.hid hF4
    clear hF4
    go_upto_region 7 with (refine wpList_store_new rfl 23 _ _ rfl w4.heap.size rfl X rfl rfl 23 _ HXI3.out HXS.out HX1.out ?_)
    go_name_world w5 hw5
    have HG11 : Hid (w5.heap[w4.heap.size]? = some (.cells X 23 (0, 0))) := Lib.hid (by rw [← hw5]; exact heap_alloc_new w4 _)
    have HF5 : Hid (Fr0 w4 w5) := Lib.hid (by rw [← hw5]; exact (Fr.refl _ _).alloc _)
    clear hw5
    have HS5 : Hid (w5.heap[w.heap.size]? = some (.cells SA 23 (0, 0))) := Lib.hid (HF5.out.heap (HF4.out.heap (HF3.out.heap HS2.out (fun f => f)) (fun f => f)) (fun f => f))
    have tx : ∀ W, Calls Tryd.prog 20 #[.agg SA] W fun e w' => e = .returned (.string ⟨(hexText s).toArray⟩) ∧ Fr0 W w' := fun W => by rw [HSA.out]; exact text_any s HLS.out W
    have rtx : ∀ W, Calls Tryd.prog 23 #[.agg SA] W fun e w' => e = .returned (.string ⟨(hexText s).toArray⟩) ∧ Fr0 W w' := fun W => by rw [HSA.out]; exact refText_any s HLS.out W
    have ptx : ∀ W, Calls Tryd.prog 19 #[.string ⟨(hexText s).toArray⟩] W fun e w' => e = .returned (.tuple #[.agg SA, .bool true]) ∧ Fr0 W w' := fun W => by
      have := parse_any2 (hexText s) W (by rw [hexText_length, HLS.out]; decide)
      rw [parseList_hex s HLS.out, parseOk_hex s HLS.out, ← HSA.out] at this
      exact this
    have TX := Lib.hid tx
    have RTX := Lib.hid rtx
    have PTX := Lib.hid ptx
    clear tx rtx ptx
    generalize (⟨(hexText s).toArray⟩ : ByteArray) = T at *
    go_wp2_with (refine wpList_load_row rfl 23 _ rfl w.heap.size rfl 23 SA (0, 0) _ HS5.out Tryd.underlying23 rfl HSI3.out ?_)
    refine (TX.out _).mono ?_
    rintro e w6 ⟨rfl, hF6⟩
    have HF6 : Hid (Fr0 w5 w6) := Lib.hid hF6
    clear hF6
    go_wp2_with fail
    refine (PTX.out _).mono ?_
    rintro e w7 ⟨rfl, hF7⟩
    have HF7 : Hid (Fr0 w5 w7) := Lib.hid (HF6.out.trans' hF7)
    clear hF7
    go_upto_region 8 with (refine wpList_store_new rfl 24 _ _ rfl w7.heap.size rfl SA rfl rfl 24 _ HSI.out HSS.out HS11.out ?_)
    go_name_world w8 hw8
    have HG13 : Hid (w8.heap[w7.heap.size]? = some (.cells SA 24 (0, 0))) := Lib.hid (by rw [← hw8]; exact heap_alloc_new w7 _)
    have HF8 : Hid (Fr0 w5 w8) := Lib.hid (by rw [← hw8]; exact HF7.out.alloc _)
    clear hw8
    have HF8w : Hid (Fr0 w w8) := Lib.hid (HF2.out.trans' (HF3.out.trans' (HF4.out.trans' (HF5.out.trans' HF8.out))))
    refine Base.C.ss_region (w := w) (b := b) (c := c) (D := digArr (b ++ c)) (X := X) (A := SA) (T := T) (k := ok) (g6 := w.heap.size) (g9 := w2.heap.size) (g11 := w4.heap.size) (g13 := w7.heap.size) (V0 := .slice a0 b.length cap0) (V1 := .slice a1 c.length cap1) ?_ ?_
    · refine ⟨rfl, by omega, by omega, rfl, rfl, rfl, rfl, rfl, rfl, rfl, rfl, rfl, HF8w.out, ?_, ?_, HF8.out.heap HS5.out (fun f => f), HF8.out.heap (HF5.out.heap (HF4.out.heap HG9.out (fun f => f)) (fun f => f)) (fun f => f), HF8.out.heap HG11.out (fun f => f), HG13.out, HSI3.out, HSI.out, HXI.out, HXI3.out, ?_, ?_, ?_, ?_, ?_, fun W => TX.out W, fun W => RTX.out W⟩
      · exact HA.out.fr0 HF8w.out.drew
      · exact HB.out.fr0 HF8w.out.drew
      · exact eSelf _ (digest_length _)
      · rw [HXE.out]; exact eSelf _ HPL.out
      · rw [HSA.out]; exact eSelf _ HLS.out
      · intro W v hF hP
        have := of_any v [b, c] W hP (HK.out.fr hF (fun f => f)) (Nat.lt_of_lt_of_le hg hF.size) (by simp; omega)
        rw [show [b, c].flatten = b ++ c from by simp] at this
        exact this
      · intro W v hP
        exact refSum_any v (b ++ c) (by rw [List.length_append]; omega) W hP
    intro a' w9 hF9 hdf h0
    have hF : Fr0 w w9 := HF8w.out.trans' hF9
    go_wp2
    exact bodyPost_ret (results_tmp rfl a'.tmps Tryd.prog w9) hdf ⟨congrArg Ending.returned h0, hF⟩
end Go.Proofs.YtcdfflieooopjaaDoor.Sha
