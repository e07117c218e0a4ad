/-
  SumTexts: two sums have the same text just if they are the same; a text that is read is written as it is.
-/
import Derived.Test.YtcdfflieooopjaaDoorSumWalk
import Derived.Test.YtcdfflieooopjaaDoorHeld
import Derived.Test.YtcdfflieooopjaaDoorArr
import Derived.Maps.RangeWalk
namespace Go.Proofs.YtcdfflieooopjaaDoor.Sha
open Go.RowKit Base

theorem hex_beq (a b : List UInt8) (h : a.length = b.length) : (hexText a == hexText b) = decide (a = b) := by
  rw [Bool.eq_iff_iff, beq_iff_eq, decide_eq_true_eq]
  exact ⟨hexText_inj a b h, fun e => by rw [e]⟩
theorem info23 : (Tryd.prog.info? 23).map (·.size) = some 32 := by kernel_rfl
theorem arr_info (l : List UInt8) (h : l.length = 32) : (Tryd.prog.info? 23).map (·.size) = some (bvals l).toArray.size := info23.trans (congrArg some (by simp [bvals, h]))
theorem sum_info (l : List UInt8) (h : l.length = 32) : (Tryd.prog.info? 24).map (·.size) = some (bvals l).toArray.size := info24.trans (congrArg some (by simp [bvals, h]))
set_option maxHeartbeats 1000000 in
set_option maxRecDepth 100000 in
theorem sumTexts_walk (la lb : List UInt8) (ha : la.length = 32) (hb : lb.length = 32) (t : List UInt8) (ht : t.length ≤ 9223372036854775807) (w : World) (hK : Rounds w) (hg : 1 < w.heap.size) :
    Calls Tryd.prog 6 #[.agg (bvals la).toArray, .agg (bvals lb).toArray, .string ⟨t.toArray⟩] w fun e w' => e = .returned (.bool true) ∧ Fr0 w w' := by
  have HK := Lib.hid hK
  clear hK
  generalize hA : (bvals la).toArray = A
  generalize hB : (bvals lb).toArray = B
  have hT : (⟨t.toArray⟩ : ByteArray).size = t.length := size_str t
  generalize hS : (⟨t.toArray⟩ : ByteArray) = S at *
  have HA := Lib.hid hA
  have HB := Lib.hid hB
  have HT := Lib.hid hT
  have HS := Lib.hid hS
  have hts : S.size ≤ 9223372036854775807 := by rw [hT]; exact ht
  clear hA hB hT hS
  by_cases h100 : 100 < S.size
  · go_enter Tryd.func6, Tryd.ntmps6
    go_wp2_with fail
    refine (awake_any _ (HK.out.fr (S := fun _ => False) (((Fr.refl _ _).alloc _).alloc _) (fun f => f)) (by simp)).mono ?_
    rintro e w1 ⟨rfl, hF1⟩
    have HF1 : Hid (Fr0 w w1) := Lib.hid (Fr.trans' (((Fr.refl _ _).alloc _).alloc _) hF1)
    clear hF1
    go_wp2
    go_ret
    exact ⟨rfl, HF1.out⟩
  · go_enter Tryd.func6, Tryd.ntmps6
    go_wp2_with fail
    refine (awake_any _ (HK.out.fr (S := fun _ => False) (((Fr.refl _ _).alloc _).alloc _) (fun f => f)) (by simp)).mono ?_
    rintro e w1 ⟨rfl, hF1⟩
    have HF1 : Hid (Fr0 w w1) := Lib.hid (Fr.trans' (((Fr.refl _ _).alloc _).alloc _) hF1)
    have HBA : Hid (w1.heap[w.heap.size]? = some (.cells A 23 (0, 0))) := Lib.hid (hF1.heap (heap_alloc2_old w _ _) (fun f => f))
    have HBB : Hid (w1.heap[w.heap.size + 1]? = some (.cells B 23 (0, 0))) := Lib.hid (hF1.heap (heap_alloc2_new w _ _) (fun f => f))
    clear hF1
    go_wp2_with fail
    have hpa := parse_any2 t w1 ht
    have hxl := parseList_length t
    have hyes : parseOk t = true → hexText (parseList t) = t := fun h => by unfold parseList; rw [if_pos h]; exact hexText_parsed t h
    rw [HS.out] at hpa
    generalize parseList t = x at *
    generalize parseOk t = ok at *
    have HYES := Lib.hid hyes
    have HXL := Lib.hid hxl
    refine hpa.mono ?_
    rintro e w2 ⟨rfl, hF2⟩
    have HF2 : Hid (Fr0 w w2) := Lib.hid (HF1.out.trans' hF2)
    have HBA2 := Lib.hid (hF2.heap HBA.out (fun f => f))
    have HBB2 := Lib.hid (hF2.heap HBB.out (fun f => f))
    clear hF2 HBA HBB hpa hyes hxl
    have hzi := sum_info x HXL.out
    have hz1 := all_oneCell_toArray (bvals_one x)
    have hxa : (bvals x).toArray.size = 32 := by simp [bvals, HXL.out]
    generalize hX : (bvals x).toArray = X at *
    have HX := Lib.hid hX
    have HZI := Lib.hid hzi
    have HZ1 := Lib.hid hz1
    have HZS := Lib.hid hxa
    clear hzi hz1 hxa hX
    have hzv := (zero_of_info (P := Tryd.prog) zero24).1
    go_wp2_with (refine wpList_store_row rfl 24 _ _ rfl w2.heap.size X rfl rfl 24 _ (heap_alloc_new w2 _) HZI.out (by rw [HZS.out]; rfl) HZ1.out ?_)
    go_name_world w3 hw3
    have HBX : Hid (w3.heap[w2.heap.size]? = some (.cells X 24 (0, 0))) := Lib.hid (by rw [← hw3]; exact setRow_heap _ _ _ _ _ _ (heap_alloc_new w2 _))
    have hF3 : Fr0 w2 w3 := by rw [← hw3]; exact ((Fr.refl _ _).alloc _).setRow (fun h => by omega) _
    have HF3 : Hid (Fr0 w w3) := Lib.hid (HF2.out.trans' hF3)
    have HBA3 := Lib.hid (hF3.heap HBA2.out (fun f => f))
    have HBB3 := Lib.hid (hF3.heap HBB2.out (fun f => f))
    clear hw3 hF3 HBA2 HBB2
    have HEQ : Hid (∀ wx : World, (Op.equalIn 10000 23 (.agg A) (.agg B)).run Tryd.prog wx = .ok (decide (la = lb)) wx) := Lib.hid (fun wx => by rw [← HA.out, ← HB.out]; exact eq_barr 9998 23 5 32 Tryd.underlying23 (by kernel_rfl) Tryd.underlying5 la lb ha hb wx)
    refine region_held (Fr0 w3) (by kernel_rfl) (by kernel_rfl) ((Fr.refl _ _).drew) ?_
    refine heldLoad 23 _ rfl w.heap.size rfl 23 A (0, 0) _ (fun wx h => h.heap HBA3.out (fun f => f)) Tryd.underlying23 rfl (by rw [← HA.out]; exact arr_info la ha) rfl ?_
    go_frame
    refine heldCall 20 #[.agg A] (.string ⟨(hexText la).toArray⟩) rfl (fun wx h => by go_simp) (fun wx h => (by rw [← HA.out]; exact (text_any la ha wx).mono fun e w' ⟨he, hf⟩ => ⟨he, h.trans' hf⟩)) ?_
    go_frame
    refine heldLoad 23 _ rfl (w.heap.size + 1) rfl 23 B (0, 0) _ (fun wx h => h.heap HBB3.out (fun f => f)) Tryd.underlying23 rfl (by rw [← HB.out]; exact arr_info lb hb) rfl ?_
    go_frame
    refine heldCall 20 #[.agg B] (.string ⟨(hexText lb).toArray⟩) rfl (fun wx h => by go_simp) (fun wx h => (by rw [← HB.out]; exact (text_any lb hb wx).mono fun e w' ⟨he, hf⟩ => ⟨he, h.trans' hf⟩)) ?_
    go_frame
    refine heldVal (.bool (decide (la = lb))) rfl (fun wx h => by go_simp; exact hex_beq la lb (ha.trans hb.symm)) ?_
    go_frame
    refine heldLoad 23 _ rfl w.heap.size rfl 23 A (0, 0) _ (fun wx h => h.heap HBA3.out (fun f => f)) Tryd.underlying23 rfl (by rw [← HA.out]; exact arr_info la ha) rfl ?_
    go_frame
    refine heldLoad 23 _ rfl (w.heap.size + 1) rfl 23 B (0, 0) _ (fun wx h => h.heap HBB3.out (fun f => f)) Tryd.underlying23 rfl (by rw [← HB.out]; exact arr_info lb hb) rfl ?_
    go_frame
    refine heldVal (.bool (decide (la = lb))) rfl (fun wx h => by have := HEQ.out wx; go_simp) ?_
    go_frame
    refine heldVal (.bool true) rfl (fun wx h => by go_simp) ?_
    go_frame
    refine heldVal (.bool true) rfl (fun wx h => by go_simp) ?_
    go_frame
    cases ok
    · refine heldVal (.bool false) rfl (fun wx h => by go_simp) ?_
      go_frame
      refine heldVal (.bool true) rfl (fun wx h => by go_simp) ?_
      go_frame
      refine heldVal (.bool true) rfl (fun wx h => by go_simp) ?_
      go_frame
      refine heldSkip rfl ?_
      go_frame
      refine heldSkip rfl ?_
      go_frame
      refine heldSkip rfl ?_
      go_frame
      refine heldSkip rfl ?_
      go_frame
      refine heldVal (.bool true) rfl (fun wx h => by go_simp) ?_
      go_frame
      refine heldVal (.bool true) rfl (fun wx h => by go_simp) ?_
      go_frame
      refine heldVal (.bool true) rfl (fun wx h => by go_simp) ?_
      go_frame
      refine wpQuiet_nil ?_
      intro w4 hw4
      go_wp2
      go_ret
      exact ⟨rfl, HF3.out.trans' hw4⟩
    · refine heldVal (.bool true) rfl (fun wx h => by go_simp) ?_
      go_frame
      refine heldVal (.bool false) rfl (fun wx h => by go_simp) ?_
      go_frame
      refine heldVal (.bool false) rfl (fun wx h => by go_simp) ?_
      go_frame
      refine heldLoad 24 _ rfl w2.heap.size rfl 24 X (0, 0) _ (fun wx h => h.heap HBX.out (fun f => f)) Tryd.underlying24 rfl HZI.out rfl ?_
      go_frame
      refine heldCall 20 #[.agg X] (.string S) rfl (fun wx h => by go_simp) (fun wx h => (by rw [← HX.out, ← HS.out, ← HYES.out rfl]; exact (text_any x HXL.out wx).mono fun e w' ⟨he, hf⟩ => ⟨he, h.trans' hf⟩)) ?_
      go_frame
      refine heldVal (.string S) rfl (fun wx h => by go_simp) ?_
      go_frame
      refine heldVal (.bool true) rfl (fun wx h => by go_simp) ?_
      go_frame
      refine heldVal (.bool true) rfl (fun wx h => by go_simp) ?_
      go_frame
      refine heldVal (.bool true) rfl (fun wx h => by go_simp) ?_
      go_frame
      refine heldVal (.bool true) rfl (fun wx h => by go_simp) ?_
      go_frame
      refine wpQuiet_nil ?_
      intro w4 hw4
      go_wp2
      go_ret
      exact ⟨rfl, HF3.out.trans' hw4⟩
end Go.Proofs.YtcdfflieooopjaaDoor.Sha
