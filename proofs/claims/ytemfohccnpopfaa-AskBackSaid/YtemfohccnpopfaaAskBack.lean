/-
  AskBack walked.
-/
import Derived.Test.YtemfohccnpopfaaAskSizes
namespace Go.Proofs.Ytemfohccnpopfaa.AskL
open Go.RowKit Base Pack _root_.Go.Proofs.Ytemfohccnpopfaa.Ask

set_option maxRecDepth 100000 in
set_option maxHeartbeats 8000000 in
theorem askBack_walk (a : Rq) (v0 : Value) (hsa : Sized a) (v1 : Value) (b : List UInt8) (w : World) (hI : In w a v0) (hJ : BytesIs w v1 b) :
    Calls Try.prog 5 #[v0, v1] w fun e w' => e = .returned (.bool true) ∧ Fr0 w w' := by
  obtain ⟨A, C, rfl, hP⟩ := hI
  have HBV := Lib.hid hJ
  obtain ⟨B, D, rfl⟩ := hJ.form
  have HP := Lib.hid hP
  have HSA := Lib.hid hsa
  have hla := hsa.2.1
  have hln := hsa.1
  have hst := size_str a.n
  have HA := Lib.hid (Boxed.new w (.slice A a.s.length C) a)
  have HF := Lib.hid ((Fr.refl (fun _ => False) w).alloc (.cells #[.int .i64 a.k, .string ⟨a.n.toArray⟩, .slice A a.s.length C, .int .i64 a.f, .int .i64 a.t, .int .i64 a.wn] 27))
  clear hP hsa hJ
  unfold rv
  go_enter Try.func5, Try.ntmps5
  go_wp2_with fail
  refine (awake_any _).mono ?_
  rintro e W1 ⟨rfl, hF1⟩
  have HA1 := Lib.hid (HA.out.fr0 hF1)
  have HF1 : Hid (Fr0 w W1) := Lib.hid (HF.out.trans' hF1)
  have c0 := HA1.out.cells.2.2.1
  have c1 := HA1.out.cells.2.1
  clear hF1 HF HA
  by_cases h60 : 60 < (a.s.length : Int)
  ·
    go_wp2
    go_ret
    exact ⟨rfl, HF1.out⟩
  ·
    by_cases h100 : 100 < (a.n.length : Int)
    ·
      go_wp2
      go_ret
      exact ⟨rfl, HF1.out⟩
    ·
      by_cases h1000 : 1000 < (b.length : Int)
      ·
        go_wp2
        go_ret
        exact ⟨rfl, HF1.out⟩
      ·
        have hput := pput_any A C a HSA.out.1 W1 (HP.out.fr0 HF1.out)
        go_wp2_with (refine wpList_load_row rfl 27 _ rfl w.heap.size rfl 27 _ (0, 0) _ HA1.out.heap Try.underlying27 rfl (by kernel_rfl) ?_)
        refine hput.mono ?_
        clear hput c0 c1
        rintro e W2 ⟨v2, rfl, hB2, hF2⟩
        have HFW := Lib.hid (HF1.out.trans' hF2)
        have HA2 := Lib.hid (HA1.out.fr0 hF2)
        clear hF2
        cases hga : good a with
        | false =>
          rw [(putErr_no hga).1]
          clear hga HA2 hB2
          have hget := pget_any _ b (by omega) W2 (HBV.out.fr0 HFW.out)
          go_wp2_with fail
          refine hget.mono ?_
          clear hget
          rintro e Wg ⟨Ag, Cg, rfl, hPg, hFg⟩
          obtain ⟨G, hG⟩ : ∃ G, G = getB b := ⟨_, rfl⟩
          rw [← hG] at hPg ⊢
          have HGB := Lib.hid hG
          obtain ⟨c, err⟩ := G
          simp only at hPg ⊢
          unfold rv
          have HFG := Lib.hid (HFW.out.trans' hFg)
          have HPG := Lib.hid hPg
          clear hG hPg hFg
          have hg4 := heap_alloc_new Wg (.cells #[.int .i64 0, .string ⟨#[]⟩, .slice none 0 0, .int .i64 0, .int .i64 0, .int .i64 0] 27)
          obtain ⟨Wk, hW4⟩ : ∃ W4, W4 = (Wg.alloc (.cells #[.int .i64 0, .string ⟨#[]⟩, .slice none 0 0, .int .i64 0, .int .i64 0, .int .i64 0] 27)).setRow Wg.heap.size #[.int .i64 c.k, .string ⟨c.n.toArray⟩, .slice Ag c.s.length Cg, .int .i64 c.f, .int .i64 c.t, .int .i64 c.wn] := ⟨_, rfl⟩
          have hr4 := setRow_heap _ Wg.heap.size _ #[.int .i64 c.k, .string ⟨c.n.toArray⟩, .slice Ag c.s.length Cg, .int .i64 c.f, .int .i64 c.t, .int .i64 c.wn] _ _ hg4
          rw [← hW4] at hr4
          have hf4 : Fr0 Wg Wk := by rw [hW4]; exact Fr.setRow ((Fr.refl _ _).alloc _) (fun h => absurd h (Nat.lt_irrefl _)) _
          have HRWk := Lib.hid hr4
          have HWWk := Lib.hid hW4
          have HGWk := Lib.hid hg4
          have HFK := Lib.hid hf4
          clear hg4 hW4 hr4 hf4
          have HFK := Lib.hid (HFG.out.trans' HFK.out)
          have HPK : Hid (PairsIs Wk (.slice Ag c.s.length Cg) c.s) := Lib.hid (HPG.out.fr0 (by have h1 := HWWk.out; rw [h1]; exact Fr.setRow ((Fr.refl _ _).alloc _) (fun h => absurd h (Nat.lt_irrefl _)) _))
          by_cases herr : err = 0
          · subst herr
            obtain ⟨hgc, hpc, hfc⟩ := put_get b c HGB.out.symm
            have hput := put_good Ag Cg c hgc Wk HPK.out
            rw [hpc] at hput
            have hnc := good_name hgc
            clear hfc
            go_wp2_with (first | (refine wpList_load_row rfl 27 _ rfl Wg.heap.size rfl 27 _ (0, 0) _ HRWk.out Try.underlying27 rfl (by kernel_rfl) ?_) | (refine wpList_store_row rfl 27 _ _ rfl Wg.heap.size #[.int .i64 c.k, .string ⟨c.n.toArray⟩, .slice Ag c.s.length Cg, .int .i64 c.f, .int .i64 c.t, .int .i64 c.wn] rfl rfl 27 _ HGWk.out infoAskP rfl (ask_one _ _ _ _ _ _ rfl) ?_; rw [← HWWk.out]))
            refine hput.mono ?_
            clear hput
            rintro e W5 ⟨A5, C5, rfl, hB5, hF5⟩
            have HF5 := Lib.hid (HFK.out.trans' hF5)
            have HB5 := Lib.hid hB5
            have HBV5 := Lib.hid (HBV.out.fr0 HF5.out)
            have HR5 := Lib.hid (hF5.heap HRWk.out (fun f => f))
            clear hF5 hB5
            have HGC := Lib.hid hgc
            clear hgc hpc
            have hcv1 := HB5.out.convert (P := Try.prog) 29 9 5 Try.underlying29 Try.underlying5 Try.underlying9
            have hcv2 := HBV5.out.convert (P := Try.prog) 29 9 5 Try.underlying29 Try.underlying5 Try.underlying9
            have l0 : W5.cell? ⟨Wg.heap.size, 0, none⟩ = some (.int .i64 c.k) := by rw [cell_of_row _ _ _ _ _ _ HR5.out]; rfl
            have l1 : W5.cell? ⟨Wg.heap.size, 1, none⟩ = some (.string ⟨c.n.toArray⟩) := by rw [cell_of_row _ _ _ _ _ _ HR5.out]; rfl
            have l2 : W5.cell? ⟨Wg.heap.size, 2, none⟩ = some (.slice Ag c.s.length Cg) := by rw [cell_of_row _ _ _ _ _ _ HR5.out]; rfl
            have l3 : W5.cell? ⟨Wg.heap.size, 3, none⟩ = some (.int .i64 c.f) := by rw [cell_of_row _ _ _ _ _ _ HR5.out]; rfl
            have l4 : W5.cell? ⟨Wg.heap.size, 4, none⟩ = some (.int .i64 c.t) := by rw [cell_of_row _ _ _ _ _ _ HR5.out]; rfl
            have l5 : W5.cell? ⟨Wg.heap.size, 5, none⟩ = some (.int .i64 c.wn) := by rw [cell_of_row _ _ _ _ _ _ HR5.out]; rfl
            go_wp2_with fail
            have hgd := pgood_any Ag Cg c (by omega) W5
            rw [HGC.out] at hgd
            refine hgd.mono ?_
            clear hgd l0 l1 l2 l3 l4 l5 hcv1 hcv2
            rintro e we ⟨rfl, hFe⟩
            have HFE := Lib.hid hFe
            clear hFe
            go_wp2
            go_ret
            exact ⟨by simp, HF5.out.trans' HFE.out⟩
          · have hne : (err != 0) = true := bne_iff_ne.2 herr
            go_wp2_with (refine wpList_store_row rfl 27 _ _ rfl Wg.heap.size #[.int .i64 c.k, .string ⟨c.n.toArray⟩, .slice Ag c.s.length Cg, .int .i64 c.f, .int .i64 c.t, .int .i64 c.wn] rfl rfl 27 _ HGWk.out infoAskP rfl (ask_one _ _ _ _ _ _ rfl) ?_; rw [← HWWk.out])
            go_ret
            exact ⟨rfl, HFK.out⟩
        | true =>
          rw [(putErr_ok hga).1]
          rw [(putErr_ok hga).2] at hB2
          have hget := pget_put v2 a hga HSA.out.2.2.1 W2 hB2
          obtain ⟨A2, C2, rfl⟩ := hB2.form
          have hna := good_name hga
          clear hB2
          go_wp2_with fail
          refine hget.mono ?_
          clear hget hga
          rintro e W3 ⟨A3, C3, rfl, hP3, hF3⟩
          unfold rv
          have HF3 := Lib.hid (HFW.out.trans' hF3)
          have HA3 := Lib.hid (HA2.out.fr0 hF3)
          have HP3 := Lib.hid hP3
          clear hP3 hF3
          have hg4 := heap_alloc_new W3 (.cells #[.int .i64 0, .string ⟨#[]⟩, .slice none 0 0, .int .i64 0, .int .i64 0, .int .i64 0] 27)
          obtain ⟨W4, hW4⟩ : ∃ W4, W4 = (W3.alloc (.cells #[.int .i64 0, .string ⟨#[]⟩, .slice none 0 0, .int .i64 0, .int .i64 0, .int .i64 0] 27)).setRow W3.heap.size #[.int .i64 a.k, .string ⟨a.n.toArray⟩, .slice A3 a.s.length C3, .int .i64 a.f, .int .i64 a.t, .int .i64 a.wn] := ⟨_, rfl⟩
          have hr4 := setRow_heap _ W3.heap.size _ #[.int .i64 a.k, .string ⟨a.n.toArray⟩, .slice A3 a.s.length C3, .int .i64 a.f, .int .i64 a.t, .int .i64 a.wn] _ _ hg4
          rw [← hW4] at hr4
          have hf4 : Fr0 W3 W4 := by rw [hW4]; exact Fr.setRow ((Fr.refl _ _).alloc _) (fun h => absurd h (Nat.lt_irrefl _)) _
          have HRW4 := Lib.hid hr4
          have HWW4 := Lib.hid hW4
          have HGW4 := Lib.hid hg4
          have HF4 := Lib.hid hf4
          clear hg4 hW4 hr4 hf4
          have HA4 := Lib.hid (HA3.out.fr0 HF4.out)
          have HP4 := Lib.hid (HP3.out.fr0 HF4.out)
          have HF4 := Lib.hid (HF3.out.trans' HF4.out)
          have HQ4 := Lib.hid (HP.out.fr0 HF4.out)
          have HH4 := Lib.hid HA4.out.heap
          go_wp2_with (refine wpList_store_row rfl 27 _ _ rfl W3.heap.size #[.int .i64 a.k, .string ⟨a.n.toArray⟩, .slice A3 a.s.length C3, .int .i64 a.f, .int .i64 a.t, .int .i64 a.wn] rfl rfl 27 _ HGW4.out infoAskP rfl (ask_one _ _ _ _ _ _ rfl) ?_; rw [← HWW4.out])
          refine Mix.law (fun X => Fr0 W4 X) [(.sure, 0), (.sure, 1), (.sure, 2), (.sure, 3), (.sure, 5), (.turn, 4), (.turn, 6), (.turn, 7), (.sure, 8), (.sure, 9)] (by kernel_rfl) (by kernel_rfl) (Fr.refl _ _).drew ?_
          simp only [List.map_cons, List.map_nil, Mix.nth_zero, Mix.nth_succ]
          have HDR := Lib.hid ((Fr.refl (fun _ => False) W4).drew)
          generalize W4.drew = wd at *
          repeat (first
            | (refine Mix.go_skipS (by exact Mix.wanted_no rfl rfl rfl rfl) ?_; go_frame)
            | (refine Mix.go_skipL (by exact Mix.wanted_no rfl rfl rfl rfl) ?_; go_frame)
            | (refine Mix.go_move (by first | exact Mix.wanted_none rfl | exact Mix.wanted_yes rfl rfl rfl) _ rfl _ (by first | (go_simp; done) | (go_simp; rfl)) ?_; go_frame)
            | (refine Mix.go_assign (by first | exact Mix.wanted_none rfl | exact Mix.wanted_yes rfl rfl rfl) _ rfl _ (by first | (go_simp; done) | (go_simp; rfl)) ?_; go_frame)
            | (refine Mix.go_sureW (by first | exact Mix.wanted_none rfl | exact Mix.wanted_yes rfl rfl rfl) _ (by rfl) (by rfl) _ (fun w' hC' => by go_wp2_with fail; refine Mix.stays ?_; go_frame; rfl) ?_; go_frame)
            | (refine Mix.go_lookW (by first | exact Mix.wanted_none rfl | exact Mix.wanted_yes rfl rfl rfl) _ (by rfl) (by rfl) _ (by go_wp2_with fail; refine Mix.stays ?_; go_frame; rfl) ?_; go_frame)
            | (refine Mix.go_sure_row (by first | exact Mix.wanted_none rfl | exact Mix.wanted_yes rfl rfl rfl) 27 _ rfl (w.heap.size) rfl 27 _ (0, 0) _ (fun w1 hC1 => hC1.heap HH4.out (fun f => f)) Try.underlying27 rfl (by kernel_rfl) ?_; go_frame)
            | (refine Mix.go_sure_row (by first | exact Mix.wanted_none rfl | exact Mix.wanted_yes rfl rfl rfl) 27 _ rfl (W3.heap.size) rfl 27 _ (0, 0) _ (fun w1 hC1 => hC1.heap HRW4.out (fun f => f)) Try.underlying27 rfl (by kernel_rfl) ?_; go_frame))
          refine Mix.go_turn ?_
          go_wp2_with fail
          refine (own_any A3 C3 a (by omega) wd (HP4.out.fr0 HDR.out)).mono ?_
          rintro e wa ⟨Aa, Ca, rfl, hPa, hFa⟩
          have HFA := Lib.hid (HDR.out.trans' hFa)
          have HPA := Lib.hid hPa
          clear hPa hFa
          go_wp2
          refine Mix.then_go HFA.out ?_
          refine Mix.go_turn ?_
          go_wp2_with fail
          refine (own_any A C a (by omega) wa (HQ4.out.fr0 HFA.out)).mono ?_
          rintro e wb ⟨Ab', Cb', rfl, hPb, hFb⟩
          have HFB := Lib.hid (HFA.out.trans' hFb)
          have HPB := Lib.hid hPb
          have HPA := Lib.hid (HPA.out.fr0 hFb)
          clear hPb hFb
          go_wp2
          refine Mix.then_go HFB.out ?_
          refine Mix.go_turn ?_
          go_wp2_with fail
          have hsm := same_any Aa Ab' Ca Cb' a a (by omega) wb HPA.out HPB.out
          rw [(sameQ_iff a a).2 rfl] at hsm
          refine hsm.mono ?_
          clear hsm
          rintro e wc' ⟨rfl, hFc⟩
          have HFC := Lib.hid (HFB.out.trans' hFc)
          have HFW := Lib.hid (HF4.out.trans' HFC.out)
          clear hFc
          go_wp2
          refine Mix.then_go HFC.out ?_
          repeat (first
            | (refine Mix.go_skipS (by exact Mix.wanted_no rfl rfl rfl rfl) ?_; go_frame)
            | (refine Mix.go_skipL (by exact Mix.wanted_no rfl rfl rfl rfl) ?_; go_frame)
            | (refine Mix.go_move (by first | exact Mix.wanted_none rfl | exact Mix.wanted_yes rfl rfl rfl) _ rfl _ (by first | (go_simp; done) | (go_simp; rfl)) ?_; go_frame)
            | (refine Mix.go_assign (by first | exact Mix.wanted_none rfl | exact Mix.wanted_yes rfl rfl rfl) _ rfl _ (by first | (go_simp; done) | (go_simp; rfl)) ?_; go_frame)
            | (refine Mix.go_sureW (by first | exact Mix.wanted_none rfl | exact Mix.wanted_yes rfl rfl rfl) _ (by rfl) (by rfl) _ (fun w' hC' => by go_wp2_with fail; refine Mix.stays ?_; go_frame; rfl) ?_; go_frame)
            | (refine Mix.go_lookW (by first | exact Mix.wanted_none rfl | exact Mix.wanted_yes rfl rfl rfl) _ (by rfl) (by rfl) _ (by go_wp2_with fail; refine Mix.stays ?_; go_frame; rfl) ?_; go_frame))
          refine Mix.go_end ?_
          have hget := pget_any _ b (by omega) wc' (HBV.out.fr0 HFW.out)
          go_wp2_with fail
          refine hget.mono ?_
          clear hget
          rintro e Wg ⟨Ag, Cg, rfl, hPg, hFg⟩
          obtain ⟨G, hG⟩ : ∃ G, G = getB b := ⟨_, rfl⟩
          rw [← hG] at hPg ⊢
          have HGB := Lib.hid hG
          obtain ⟨c, err⟩ := G
          simp only at hPg ⊢
          unfold rv
          have HFG := Lib.hid (HFW.out.trans' hFg)
          have HPG := Lib.hid hPg
          clear hG hPg hFg
          have hg4 := heap_alloc_new Wg (.cells #[.int .i64 0, .string ⟨#[]⟩, .slice none 0 0, .int .i64 0, .int .i64 0, .int .i64 0] 27)
          obtain ⟨Wk, hW4⟩ : ∃ W4, W4 = (Wg.alloc (.cells #[.int .i64 0, .string ⟨#[]⟩, .slice none 0 0, .int .i64 0, .int .i64 0, .int .i64 0] 27)).setRow Wg.heap.size #[.int .i64 c.k, .string ⟨c.n.toArray⟩, .slice Ag c.s.length Cg, .int .i64 c.f, .int .i64 c.t, .int .i64 c.wn] := ⟨_, rfl⟩
          have hr4 := setRow_heap _ Wg.heap.size _ #[.int .i64 c.k, .string ⟨c.n.toArray⟩, .slice Ag c.s.length Cg, .int .i64 c.f, .int .i64 c.t, .int .i64 c.wn] _ _ hg4
          rw [← hW4] at hr4
          have hf4 : Fr0 Wg Wk := by rw [hW4]; exact Fr.setRow ((Fr.refl _ _).alloc _) (fun h => absurd h (Nat.lt_irrefl _)) _
          have HRWk := Lib.hid hr4
          have HWWk := Lib.hid hW4
          have HGWk := Lib.hid hg4
          have HFK := Lib.hid hf4
          clear hg4 hW4 hr4 hf4
          have HFK := Lib.hid (HFG.out.trans' HFK.out)
          have HPK : Hid (PairsIs Wk (.slice Ag c.s.length Cg) c.s) := Lib.hid (HPG.out.fr0 (by have h1 := HWWk.out; rw [h1]; exact Fr.setRow ((Fr.refl _ _).alloc _) (fun h => absurd h (Nat.lt_irrefl _)) _))
          by_cases herr : err = 0
          · subst herr
            obtain ⟨hgc, hpc, hfc⟩ := put_get b c HGB.out.symm
            have hput := put_good Ag Cg c hgc Wk HPK.out
            rw [hpc] at hput
            have hnc := good_name hgc
            clear hfc
            go_wp2_with (first | (refine wpList_load_row rfl 27 _ rfl Wg.heap.size rfl 27 _ (0, 0) _ HRWk.out Try.underlying27 rfl (by kernel_rfl) ?_) | (refine wpList_store_row rfl 27 _ _ rfl Wg.heap.size #[.int .i64 c.k, .string ⟨c.n.toArray⟩, .slice Ag c.s.length Cg, .int .i64 c.f, .int .i64 c.t, .int .i64 c.wn] rfl rfl 27 _ HGWk.out infoAskP rfl (ask_one _ _ _ _ _ _ rfl) ?_; rw [← HWWk.out]))
            refine hput.mono ?_
            clear hput
            rintro e W5 ⟨A5, C5, rfl, hB5, hF5⟩
            have HF5 := Lib.hid (HFK.out.trans' hF5)
            have HB5 := Lib.hid hB5
            have HBV5 := Lib.hid (HBV.out.fr0 HF5.out)
            have HR5 := Lib.hid (hF5.heap HRWk.out (fun f => f))
            clear hF5 hB5
            have HGC := Lib.hid hgc
            clear hgc hpc
            have hcv1 := HB5.out.convert (P := Try.prog) 29 9 5 Try.underlying29 Try.underlying5 Try.underlying9
            have hcv2 := HBV5.out.convert (P := Try.prog) 29 9 5 Try.underlying29 Try.underlying5 Try.underlying9
            have l0 : W5.cell? ⟨Wg.heap.size, 0, none⟩ = some (.int .i64 c.k) := by rw [cell_of_row _ _ _ _ _ _ HR5.out]; rfl
            have l1 : W5.cell? ⟨Wg.heap.size, 1, none⟩ = some (.string ⟨c.n.toArray⟩) := by rw [cell_of_row _ _ _ _ _ _ HR5.out]; rfl
            have l2 : W5.cell? ⟨Wg.heap.size, 2, none⟩ = some (.slice Ag c.s.length Cg) := by rw [cell_of_row _ _ _ _ _ _ HR5.out]; rfl
            have l3 : W5.cell? ⟨Wg.heap.size, 3, none⟩ = some (.int .i64 c.f) := by rw [cell_of_row _ _ _ _ _ _ HR5.out]; rfl
            have l4 : W5.cell? ⟨Wg.heap.size, 4, none⟩ = some (.int .i64 c.t) := by rw [cell_of_row _ _ _ _ _ _ HR5.out]; rfl
            have l5 : W5.cell? ⟨Wg.heap.size, 5, none⟩ = some (.int .i64 c.wn) := by rw [cell_of_row _ _ _ _ _ _ HR5.out]; rfl
            go_wp2_with fail
            have hgd := pgood_any Ag Cg c (by omega) W5
            rw [HGC.out] at hgd
            refine hgd.mono ?_
            clear hgd l0 l1 l2 l3 l4 l5 hcv1 hcv2
            rintro e we ⟨rfl, hFe⟩
            have HFE := Lib.hid hFe
            clear hFe
            go_wp2
            go_ret
            exact ⟨by simp, HF5.out.trans' HFE.out⟩
          · have hne : (err != 0) = true := bne_iff_ne.2 herr
            go_wp2_with (refine wpList_store_row rfl 27 _ _ rfl Wg.heap.size #[.int .i64 c.k, .string ⟨c.n.toArray⟩, .slice Ag c.s.length Cg, .int .i64 c.f, .int .i64 c.t, .int .i64 c.wn] rfl rfl 27 _ HGWk.out infoAskP rfl (ask_one _ _ _ _ _ _ rfl) ?_; rw [← HWWk.out])
            go_ret
            exact ⟨rfl, HFK.out⟩
end Go.Proofs.Ytemfohccnpopfaa.AskL
