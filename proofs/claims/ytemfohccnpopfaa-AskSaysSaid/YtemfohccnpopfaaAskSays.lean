/-
  AskSays walked.
-/
import Derived.Test.YtemfohccnpopfaaAskSizes
import Derived.Test.YtemfohccnpopfaaAskRefGetW
namespace Go.Proofs.Ytemfohccnpopfaa.AskL
open Go.RowKit Base Pack _root_.Go.Proofs.Ytemfohccnpopfaa.Ask

theorem get_small (b : List UInt8) : (getB b).1.s.length ≤ 16 ∧ ((getB b).1.n.length ≤ 16) := by
  by_cases h : (getB b).2 = 0
  · obtain ⟨hg, _, _⟩ := put_get b (getB b).1 (by rw [← h])
    have h1 := good_kind hg
    have h2 := good_name hg
    rcases h1 with ⟨_, _, h3, _⟩ | ⟨_, h3, _⟩
    · exact ⟨h3, h2.2⟩
    · exact ⟨by rw [h3]; simp, h2.2⟩
  · rw [getB_err b h]
    exact ⟨by simp [zero], by simp [zero]⟩
set_option maxRecDepth 100000 in
set_option maxHeartbeats 8000000 in
theorem askSays_walk (a : Rq) (v0 : Value) (hsa : Sized a) (v1 : Value) (b s : List UInt8) (hls : s.length ≤ 9223372036854775807) (w : World) (hI : In w a v0) (hJ : BytesIs w v1 b) :
    Calls Try.prog 4 #[v0, v1, .string ⟨s.toArray⟩] w fun e w' => e = .returned (.bool true) ∧ Fr0 w w' := by
  obtain ⟨A, C, rfl, hP⟩ := hI
  have HBV := Lib.hid hJ
  obtain ⟨B, D, rfl⟩ := hJ.form
  have HP := Lib.hid hP
  have HSA := Lib.hid hsa
  have hla := hsa.2.1
  have hln := hsa.1
  have hst := size_str a.n
  have hss := size_str s
  have HA := Lib.hid (Boxed.new w (.slice A a.s.length C) a)
  have HF := Lib.hid ((Fr.refl (fun _ => False) w).alloc (.cells #[.int .i64 a.k, .string ⟨a.n.toArray⟩, .slice A a.s.length C, .int .i64 a.f, .int .i64 a.t, .int .i64 a.wn] 27))
  clear hP hsa hJ
  unfold rv
  go_enter Try.func4, Try.ntmps4
  go_wp2_with fail
  refine (awake_any _).mono ?_
  rintro e W1 ⟨rfl, hF1⟩
  have HA1 := Lib.hid (HA.out.fr0 hF1)
  have HF1 : Hid (Fr0 w W1) := Lib.hid (HF.out.trans' hF1)
  have c0 := HA1.out.cells.2.2.1
  have c1 := HA1.out.cells.2.1
  clear hF1 HF HA
  by_cases h60 : 60 < (a.s.length : Int)
  ·
    go_wp2
    go_ret
    exact ⟨rfl, HF1.out⟩
  ·
    by_cases h100 : 100 < (a.n.length : Int)
    ·
      go_wp2
      go_ret
      exact ⟨rfl, HF1.out⟩
    ·
      by_cases h1000 : 1000 < (b.length : Int)
      ·
        go_wp2
        go_ret
        exact ⟨rfl, HF1.out⟩
      ·
        by_cases hs100 : 100 < (s.length : Int)
        ·
          go_wp2
          go_ret
          exact ⟨rfl, HF1.out⟩
        ·
          have hput := pput_any A C a HSA.out.1 W1 (HP.out.fr0 HF1.out)
          go_wp2_with (refine wpList_load_row rfl 27 _ rfl w.heap.size rfl 27 _ (0, 0) _ HA1.out.heap Try.underlying27 rfl (by kernel_rfl) ?_)
          refine hput.mono ?_
          clear hput c0 c1
          rintro e W2 ⟨v2, rfl, hB2, hF2⟩
          have HF2 := Lib.hid (HF1.out.trans' hF2)
          have HA2 := Lib.hid (HA1.out.fr0 hF2)
          have HX2 := Lib.hid hB2
          obtain ⟨A2, C2, rfl⟩ := hB2.form
          clear hF2 hB2 HA1
          go_wp2_with (refine wpList_load_row rfl 27 _ rfl w.heap.size rfl 27 _ (0, 0) _ HA2.out.heap Try.underlying27 rfl (by kernel_rfl) ?_)
          refine (own_any A C a (by omega) W2 (HP.out.fr0 HF2.out)).mono ?_
          rintro e W3 ⟨A3, C3, rfl, hP3, hF3⟩
          have HF3 := Lib.hid (HF2.out.trans' hF3)
          have HA3 := Lib.hid (HA2.out.fr0 hF3)
          have HX3 := Lib.hid (HX2.out.fr0 hF3)
          have hrp := rput_any A3 C3 a HSA.out.1 W3 hP3
          clear hP3 hF3 HA2 HX2
          go_wp2_with fail
          refine hrp.mono ?_
          clear hrp
          rintro e W4 ⟨v4, rfl, hB4, hF4⟩
          have HF4 := Lib.hid (HF3.out.trans' hF4)
          have HA4 := Lib.hid (HA3.out.fr0 hF4)
          have HX4 := Lib.hid (HX3.out.fr0 hF4)
          have HY4 := Lib.hid hB4
          obtain ⟨A4, C4, rfl⟩ := hB4.form
          clear hF4 hB4 HA3 HX3
          have hget := pget_any _ b (by omega) W4 (HBV.out.fr0 HF4.out)
          have hsm := get_small b
          have hrg := fun w h => rget_any (.slice B b.length D) b (by omega) w h
          unfold GetPost at hget hrg
          generalize getB b = G at *
          obtain ⟨c, err⟩ := G
          simp only at hget hrg hsm
          have HRG := Lib.hid hrg
          obtain ⟨hcs, hcn⟩ := hsm
          have hcst := size_str c.n
          clear hrg
          go_wp2_with fail
          refine hget.mono ?_
          clear hget
          rintro e W5 ⟨A5, C5, rfl, hP5, hF5⟩
          unfold rv
          have HF5 := Lib.hid (HF4.out.trans' hF5)
          have HA5 := Lib.hid (HA4.out.fr0 hF5)
          have HX5 := Lib.hid (HX4.out.fr0 hF5)
          have HY5 := Lib.hid (HY4.out.fr0 hF5)
          have HP5 := Lib.hid hP5
          clear hP5 hF5 HA4 HX4 HY4
          have hg4 := heap_alloc_new W5 (.cells #[.int .i64 0, .string ⟨#[]⟩, .slice none 0 0, .int .i64 0, .int .i64 0, .int .i64 0] 27)
          obtain ⟨W6, hW4⟩ : ∃ W4, W4 = (W5.alloc (.cells #[.int .i64 0, .string ⟨#[]⟩, .slice none 0 0, .int .i64 0, .int .i64 0, .int .i64 0] 27)).setRow W5.heap.size #[.int .i64 c.k, .string ⟨c.n.toArray⟩, .slice A5 c.s.length C5, .int .i64 c.f, .int .i64 c.t, .int .i64 c.wn] := ⟨_, rfl⟩
          have hr4 := setRow_heap _ W5.heap.size _ #[.int .i64 c.k, .string ⟨c.n.toArray⟩, .slice A5 c.s.length C5, .int .i64 c.f, .int .i64 c.t, .int .i64 c.wn] _ _ hg4
          rw [← hW4] at hr4
          have hf4 : Fr0 W5 W6 := by rw [hW4]; exact Fr.setRow ((Fr.refl _ _).alloc _) (fun h => absurd h (Nat.lt_irrefl _)) _
          have HRW6 := Lib.hid hr4
          have HWW6 := Lib.hid hW4
          have HGW6 := Lib.hid hg4
          have HFK6 := Lib.hid hf4
          clear hg4 hW4 hr4 hf4
          have HF6 := Lib.hid (HF5.out.trans' HFK6.out)
          have HA6 := Lib.hid (HA5.out.fr0 HFK6.out)
          have HX6 := Lib.hid (HX5.out.fr0 HFK6.out)
          have HY6 := Lib.hid (HY5.out.fr0 HFK6.out)
          have HP6 := Lib.hid (HP5.out.fr0 HFK6.out)
          clear HFK6 HA5 HX5 HY5 HP5
          have hrg := HRG.out W6 (HBV.out.fr0 HF6.out)
          clear HRG
          go_wp2_with (refine wpList_store_row rfl 27 _ _ rfl W5.heap.size #[.int .i64 c.k, .string ⟨c.n.toArray⟩, .slice A5 c.s.length C5, .int .i64 c.f, .int .i64 c.t, .int .i64 c.wn] rfl rfl 27 _ HGW6.out infoAskP rfl (ask_one _ _ _ _ _ _ rfl) ?_; rw [← HWW6.out])
          refine hrg.mono ?_
          clear hrg
          rintro e W7 ⟨A7, C7, rfl, hP7, hF7⟩
          unfold rv
          have HF7 := Lib.hid (HF6.out.trans' hF7)
          have HA7 := Lib.hid (HA6.out.fr0 hF7)
          have HX7 := Lib.hid (HX6.out.fr0 hF7)
          have HY7 := Lib.hid (HY6.out.fr0 hF7)
          have HP7 := Lib.hid (HP6.out.fr0 hF7)
          have HQ7 := Lib.hid hP7
          have HRW7 := Lib.hid (hF7.heap HRW6.out (fun f => f))
          clear hP7 hF7 HA6 HX6 HY6 HP6 HRW6
          have hg4 := heap_alloc_new W7 (.cells #[.int .i64 0, .string ⟨#[]⟩, .slice none 0 0, .int .i64 0, .int .i64 0, .int .i64 0] 40)
          obtain ⟨W8, hW4⟩ : ∃ W4, W4 = (W7.alloc (.cells #[.int .i64 0, .string ⟨#[]⟩, .slice none 0 0, .int .i64 0, .int .i64 0, .int .i64 0] 40)).setRow W7.heap.size #[.int .i64 c.k, .string ⟨c.n.toArray⟩, .slice A7 c.s.length C7, .int .i64 c.f, .int .i64 c.t, .int .i64 c.wn] := ⟨_, rfl⟩
          have hr4 := setRow_heap _ W7.heap.size _ #[.int .i64 c.k, .string ⟨c.n.toArray⟩, .slice A7 c.s.length C7, .int .i64 c.f, .int .i64 c.t, .int .i64 c.wn] _ _ hg4
          rw [← hW4] at hr4
          have hf4 : Fr0 W7 W8 := by rw [hW4]; exact Fr.setRow ((Fr.refl _ _).alloc _) (fun h => absurd h (Nat.lt_irrefl _)) _
          have HRW8 := Lib.hid hr4
          have HWW8 := Lib.hid hW4
          have HGW8 := Lib.hid hg4
          have HFK8 := Lib.hid hf4
          clear hg4 hW4 hr4 hf4
          have HF8 := Lib.hid (HF7.out.trans' HFK8.out)
          have HX8 := Lib.hid (HX7.out.fr0 HFK8.out)
          have HY8 := Lib.hid (HY7.out.fr0 HFK8.out)
          have HP8 := Lib.hid (HP7.out.fr0 HFK8.out)
          have HQ8 := Lib.hid (HQ7.out.fr0 HFK8.out)
          have HH8 := Lib.hid (HA7.out.fr0 HFK8.out).heap
          have HRP8 := Lib.hid (HFK8.out.heap HRW7.out (fun f => f))
          have HPA8 := Lib.hid (HP.out.fr0 HF8.out)
          clear HFK8 HA7 HX7 HY7 HP7 HQ7 HRW7
          go_wp2_with (refine wpList_store_row rfl 40 _ _ rfl W7.heap.size #[.int .i64 c.k, .string ⟨c.n.toArray⟩, .slice A7 c.s.length C7, .int .i64 c.f, .int .i64 c.t, .int .i64 c.wn] rfl rfl 40 _ HGW8.out infoAsk rfl (ask_one _ _ _ _ _ _ rfl) ?_; rw [← HWW8.out])
          clear HWW8 HGW8
          generalize putOut a = x at *
          generalize putErr a = pe at *
          refine Mix.law (fun X => Fr0 W8 X) [(.sure, 0), (.sure, 2), (.turn, 1), (.turn, 3), (.turn, 4), (.sure, 5), (.sure, 6), (.sure, 7), (.sure, 8), (.sure, 9), (.sure, 10), (.sure, 11), (.sure, 12), (.sure, 13), (.sure, 14), (.sure, 15), (.sure, 16), (.sure, 17), (.sure, 18), (.sure, 19), (.sure, 21), (.turn, 20), (.turn, 22), (.sure, 23), (.sure, 24), (.sure, 25), (.sure, 26), (.sure, 27), (.sure, 28), (.sure, 29), (.sure, 30), (.sure, 32), (.turn, 31), (.turn, 33), (.sure, 34), (.sure, 35), (.sure, 36)] (by kernel_rfl) (by kernel_rfl) (Fr.refl _ _).drew ?_
          simp only [List.map_cons, List.map_nil, Mix.nth_zero, Mix.nth_succ]
          have HDR := Lib.hid ((Fr.refl (fun _ => False) W8).drew)
          generalize W8.drew = wd at *
          repeat (first
            | (refine Mix.go_skipS (by exact Mix.wanted_no rfl rfl rfl rfl) ?_; go_frame)
            | (refine Mix.go_skipL (by exact Mix.wanted_no rfl rfl rfl rfl) ?_; go_frame)
            | (refine Mix.go_move (by first | exact Mix.wanted_none rfl | exact Mix.wanted_yes rfl rfl rfl) _ rfl _ (by first | (go_simp; done) | (go_simp; rfl)) ?_; go_frame)
            | (refine Mix.go_assign (by first | exact Mix.wanted_none rfl | exact Mix.wanted_yes rfl rfl rfl) _ rfl _ (by first | (go_simp; done) | (go_simp; rfl)) ?_; go_frame)
            | (refine Mix.go_sureW (by first | exact Mix.wanted_none rfl | exact Mix.wanted_yes rfl rfl rfl) _ (by rfl) (by rfl) _ (fun w' hC' => by go_wp2_with fail; refine Mix.stays ?_; go_frame; rfl) ?_; go_frame)
            | (refine Mix.go_lookW (by first | exact Mix.wanted_none rfl | exact Mix.wanted_yes rfl rfl rfl) _ (by rfl) (by rfl) _ (by go_wp2_with fail; refine Mix.stays ?_; go_frame; rfl) ?_; go_frame)
            | (refine Mix.go_sure_conv (by first | exact Mix.wanted_none rfl | exact Mix.wanted_yes rfl rfl rfl) 29 9 _ rfl _ _ rfl (fun w1 hC1 => (HX8.out.fr0 hC1).convert (P := Try.prog) 29 9 5 Try.underlying29 Try.underlying5 Try.underlying9) ?_; go_frame)
            | (refine Mix.go_sure_conv (by first | exact Mix.wanted_none rfl | exact Mix.wanted_yes rfl rfl rfl) 29 9 _ rfl _ _ rfl (fun w1 hC1 => (HY8.out.fr0 hC1).convert (P := Try.prog) 29 9 5 Try.underlying29 Try.underlying5 Try.underlying9) ?_; go_frame)
            | (refine Mix.go_sure_row (by first | exact Mix.wanted_none rfl | exact Mix.wanted_yes rfl rfl rfl) 27 _ rfl (w.heap.size) rfl 27 _ (0, 0) _ (fun w1 hC1 => hC1.heap HH8.out (fun f => f)) Try.underlying27 rfl (by kernel_rfl) ?_; go_frame)
            | (refine Mix.go_sure_row (by first | exact Mix.wanted_none rfl | exact Mix.wanted_yes rfl rfl rfl) 27 _ rfl (W5.heap.size) rfl 27 _ (0, 0) _ (fun w1 hC1 => hC1.heap HRP8.out (fun f => f)) Try.underlying27 rfl (by kernel_rfl) ?_; go_frame)
            | (refine Mix.go_sure_row (by first | exact Mix.wanted_none rfl | exact Mix.wanted_yes rfl rfl rfl) 40 _ rfl (W7.heap.size) rfl 40 _ (0, 0) _ (fun w1 hC1 => hC1.heap HRW8.out (fun f => f)) Try.underlying40 rfl (by kernel_rfl) ?_; go_frame))
          refine Mix.go_turn ?_
          have hgd := pgood_any A C a (by omega) wd
          have HGD2 := Lib.hid (fun A C w => rgood_any A C a (by omega) w)
          obtain ⟨g, hg⟩ : ∃ g, g = good a := ⟨_, rfl⟩
          rw [← hg] at HGD2 hgd
          clear hg
          go_wp2_with fail
          refine hgd.mono ?_
          clear hgd
          rintro e wa ⟨rfl, hFa⟩
          have HFA := Lib.hid (HDR.out.trans' hFa)
          clear hFa
          go_wp2
          refine Mix.then_go HFA.out ?_
          refine Mix.go_turn ?_
          go_wp2_with fail
          refine (own_any A C a (by omega) wa (HPA8.out.fr0 HFA.out)).mono ?_
          rintro e wb ⟨Ab, Cb, rfl, hPb, hFb⟩
          have HFB := Lib.hid (HFA.out.trans' hFb)
          clear hPb hFb
          go_wp2
          refine Mix.then_go HFB.out ?_
          refine Mix.go_turn ?_
          go_wp2_with fail
          refine (HGD2.out Ab Cb wb).mono ?_
          rintro e wc' ⟨rfl, hFc⟩
          have HFC := Lib.hid (HFB.out.trans' hFc)
          clear hFc HGD2
          go_wp2
          refine Mix.then_go HFC.out ?_
          repeat (first
            | (refine Mix.go_skipS (by exact Mix.wanted_no rfl rfl rfl rfl) ?_; go_frame)
            | (refine Mix.go_skipL (by exact Mix.wanted_no rfl rfl rfl rfl) ?_; go_frame)
            | (refine Mix.go_move (by first | exact Mix.wanted_none rfl | exact Mix.wanted_yes rfl rfl rfl) _ rfl _ (by first | (go_simp; done) | (go_simp; rfl)) ?_; go_frame)
            | (refine Mix.go_assign (by first | exact Mix.wanted_none rfl | exact Mix.wanted_yes rfl rfl rfl) _ rfl _ (by first | (go_simp; done) | (go_simp; rfl)) ?_; go_frame)
            | (refine Mix.go_sureW (by first | exact Mix.wanted_none rfl | exact Mix.wanted_yes rfl rfl rfl) _ (by rfl) (by rfl) _ (fun w' hC' => by go_wp2_with fail; refine Mix.stays ?_; go_frame; rfl) ?_; go_frame)
            | (refine Mix.go_lookW (by first | exact Mix.wanted_none rfl | exact Mix.wanted_yes rfl rfl rfl) _ (by rfl) (by rfl) _ (by go_wp2_with fail; refine Mix.stays ?_; go_frame; rfl) ?_; go_frame)
            | (refine Mix.go_sure_conv (by first | exact Mix.wanted_none rfl | exact Mix.wanted_yes rfl rfl rfl) 29 9 _ rfl _ _ rfl (fun w1 hC1 => (HX8.out.fr0 hC1).convert (P := Try.prog) 29 9 5 Try.underlying29 Try.underlying5 Try.underlying9) ?_; go_frame)
            | (refine Mix.go_sure_conv (by first | exact Mix.wanted_none rfl | exact Mix.wanted_yes rfl rfl rfl) 29 9 _ rfl _ _ rfl (fun w1 hC1 => (HY8.out.fr0 hC1).convert (P := Try.prog) 29 9 5 Try.underlying29 Try.underlying5 Try.underlying9) ?_; go_frame)
            | (refine Mix.go_sure_row (by first | exact Mix.wanted_none rfl | exact Mix.wanted_yes rfl rfl rfl) 27 _ rfl (w.heap.size) rfl 27 _ (0, 0) _ (fun w1 hC1 => hC1.heap HH8.out (fun f => f)) Try.underlying27 rfl (by kernel_rfl) ?_; go_frame)
            | (refine Mix.go_sure_row (by first | exact Mix.wanted_none rfl | exact Mix.wanted_yes rfl rfl rfl) 27 _ rfl (W5.heap.size) rfl 27 _ (0, 0) _ (fun w1 hC1 => hC1.heap HRP8.out (fun f => f)) Try.underlying27 rfl (by kernel_rfl) ?_; go_frame)
            | (refine Mix.go_sure_row (by first | exact Mix.wanted_none rfl | exact Mix.wanted_yes rfl rfl rfl) 40 _ rfl (W7.heap.size) rfl 40 _ (0, 0) _ (fun w1 hC1 => hC1.heap HRW8.out (fun f => f)) Try.underlying40 rfl (by kernel_rfl) ?_; go_frame))
          refine Mix.go_turn ?_
          go_wp2_with fail
          refine (own_any A5 C5 c (by omega) wc' (HP8.out.fr0 HFC.out)).mono ?_
          rintro e we ⟨Ae, Ce, rfl, hPe, hFe⟩
          have HFE := Lib.hid (HFC.out.trans' hFe)
          have HPE := Lib.hid hPe
          clear hPe hFe
          go_wp2
          refine Mix.then_go HFE.out ?_
          refine Mix.go_turn ?_
          go_wp2_with fail
          have hsm := same_any Ae A7 Ce C7 c c (by omega) we HPE.out (HQ8.out.fr0 HFE.out)
          rw [(sameQ_iff c c).2 rfl] at hsm
          refine hsm.mono ?_
          clear hsm
          rintro e wf ⟨rfl, hFf⟩
          have HFF := Lib.hid (HFE.out.trans' hFf)
          clear hFf
          go_wp2
          refine Mix.then_go HFF.out ?_
          repeat (first
            | (refine Mix.go_skipS (by exact Mix.wanted_no rfl rfl rfl rfl) ?_; go_frame)
            | (refine Mix.go_skipL (by exact Mix.wanted_no rfl rfl rfl rfl) ?_; go_frame)
            | (refine Mix.go_move (by first | exact Mix.wanted_none rfl | exact Mix.wanted_yes rfl rfl rfl) _ rfl _ (by first | (go_simp; done) | (go_simp; rfl)) ?_; go_frame)
            | (refine Mix.go_assign (by first | exact Mix.wanted_none rfl | exact Mix.wanted_yes rfl rfl rfl) _ rfl _ (by first | (go_simp; done) | (go_simp; rfl)) ?_; go_frame)
            | (refine Mix.go_sureW (by first | exact Mix.wanted_none rfl | exact Mix.wanted_yes rfl rfl rfl) _ (by rfl) (by rfl) _ (fun w' hC' => by go_wp2_with fail; refine Mix.stays ?_; go_frame; rfl) ?_; go_frame)
            | (refine Mix.go_lookW (by first | exact Mix.wanted_none rfl | exact Mix.wanted_yes rfl rfl rfl) _ (by rfl) (by rfl) _ (by go_wp2_with fail; refine Mix.stays ?_; go_frame; rfl) ?_; go_frame))
          refine Mix.go_turn ?_
          go_wp2_with fail
          have hn1 := pname_any s hls wf
          have HN2 := Lib.hid (fun w => rname_any s hls w)
          obtain ⟨g2, hg2⟩ : ∃ g, g = nameOk s := ⟨_, rfl⟩
          rw [← hg2] at HN2 hn1
          clear hg2
          refine hn1.mono ?_
          clear hn1
          rintro e wg ⟨rfl, rfl⟩
          go_wp2
          refine Mix.then_go HFF.out ?_
          refine Mix.go_turn ?_
          go_wp2_with fail
          refine (HN2.out wf).mono ?_
          rintro e wg ⟨rfl, rfl⟩
          go_wp2
          refine Mix.then_go HFF.out ?_
          repeat (first
            | (refine Mix.go_skipS (by exact Mix.wanted_no rfl rfl rfl rfl) ?_; go_frame)
            | (refine Mix.go_skipL (by exact Mix.wanted_no rfl rfl rfl rfl) ?_; go_frame)
            | (refine Mix.go_move (by first | exact Mix.wanted_none rfl | exact Mix.wanted_yes rfl rfl rfl) _ rfl _ (by first | (go_simp; done) | (go_simp; rfl)) ?_; go_frame)
            | (refine Mix.go_assign (by first | exact Mix.wanted_none rfl | exact Mix.wanted_yes rfl rfl rfl) _ rfl _ (by first | (go_simp; done) | (go_simp; rfl)) ?_; go_frame)
            | (refine Mix.go_sureW (by first | exact Mix.wanted_none rfl | exact Mix.wanted_yes rfl rfl rfl) _ (by rfl) (by rfl) _ (fun w' hC' => by go_wp2_with fail; refine Mix.stays ?_; go_frame; rfl) ?_; go_frame)
            | (refine Mix.go_lookW (by first | exact Mix.wanted_none rfl | exact Mix.wanted_yes rfl rfl rfl) _ (by rfl) (by rfl) _ (by go_wp2_with fail; refine Mix.stays ?_; go_frame; rfl) ?_; go_frame))
          refine Mix.go_end ?_
          go_wp2
          go_ret
          exact ⟨by simp, HF8.out.trans' HFF.out⟩
end Go.Proofs.Ytemfohccnpopfaa.AskL
