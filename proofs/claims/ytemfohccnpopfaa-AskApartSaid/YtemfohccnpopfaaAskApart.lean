/-
  AskApart walked.
-/
import Derived.Test.YtemfohccnpopfaaAskSizes
namespace Go.Proofs.Ytemfohccnpopfaa.AskL
open Go.RowKit Base Pack _root_.Go.Proofs.Ytemfohccnpopfaa.Ask

set_option maxRecDepth 100000 in
set_option maxHeartbeats 4000000 in
theorem askApart_walk (a b : Rq) (v0 v1 : Value) (hsa : Sized a) (hsb : Sized b) (w : World) (hI : In w a v0) (hJ : In w b v1) :
    Calls Try.prog 6 #[v0, v1] w fun e w' => e = .returned (.bool true) ∧ Fr0 w w' := by
  obtain ⟨A, C, rfl, hP⟩ := hI
  obtain ⟨B, D, rfl, hQ⟩ := hJ
  have HP := Lib.hid hP
  have HQ := Lib.hid hQ
  have HSA := Lib.hid hsa
  have HSB := Lib.hid hsb
  have hla := hsa.2.1
  have hlb := hsb.2.1
  have hf0 : Fr0 (w.alloc (.cells #[.int .i64 a.k, .string ⟨a.n.toArray⟩, .slice A a.s.length C, .int .i64 a.f, .int .i64 a.t, .int .i64 a.wn] 27)) ((w.alloc (.cells #[.int .i64 a.k, .string ⟨a.n.toArray⟩, .slice A a.s.length C, .int .i64 a.f, .int .i64 a.t, .int .i64 a.wn] 27)).alloc (.cells #[.int .i64 b.k, .string ⟨b.n.toArray⟩, .slice B b.s.length D, .int .i64 b.f, .int .i64 b.t, .int .i64 b.wn] 27)) := (Fr.refl _ _).alloc _
  have HA := Lib.hid ((Boxed.new w (.slice A a.s.length C) a).fr0 hf0)
  have hb0 := Boxed.new (w.alloc (.cells #[.int .i64 a.k, .string ⟨a.n.toArray⟩, .slice A a.s.length C, .int .i64 a.f, .int .i64 a.t, .int .i64 a.wn] 27)) (.slice B b.s.length D) b
  rw [show (w.alloc (.cells #[.int .i64 a.k, .string ⟨a.n.toArray⟩, .slice A a.s.length C, .int .i64 a.f, .int .i64 a.t, .int .i64 a.wn] 27)).heap.size = w.heap.size + 1 by simp] at hb0
  have HB := Lib.hid hb0
  have HF : Hid (Fr0 w ((w.alloc (.cells #[.int .i64 a.k, .string ⟨a.n.toArray⟩, .slice A a.s.length C, .int .i64 a.f, .int .i64 a.t, .int .i64 a.wn] 27)).alloc (.cells #[.int .i64 b.k, .string ⟨b.n.toArray⟩, .slice B b.s.length D, .int .i64 b.f, .int .i64 b.t, .int .i64 b.wn] 27))) := Lib.hid (((Fr.refl (fun _ => False) w).alloc _).alloc _)
  clear hP hQ hsa hsb hf0 hb0
  unfold rv
  go_enter Try.func6, Try.ntmps6
  go_wp2_with fail
  refine (awake_any _).mono ?_
  rintro e W1 ⟨rfl, hF1⟩
  have HA1 := Lib.hid (HA.out.fr0 hF1)
  have HB1 := Lib.hid (HB.out.fr0 hF1)
  have HF1 : Hid (Fr0 w W1) := Lib.hid (HF.out.trans' hF1)
  have c0 := HA1.out.cells.2.2.1
  have c1 := HB1.out.cells.2.2.1
  clear hF1 HB HF HA
  by_cases h30 : 30 < (a.s.length : Int)
  · go_wp2
    go_ret
    exact ⟨rfl, HF1.out⟩
  · by_cases h31 : 30 < (b.s.length : Int)
    · go_wp2
      go_ret
      exact ⟨rfl, HF1.out⟩
    · have hput := pput_any A C a HSA.out.1 W1 (HP.out.fr0 HF1.out)
      go_wp2_with (refine wpList_load_row rfl 27 _ rfl w.heap.size rfl 27 _ (0, 0) _ HA1.out.heap Try.underlying27 rfl (by kernel_rfl) ?_)
      refine hput.mono ?_
      clear hput c0 c1
      rintro e W2 ⟨v2, rfl, hB2, hF2⟩
      have HF2 := Lib.hid (HF1.out.trans' hF2)
      have HA2 := Lib.hid (HA1.out.fr0 hF2)
      have HB2 := Lib.hid (HB1.out.fr0 hF2)
      have HX2 := Lib.hid hB2
      obtain ⟨A2, C2, rfl⟩ := hB2.form
      clear hF2 hB2
      have hput := pput_any B D b HSB.out.1 W2 (HQ.out.fr0 HF2.out)
      go_wp2_with (refine wpList_load_row rfl 27 _ rfl (w.heap.size + 1) rfl 27 _ (0, 0) _ HB2.out.heap Try.underlying27 rfl (by kernel_rfl) ?_)
      refine hput.mono ?_
      clear hput
      rintro e W3 ⟨v3, rfl, hB3, hF3⟩
      have HF3 := Lib.hid (HF2.out.trans' hF3)
      have HA3 := Lib.hid (HA2.out.fr0 hF3)
      have HB3 := Lib.hid (HB2.out.fr0 hF3)
      have HX3 := Lib.hid (HX2.out.fr0 hF3)
      have HY3 := Lib.hid hB3
      obtain ⟨A3, C3, rfl⟩ := hB3.form
      clear hF3 hB3 HX2 HA2 HB2 HA1 HB1
      cases hga : good a with
      | false =>
        rw [(putErr_no hga).1]
        clear hga
        go_wp2
        go_ret
        exact ⟨rfl, HF3.out⟩
      | true =>
        rw [(putErr_ok hga).1]
        cases hgb : good b with
        | false =>
          rw [(putErr_no hgb).1]
          clear hga hgb
          go_wp2
          go_ret
          exact ⟨rfl, HF3.out⟩
        | true =>
          rw [(putErr_ok hgb).1]
          rw [(putErr_ok hga).2] at HX3 ⊢
          rw [(putErr_ok hgb).2] at HY3 ⊢
          have hinj := fun h : ¬ a = b => fun e => h (put_inj hga hgb HSA.out.2.2.1 HSB.out.2.2.1 e)
          have HH2 := Lib.hid HA3.out.heap
          have HH3 := Lib.hid HB3.out.heap
          have HP3 := Lib.hid (HP.out.fr0 HF3.out)
          have HQ3 := Lib.hid (HQ.out.fr0 HF3.out)
          obtain ⟨Q, hQQ⟩ : ∃ Q, Q = sameQ a b := ⟨_, rfl⟩
          have HSM : Hid (Q = sameQ a b) := Lib.hid hQQ
          have HEQ : Hid ((putB a == putB b) = Q) := Lib.hid (by
            by_cases h : a = b
            · rw [hQQ, h, (sameQ_iff b b).2 rfl]; simp
            · rw [hQQ, sameQ_ne h]
              exact beq_eq_false_iff_ne.2 (hinj h))
          clear hinj hQQ hga hgb
          generalize putB a = X at *
          generalize putB b = Y at *
          go_wp2
          refine Mix.law (fun X => Fr0 W3 X) [(.sure, 0), (.sure, 1), (.sure, 2), (.sure, 3), (.sure, 4), (.sure, 5), (.sure, 7), (.turn, 6), (.turn, 8), (.turn, 9), (.sure, 10), (.sure, 11)] (by kernel_rfl) (by kernel_rfl) (Fr.refl _ _).drew ?_
          simp only [List.map_cons, List.map_nil, Mix.nth_zero, Mix.nth_succ]
          have HDR := Lib.hid ((Fr.refl (fun _ => False) W3).drew)
          generalize W3.drew = wd at *
          repeat (first
            | (refine Mix.go_skipS (by exact Mix.wanted_no rfl rfl rfl rfl) ?_; go_frame)
            | (refine Mix.go_skipL (by exact Mix.wanted_no rfl rfl rfl rfl) ?_; go_frame)
            | (refine Mix.go_move (by first | exact Mix.wanted_none rfl | exact Mix.wanted_yes rfl rfl rfl) _ rfl _ (by first | (go_simp; done) | (go_simp; rfl)) ?_; go_frame)
            | (refine Mix.go_assign (by first | exact Mix.wanted_none rfl | exact Mix.wanted_yes rfl rfl rfl) _ rfl _ (by first | (go_simp; done) | (go_simp; rfl)) ?_; go_frame)
            | (refine Mix.go_sureW (by first | exact Mix.wanted_none rfl | exact Mix.wanted_yes rfl rfl rfl) _ (by rfl) (by rfl) _ (fun w' hC' => by go_wp2_with fail; refine Mix.stays ?_; go_frame; rfl) ?_; go_frame)
            | (refine Mix.go_lookW (by first | exact Mix.wanted_none rfl | exact Mix.wanted_yes rfl rfl rfl) _ (by rfl) (by rfl) _ (by go_wp2_with fail; refine Mix.stays ?_; go_frame; rfl) ?_; go_frame)
            | (refine Mix.go_sure_conv (by first | exact Mix.wanted_none rfl | exact Mix.wanted_yes rfl rfl rfl) 29 9 _ rfl _ _ rfl (fun w1 hC1 => (HX3.out.fr0 hC1).convert (P := Try.prog) 29 9 5 Try.underlying29 Try.underlying5 Try.underlying9) ?_; go_frame)
            | (refine Mix.go_sure_conv (by first | exact Mix.wanted_none rfl | exact Mix.wanted_yes rfl rfl rfl) 29 9 _ rfl _ _ rfl (fun w1 hC1 => (HY3.out.fr0 hC1).convert (P := Try.prog) 29 9 5 Try.underlying29 Try.underlying5 Try.underlying9) ?_; go_frame)
            | (refine Mix.go_sure_row (by first | exact Mix.wanted_none rfl | exact Mix.wanted_yes rfl rfl rfl) 27 _ rfl (w.heap.size) rfl 27 _ (0, 0) _ (fun w1 hC1 => hC1.heap HH2.out (fun f => f)) Try.underlying27 rfl (by kernel_rfl) ?_; go_frame)
            | (refine Mix.go_sure_row (by first | exact Mix.wanted_none rfl | exact Mix.wanted_yes rfl rfl rfl) 27 _ rfl (w.heap.size+1) rfl 27 _ (0, 0) _ (fun w1 hC1 => hC1.heap HH3.out (fun f => f)) Try.underlying27 rfl (by kernel_rfl) ?_; go_frame))
          refine Mix.go_turn ?_
          go_wp2_with fail
          refine (own_any A C a (by omega) wd (HP3.out.fr0 HDR.out)).mono ?_
          rintro e wa ⟨Aa, Ca, rfl, hPa, hFa⟩
          have HFA := Lib.hid (HDR.out.trans' hFa)
          have HPA := Lib.hid hPa
          clear hPa hFa
          go_wp2
          refine Mix.then_go HFA.out ?_
          refine Mix.go_turn ?_
          go_wp2_with fail
          refine (own_any B D b (by omega) wa (HQ3.out.fr0 HFA.out)).mono ?_
          rintro e wb ⟨Ab', Cb', rfl, hPb, hFb⟩
          have HFB := Lib.hid (HFA.out.trans' hFb)
          have HPB := Lib.hid hPb
          have HPA := Lib.hid (HPA.out.fr0 hFb)
          clear hPb hFb
          go_wp2
          refine Mix.then_go HFB.out ?_
          refine Mix.go_turn ?_
          go_wp2_with fail
          have hsm := same_any Aa Ab' Ca Cb' a b (by omega) wb HPA.out HPB.out
          rw [← HSM.out] at hsm
          refine hsm.mono ?_
          clear hsm
          rintro e wc' ⟨rfl, hFc⟩
          have HFC := Lib.hid (HFB.out.trans' hFc)
          clear hFc
          go_wp2
          refine Mix.then_go HFC.out ?_
          repeat (first
            | (refine Mix.go_skipS (by exact Mix.wanted_no rfl rfl rfl rfl) ?_; go_frame)
            | (refine Mix.go_skipL (by exact Mix.wanted_no rfl rfl rfl rfl) ?_; go_frame)
            | (refine Mix.go_move (by first | exact Mix.wanted_none rfl | exact Mix.wanted_yes rfl rfl rfl) _ rfl _ (by first | (go_simp; done) | (go_simp; rfl)) ?_; go_frame)
            | (refine Mix.go_assign (by first | exact Mix.wanted_none rfl | exact Mix.wanted_yes rfl rfl rfl) _ rfl _ (by first | (go_simp; done) | (go_simp; rfl)) ?_; go_frame)
            | (refine Mix.go_sureW (by first | exact Mix.wanted_none rfl | exact Mix.wanted_yes rfl rfl rfl) _ (by rfl) (by rfl) _ (fun w' hC' => by go_wp2_with fail; refine Mix.stays ?_; go_frame; rfl) ?_; go_frame)
            | (refine Mix.go_lookW (by first | exact Mix.wanted_none rfl | exact Mix.wanted_yes rfl rfl rfl) _ (by rfl) (by rfl) _ (by go_wp2_with fail; refine Mix.stays ?_; go_frame; rfl) ?_; go_frame))
          refine Mix.go_end ?_
          go_wp2
          go_ret
          exact ⟨by simp [HEQ.out], HF3.out.trans' HFC.out⟩
end Go.Proofs.Ytemfohccnpopfaa.AskL
