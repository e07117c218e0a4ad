/-
  ReplyApart walked.
-/
import Derived.Test.YtjefddliebokaaaReplyAwake
import Derived.Test.YtjefddliebokaaaReplyLawK
import Derived.Test.YtjefddliebokaaaMixS
namespace Go.Proofs.Ytjefddliebokaaa.ReplyL
open Go.RowKit Base Pack _root_.Go.Proofs.Ytjefddliebokaaa.Reply

set_option maxRecDepth 100000 in
set_option maxHeartbeats 8000000 in
theorem replyApart_walk (a b : Rp) (v0 v1 : Value) (hsa : SizedR a) (hsb : SizedR b) (w : World) (hI : InR w a v0) (hJ : InR w b v1) :
    Calls Try.prog 7 #[v0, v1] w fun e w' => e = .returned (.bool true) ∧ Fr0 w w' := by
  obtain ⟨A, C, rfl, hP⟩ := hI
  obtain ⟨B, D, rfl, hQ⟩ := hJ
  have HP := Lib.hid hP
  have HQ := Lib.hid hQ
  have HSA := Lib.hid hsa
  have HSB := Lib.hid hsb
  obtain ⟨W0, hW0⟩ : ∃ W', W' = (w.alloc (.cells #[.int .i64 a.st, .bool a.hit, .int .u32 (a.slot : Int), .slice A a.body.length C] 27)).alloc (.cells #[.int .i64 b.st, .bool b.hit, .int .u32 (b.slot : Int), .slice B b.body.length D] 27) := ⟨_, rfl⟩
  have hbb := Bx.new 27 (w.alloc (.cells #[.int .i64 a.st, .bool a.hit, .int .u32 (a.slot : Int), .slice A a.body.length C] 27)) (.slice B b.body.length D) b
  rw [show (w.alloc (.cells #[.int .i64 a.st, .bool a.hit, .int .u32 (a.slot : Int), .slice A a.body.length C] 27)).heap.size = w.heap.size + 1 by simp, ← hW0] at hbb
  have hba : Bx 27 W0 w.heap.size (.slice A a.body.length C) a := by
    rw [hW0]
    exact (Bx.new _ w (.slice A a.body.length C) a).fr0 ((Fr.refl _ _).alloc _)
  have HA := Lib.hid hba
  have HB := Lib.hid hbb
  have HF : Hid (Fr0 w W0) := Lib.hid (by rw [hW0]; exact ((Fr.refl _ _).alloc _).alloc _)
  have HW0 := Lib.hid hW0
  clear hP hQ hsa hsb hba hbb hW0
  unfold rp4
  go_enter Try.func7, Try.ntmps7
  go_wp2_with fail
  rw [← HW0.out]
  clear HW0
  refine (awake_any _).mono ?_
  rintro e W1 ⟨rfl, hF1⟩
  have HA1 := Lib.hid (HA.out.fr0 hF1)
  have HB1 := Lib.hid (HB.out.fr0 hF1)
  have HF1 : Hid (Fr0 w W1) := Lib.hid (HF.out.trans' hF1)
  clear hF1 HB HF HA
  have hput := pput_any A C a HSA.out.1 HSA.out.2.1 W1 (HP.out.fr0 HF1.out)
  unfold PutPost rp4 at hput
  have HPE : Hid (good a = true → putErr a = 0 ∧ putOut a = putB a) := Lib.hid putOut_ok
  have HPN : Hid (good a = false → putErr a = 1) := Lib.hid (fun h => (putOut_no h).1)
  have HQE : Hid (good b = true → putErr b = 0 ∧ putOut b = putB b) := Lib.hid putOut_ok
  have HQN : Hid (good b = false → putErr b = 1) := Lib.hid (fun h => (putOut_no h).1)
  have HPB := Lib.hid (fun w h => pput_any B D b HSB.out.1 HSB.out.2.1 w h)
  unfold PutPost rp4 at HPB
  generalize putErr a = p at *
  generalize putErr b = q at *
  generalize putOut a = x at *
  generalize putOut b = y at *
  go_wp2_with (refine wpList_load_row rfl 27 _ rfl w.heap.size rfl 27 _ (0, 0) _ HA1.out.heap Try.underlying27 rfl (by kernel_rfl) ?_)
  refine hput.mono ?_
  clear hput
  rintro e W2 ⟨v2, rfl, hX2, hF2⟩
  have HF2 := Lib.hid (HF1.out.trans' hF2)
  have HA2 := Lib.hid (HA1.out.fr0 hF2)
  have HB2 := Lib.hid (HB1.out.fr0 hF2)
  have HX2 := Lib.hid hX2
  obtain ⟨A2, C2, rfl⟩ := hX2.form
  clear hF2 hX2 HA1 HB1
  go_wp2_with (refine wpList_load_row rfl 27 _ rfl (w.heap.size + 1) rfl 27 _ (0, 0) _ HB2.out.heap Try.underlying27 rfl (by kernel_rfl) ?_)
  refine (HPB.out W2 (HQ.out.fr0 HF2.out)).mono ?_
  clear HPB
  rintro e W3 ⟨v3, rfl, hY3, hF3⟩
  have HF3 := Lib.hid (HF2.out.trans' hF3)
  have HA3 := Lib.hid (HA2.out.fr0 hF3).heap
  have HA3 := Lib.hid (HA2.out.fr0 hF3).heap
  have HAH := Lib.hid (HA2.out.fr0 hF3).heap
  have HBH := Lib.hid (HB2.out.fr0 hF3).heap
  have HX3 := Lib.hid (HX2.out.fr0 hF3)
  have HY3 := Lib.hid hY3
  obtain ⟨A3, C3, rfl⟩ := hY3.form
  clear hF3 hY3 HX2 HA2 HB2 HA3
  cases hga : good a with
  | false =>
    obtain rfl : p = 1 := HPN.out hga
    clear hga
    go_wp2
    go_ret
    exact ⟨rfl, HF3.out⟩
  | true =>
    obtain ⟨rfl, rfl⟩ := HPE.out hga
    cases hgb : good b with
    | false =>
      obtain rfl : q = 1 := HQN.out hgb
      clear hga hgb
      go_wp2
      go_ret
      exact ⟨rfl, HF3.out⟩
    | true =>
      obtain ⟨rfl, rfl⟩ := HQE.out hgb
      have HNF : Hid ((putB a == [255]) = false) := Lib.hid (beq_eq_false_iff_ne.2 (fun e => by have h := congrArg List.length e; rw [putB_length] at h; simp at h; omega))
      obtain ⟨s, hs⟩ : ∃ s, s = sameR a b := ⟨_, rfl⟩
      have HEQ : Hid ((putB a == putB b) = s) := Lib.hid (by
        rw [hs]
        by_cases hab : a = b
        · subst hab
          rw [(sameR_iff a a).2 rfl]
          exact beq_self_eq_true _
        · have h1 : sameR a b = false := by
            rw [Bool.eq_false_iff]
            exact fun e => hab ((sameR_iff a b).1 e)
          rw [h1]
          exact beq_eq_false_iff_ne.2 (fun e => hab (put_inj hga hgb HSA.out.1 HSB.out.1 e)))
      have HSM := Lib.hid (fun w hA hB => same_any A B C D a b w hA hB)
      rw [← hs] at HSM
      unfold rp4 at HSM
      have HNB := Lib.hid (fun w => nobody_any w)
      have HO1 := Lib.hid (fun w => own_any A a.body.length C a w)
      have HO2 := Lib.hid (fun w => own_any B b.body.length D b w)
      unfold rp4 at HO1 HO2
      clear hga hgb hs HPE HPN HQE HQN
      generalize putB a = x at *
      generalize putB b = y at *
      have he := HEQ.out
      have hn := HNF.out
      go_wp2
      refine Mix.law (fun X => Fr0 W3 X) [(.sure, 0), (.sure, 1), (.sure, 2), (.sure, 3), (.sure, 4), (.sure, 5), (.sure, 7), (.turn, 6), (.turn, 8), (.turn, 9), (.sure, 10), (.sure, 11), (.sure, 12), (.sure, 13), (.turn, 14), (.look, 15), (.sure, 16), (.sure, 17), (.sure, 18)] (by kernel_rfl) (by kernel_rfl) (Fr.refl _ _).drew ?_
      simp only [List.map_cons, List.map_nil, Mix.nth_zero, Mix.nth_succ]
      have HDR := Lib.hid ((Fr.refl (fun _ => False) W3).drew)
      generalize W3.drew = wd at *
      repeat (first
        | (refine Mix.go_skipS (by first | exact Mix.wanted_no rfl rfl rfl rfl | exact Mix.wanted_void rfl rfl rfl) ?_; go_frame)
        | (refine Mix.go_skipL (by first | exact Mix.wanted_no rfl rfl rfl rfl | exact Mix.wanted_void rfl rfl rfl) ?_; go_frame)
        | (refine Mix.go_move (by first | exact Mix.wanted_none rfl | exact Mix.wanted_yes rfl rfl rfl) _ rfl _ (by first | (go_simp; done) | (go_simp; rfl)) ?_; go_frame)
        | (refine Mix.go_assign (by first | exact Mix.wanted_none rfl | exact Mix.wanted_yes rfl rfl rfl) _ rfl _ (by first | (go_simp; done) | (go_simp; rfl)) ?_; go_frame)
        | (refine Mix.go_sure_conv (by first | exact Mix.wanted_none rfl | exact Mix.wanted_yes rfl rfl rfl) 25 9 _ rfl _ _ rfl (fun w1 hC1 => (HX3.out.fr0 hC1).convert (P := Try.prog) 25 9 5 Try.underlying25 Try.underlying5 Try.underlying9) ?_; go_frame)
        | (refine Mix.go_sure_conv (by first | exact Mix.wanted_none rfl | exact Mix.wanted_yes rfl rfl rfl) 25 9 _ rfl _ _ rfl (fun w1 hC1 => (HY3.out.fr0 hC1).convert (P := Try.prog) 25 9 5 Try.underlying25 Try.underlying5 Try.underlying9) ?_; go_frame)
        | (refine Mix.go_sure_row (by first | exact Mix.wanted_none rfl | exact Mix.wanted_yes rfl rfl rfl) 27 _ rfl (w.heap.size) rfl 27 _ (0, 0) _ (fun w1 hC1 => hC1.heap HAH.out (fun f => f)) Try.underlying27 rfl (by kernel_rfl) ?_; go_frame)
        | (refine Mix.go_sure_row (by first | exact Mix.wanted_none rfl | exact Mix.wanted_yes rfl rfl rfl) 27 _ rfl ((w.heap.size+1)) rfl 27 _ (0, 0) _ (fun w1 hC1 => hC1.heap HBH.out (fun f => f)) Try.underlying27 rfl (by kernel_rfl) ?_; go_frame)
        | (refine Mix.go_sureW (by first | exact Mix.wanted_none rfl | exact Mix.wanted_yes rfl rfl rfl) _ (by rfl) (by rfl) _ (fun w' hC' => by go_wp2_with fail; refine Mix.stays ?_; go_frame; rfl) ?_; go_frame)
        | (refine Mix.go_lookW (by first | exact Mix.wanted_none rfl | exact Mix.wanted_yes rfl rfl rfl) _ (by rfl) (by rfl) _ (by go_wp2_with fail; refine Mix.stays ?_; go_frame; rfl) ?_; go_frame))
      refine Mix.go_turn ?_
      go_wp2_with fail
      refine (HO1.out wd).mono ?_
      rintro e wa ⟨rfl, hFa⟩
      have HFA := Lib.hid (HDR.out.trans' hFa)
      clear hFa
      go_wp2
      refine Mix.then_go HFA.out ?_
      refine Mix.go_turn ?_
      go_wp2_with fail
      refine (HO2.out wa).mono ?_
      rintro e wb ⟨rfl, hFb⟩
      have HFB := Lib.hid (HFA.out.trans' hFb)
      clear hFb
      go_wp2
      refine Mix.then_go HFB.out ?_
      refine Mix.go_turn ?_
      go_wp2_with fail
      have hsm := HSM.out wb (HP.out.fr0 (HF3.out.trans' HFB.out)) (HQ.out.fr0 (HF3.out.trans' HFB.out))
      refine hsm.mono ?_
      clear hsm
      rintro e wq ⟨rfl, hFc⟩
      have HFC := Lib.hid (HFB.out.trans' hFc)
      clear hFc
      go_wp2
      refine Mix.then_go HFC.out ?_
      repeat (first
        | (refine Mix.go_skipS (by first | exact Mix.wanted_no rfl rfl rfl rfl | exact Mix.wanted_void rfl rfl rfl) ?_; go_frame)
        | (refine Mix.go_skipL (by first | exact Mix.wanted_no rfl rfl rfl rfl | exact Mix.wanted_void rfl rfl rfl) ?_; go_frame)
        | (refine Mix.go_move (by first | exact Mix.wanted_none rfl | exact Mix.wanted_yes rfl rfl rfl) _ rfl _ (by first | (go_simp; done) | (go_simp; rfl)) ?_; go_frame)
        | (refine Mix.go_assign (by first | exact Mix.wanted_none rfl | exact Mix.wanted_yes rfl rfl rfl) _ rfl _ (by first | (go_simp; done) | (go_simp; rfl)) ?_; go_frame)
        | (refine Mix.go_sure_conv (by first | exact Mix.wanted_none rfl | exact Mix.wanted_yes rfl rfl rfl) 25 9 _ rfl _ _ rfl (fun w1 hC1 => (HX3.out.fr0 hC1).convert (P := Try.prog) 25 9 5 Try.underlying25 Try.underlying5 Try.underlying9) ?_; go_frame)
        | (refine Mix.go_sure_conv (by first | exact Mix.wanted_none rfl | exact Mix.wanted_yes rfl rfl rfl) 25 9 _ rfl _ _ rfl (fun w1 hC1 => (HY3.out.fr0 hC1).convert (P := Try.prog) 25 9 5 Try.underlying25 Try.underlying5 Try.underlying9) ?_; go_frame)
        | (refine Mix.go_sure_row (by first | exact Mix.wanted_none rfl | exact Mix.wanted_yes rfl rfl rfl) 27 _ rfl (w.heap.size) rfl 27 _ (0, 0) _ (fun w1 hC1 => hC1.heap HAH.out (fun f => f)) Try.underlying27 rfl (by kernel_rfl) ?_; go_frame)
        | (refine Mix.go_sure_row (by first | exact Mix.wanted_none rfl | exact Mix.wanted_yes rfl rfl rfl) 27 _ rfl ((w.heap.size+1)) rfl 27 _ (0, 0) _ (fun w1 hC1 => hC1.heap HBH.out (fun f => f)) Try.underlying27 rfl (by kernel_rfl) ?_; go_frame)
        | (refine Mix.go_sureW (by first | exact Mix.wanted_none rfl | exact Mix.wanted_yes rfl rfl rfl) _ (by rfl) (by rfl) _ (fun w' hC' => by go_wp2_with fail; refine Mix.stays ?_; go_frame; rfl) ?_; go_frame)
        | (refine Mix.go_lookW (by first | exact Mix.wanted_none rfl | exact Mix.wanted_yes rfl rfl rfl) _ (by rfl) (by rfl) _ (by go_wp2_with fail; refine Mix.stays ?_; go_frame; rfl) ?_; go_frame))
      refine Mix.go_turn ?_
      go_wp2_with fail
      refine (HNB.out wq).mono ?_
      rintro e we ⟨v4, rfl, hB4, hFe⟩
      have HFE := Lib.hid (HFC.out.trans' hFe)
      have hc4 := hB4.convert (P := Try.prog) 25 9 5 Try.underlying25 Try.underlying5 Try.underlying9
      obtain ⟨A4, C4, rfl⟩ := hB4.form
      have hcv : (convert 25 9 (.slice A4 1 C4)).run Try.prog we = .ok (.string ⟨#[255]⟩) we := hc4
      clear hB4 hFe hc4
      go_wp2
      refine Mix.then_go HFE.out ?_
      repeat (first
        | (refine Mix.go_skipS (by first | exact Mix.wanted_no rfl rfl rfl rfl | exact Mix.wanted_void rfl rfl rfl) ?_; go_frame)
        | (refine Mix.go_skipL (by first | exact Mix.wanted_no rfl rfl rfl rfl | exact Mix.wanted_void rfl rfl rfl) ?_; go_frame)
        | (refine Mix.go_move (by first | exact Mix.wanted_none rfl | exact Mix.wanted_yes rfl rfl rfl) _ rfl _ (by first | (go_simp; done) | (go_simp; rfl)) ?_; go_frame)
        | (refine Mix.go_assign (by first | exact Mix.wanted_none rfl | exact Mix.wanted_yes rfl rfl rfl) _ rfl _ (by first | (go_simp; done) | (go_simp; rfl)) ?_; go_frame)
        | (refine Mix.go_sureW (by first | exact Mix.wanted_none rfl | exact Mix.wanted_yes rfl rfl rfl) _ (by rfl) (by rfl) _ (fun w' hC' => by go_wp2_with fail; refine Mix.stays ?_; go_frame; rfl) ?_; go_frame)
        | (refine Mix.go_lookW (by first | exact Mix.wanted_none rfl | exact Mix.wanted_yes rfl rfl rfl) _ (by rfl) (by rfl) _ (by go_wp2_with fail; refine Mix.stays ?_; go_frame; rfl) ?_; go_frame))
      refine Mix.go_end ?_
      go_wp2
      go_ret
      exact ⟨by simp, HF3.out.trans' HFE.out⟩
end Go.Proofs.Ytjefddliebokaaa.ReplyL
