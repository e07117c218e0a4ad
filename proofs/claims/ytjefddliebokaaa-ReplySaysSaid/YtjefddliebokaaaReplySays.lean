/-
  ReplySays walked.
-/
import Derived.Test.YtjefddliebokaaaReplyShare
import Derived.Test.YtjefddliebokaaaReplyRefPut
namespace Go.Proofs.Ytjefddliebokaaa.ReplyL
open Go.RowKit Base Pack _root_.Go.Proofs.Ytjefddliebokaaa.Reply

set_option maxRecDepth 100000 in
set_option maxHeartbeats 8000000 in
theorem replySays_walk (r : Rp) (v0 v1 : Value) (hsr : SizedR r) (b : List UInt8) (w : World) (hI : InR w r v0) (hJ : BytesIs w v1 b) :
    Calls Try.prog 4 #[v0, v1] w fun e w' => e = .returned (.bool true) ∧ Fr0 w w' := by
  obtain ⟨A, C, rfl, hP⟩ := hI
  have HP := Lib.hid hP
  have HB := Lib.hid hJ
  obtain ⟨B, D, rfl⟩ := hJ.form
  have HS := Lib.hid hsr
  have hlr := hsr.2.1
  have HA := Lib.hid (Bx.new 27 w (.slice A r.body.length C) r)
  have HF := Lib.hid ((Fr.refl (fun _ => False) w).alloc (.cells #[.int .i64 r.st, .bool r.hit, .int .u32 (r.slot : Int), .slice A r.body.length C] 27))
  clear hP hsr hJ
  unfold rp4
  go_enter Try.func4, Try.ntmps4
  go_wp2_with fail
  refine (awake_any _).mono ?_
  rintro e W1 ⟨rfl, hF1⟩
  have HA1 := Lib.hid (HA.out.fr0 hF1)
  have HF1 : Hid (Fr0 w W1) := Lib.hid (HF.out.trans' hF1)
  have c3 := HA1.out.cells.2.2.2
  clear hF1 HF HA
  by_cases h600 : 600 < (r.body.length : Int)
  ·
    go_wp2
    go_ret
    exact ⟨rfl, HF1.out⟩
  ·
    by_cases h1000 : 1000 < (b.length : Int)
    ·
      go_wp2
      go_ret
      exact ⟨rfl, HF1.out⟩
    ·
      have hput := pput_any A C r HS.out.1 HS.out.2.1 W1 (HP.out.fr0 HF1.out)
      have HRP := Lib.hid (fun w h => rputR_any A C r HS.out.1 HS.out.2.1 w h)
      have HPG := Lib.hid (fun w => pgood_any A C r HS.out.2.1 w)
      have HRG := Lib.hid (fun w => rgoodR_any A C r HS.out.2.1 w)
      have HOW := Lib.hid (fun w => own_any A r.body.length C r w)
      have HGT := Lib.hid (fun w h => pget_any (.slice B b.length D) b (by omega) w h)
      have HRT := Lib.hid (fun w h => rgetR_any (.slice B b.length D) b (by omega) w h)
      have HLG := Lib.hid (fun w h => plog_any (.slice B b.length D) b (by omega) w h)
      have HRL := Lib.hid (fun w h => rlog_any (.slice B b.length D) b (by omega) w h)
      unfold PutPost rp4 at hput HRP
      unfold GetPost rp4 at HGT HRT
      unfold LogPost at HLG HRL
      unfold rp4 at HPG HRG HOW
      have hls := log_short b
      generalize putErr r = p at *
      generalize putOut r = x at *
      generalize good r = gd at *
      generalize getB b = G at *
      generalize log b = LG at *
      obtain ⟨g, n, er⟩ := G
      obtain ⟨L, el⟩ := LG
      simp only at HGT HRT HLG HRL hls
      have HLS : Hid (L.length ≤ 1000) := Lib.hid (by omega)
      clear hls
      go_wp2_with (refine wpList_load_row rfl 27 _ rfl (w.heap.size) rfl 27 _ (0, 0) _ HA1.out.heap Try.underlying27 rfl (by kernel_rfl) ?_)
      refine hput.mono ?_
      clear hput c3
      rintro e W2 ⟨v2, rfl, hX2, hF2⟩
      have HF2 := Lib.hid (HF1.out.trans' hF2)
      have HA2 := Lib.hid (HA1.out.fr0 hF2)
      have HX2 := Lib.hid hX2
      obtain ⟨A2, C2, rfl⟩ := hX2.form
      clear hF2 hX2 HA1
      go_wp2_with (refine wpList_load_row rfl 27 _ rfl (w.heap.size) rfl 27 _ (0, 0) _ HA2.out.heap Try.underlying27 rfl (by kernel_rfl) ?_)
      refine (HOW.out W2).mono ?_
      rintro e W3 ⟨rfl, hF3⟩
      have HF3 := Lib.hid (HF2.out.trans' hF3)
      have HA3 := Lib.hid (HA2.out.fr0 hF3)
      have HX3 := Lib.hid (HX2.out.fr0 hF3)
      clear hF3 HA2 HX2
      go_wp2_with fail
      refine (HRP.out W3 (HP.out.fr0 HF3.out)).mono ?_
      rintro e W4 ⟨v4, rfl, hY4, hF4⟩
      have HF4 := Lib.hid (HF3.out.trans' hF4)
      have HA4 := Lib.hid (HA3.out.fr0 hF4)
      have HX4 := Lib.hid (HX3.out.fr0 hF4)
      have HY4 := Lib.hid hY4
      obtain ⟨A4, C4, rfl⟩ := hY4.form
      clear hF4 hY4 HA3 HX3
      go_wp2_with fail
      refine (HGT.out W4 (HB.out.fr0 HF4.out)).mono ?_
      rintro e W5 ⟨A5, C5, rfl, hP5, _, hF5⟩
      have hg5 := heap_alloc_new W5 (.cells #[.int .i64 0, .bool false, .int .u32 0, .slice none 0 0] 27)
      obtain ⟨W6, hW5⟩ : ∃ W', W' = (W5.alloc (.cells #[.int .i64 0, .bool false, .int .u32 0, .slice none 0 0] 27)).setRow W5.heap.size #[.int .i64 g.st, .bool g.hit, .int .u32 (g.slot : Int), .slice A5 g.body.length C5] := ⟨_, rfl⟩
      have hr5 := setRow_heap _ W5.heap.size _ #[.int .i64 g.st, .bool g.hit, .int .u32 (g.slot : Int), .slice A5 g.body.length C5] _ _ hg5
      rw [← hW5] at hr5
      have hf5 : Fr0 W5 W6 := by rw [hW5]; exact Fr.setRow ((Fr.refl _ _).alloc _) (fun h => absurd h (Nat.lt_irrefl _)) _
      have HKR5 := Lib.hid hr5
      have HKW5 := Lib.hid hW5
      have HKG5 := Lib.hid hg5
      have HKF5 := Lib.hid hf5
      clear hg5 hW5 hr5 hf5
      have hf46 := hF5.trans' HKF5.out
      have HF6 := Lib.hid (HF4.out.trans' hf46)
      have HA6 := Lib.hid (HA4.out.fr0 hf46)
      have HX6 := Lib.hid (HX4.out.fr0 hf46)
      have HY6 := Lib.hid (HY4.out.fr0 hf46)
      have HP6 := Lib.hid (hP5.fr0 HKF5.out)
      clear hF5 hP5 hf46 HA4 HX4 HY4
      go_wp2_with (refine wpList_store_row rfl 27 _ _ rfl W5.heap.size #[.int .i64 g.st, .bool g.hit, .int .u32 (g.slot : Int), .slice A5 g.body.length C5] rfl rfl 27 _ HKG5.out infoP rfl (rp4_one (.slice A5 g.body.length C5) g rfl) ?_; rw [← HKW5.out])
      refine (HRT.out W6 (HB.out.fr0 HF6.out)).mono ?_
      rintro e W7 ⟨A7, C7, rfl, hQ7, _, hF7⟩
      have hg7 := heap_alloc_new W7 (.cells #[.int .i64 0, .bool false, .int .u32 0, .slice none 0 0] 38)
      obtain ⟨W8, hW7⟩ : ∃ W', W' = (W7.alloc (.cells #[.int .i64 0, .bool false, .int .u32 0, .slice none 0 0] 38)).setRow W7.heap.size #[.int .i64 g.st, .bool g.hit, .int .u32 (g.slot : Int), .slice A7 g.body.length C7] := ⟨_, rfl⟩
      have hr7 := setRow_heap _ W7.heap.size _ #[.int .i64 g.st, .bool g.hit, .int .u32 (g.slot : Int), .slice A7 g.body.length C7] _ _ hg7
      rw [← hW7] at hr7
      have hf7 : Fr0 W7 W8 := by rw [hW7]; exact Fr.setRow ((Fr.refl _ _).alloc _) (fun h => absurd h (Nat.lt_irrefl _)) _
      have HKR7 := Lib.hid hr7
      have HKW7 := Lib.hid hW7
      have HKG7 := Lib.hid hg7
      have HKF7 := Lib.hid hf7
      clear hg7 hW7 hr7 hf7
      have hf68 := hF7.trans' HKF7.out
      have HF8 := Lib.hid (HF6.out.trans' hf68)
      have HA8 := Lib.hid (HA6.out.fr0 hf68)
      have HX8 := Lib.hid (HX6.out.fr0 hf68)
      have HY8 := Lib.hid (HY6.out.fr0 hf68)
      have HP8 := Lib.hid (HP6.out.fr0 hf68)
      have HKR8 := Lib.hid (hf68.heap HKR5.out (fun f => f))
      have HQ8 := Lib.hid (hQ7.fr0 HKF7.out)
      clear hF7 hQ7 hf68 HA6 HX6 HY6 HP6 HKR5 HKW5 HKG5 HKF5
      go_wp2_with (refine wpList_store_row rfl 38 _ _ rfl W7.heap.size #[.int .i64 g.st, .bool g.hit, .int .u32 (g.slot : Int), .slice A7 g.body.length C7] rfl rfl 38 _ HKG7.out infoR rfl (rp4_one (.slice A7 g.body.length C7) g rfl) ?_; rw [← HKW7.out])
      refine (HLG.out W8 (HB.out.fr0 HF8.out)).mono ?_
      rintro e W9 ⟨v9, rfl, hL9, hF9⟩
      have HF9 := Lib.hid (HF8.out.trans' hF9)
      have HL9 := Lib.hid hL9
      have HKF9 := Lib.hid hF9
      obtain ⟨A9, C9, rfl⟩ := hL9.form
      clear hF9 hL9 HKW7 HKG7 HKF7
      go_wp2_with fail
      refine (HRL.out W9 (HB.out.fr0 HF9.out)).mono ?_
      rintro e Wb ⟨vb, rfl, hLb, hFb⟩
      have hf8b := HKF9.out.trans' hFb
      have HFb := Lib.hid (HF9.out.trans' hFb)
      have HLb := Lib.hid (HL9.out.fr0 hFb)
      have HMb := Lib.hid hLb
      obtain ⟨Ab, Cb, rfl⟩ := hLb.form
      have HAb := Lib.hid (HA8.out.fr0 hf8b).heap
      have HXb := Lib.hid (HX8.out.fr0 hf8b)
      have HYb := Lib.hid (HY8.out.fr0 hf8b)
      have HPb := Lib.hid (hf8b.heap HKR8.out (fun f => f))
      have HQb := Lib.hid (hf8b.heap HKR7.out (fun f => f))
      have HPB := Lib.hid (HP8.out.fr0 hf8b)
      have HQB := Lib.hid (HQ8.out.fr0 hf8b)
      clear hLb hFb hf8b HA8 HX8 HY8 HP8 HQ8 HKR7 HKR8 HL9 HKF9
      have HOG := Lib.hid (fun w => own_any A5 g.body.length C5 g w)
      have HSG := Lib.hid (fun w hA hB => same_self A5 A7 C5 C7 g w hA hB)
      unfold rp4 at HOG HSG
      go_wp2
      refine Mix.law (fun X => Fr0 Wb X) [(.sure, 0), (.sure, 2), (.turn, 1), (.turn, 3), (.turn, 4), (.sure, 5), (.sure, 6), (.sure, 7), (.sure, 8), (.sure, 9), (.sure, 10), (.sure, 11), (.sure, 12), (.sure, 13), (.sure, 14), (.sure, 15), (.sure, 16), (.sure, 17), (.sure, 18), (.sure, 19), (.sure, 21), (.turn, 20), (.turn, 22), (.sure, 23), (.sure, 24), (.sure, 25), (.sure, 26), (.sure, 27), (.sure, 28), (.sure, 29), (.sure, 30), (.sure, 31), (.sure, 32), (.sure, 33), (.sure, 34), (.sure, 35), (.sure, 36), (.sure, 37), (.sure, 38), (.sure, 39), (.sure, 40), (.sure, 41), (.sure, 42), (.sure, 43), (.sure, 44), (.sure, 45), (.sure, 46)] (by kernel_rfl) (by kernel_rfl) (Fr.refl _ _).drew ?_
      simp only [List.map_cons, List.map_nil, Mix.nth_zero, Mix.nth_succ]
      have HDR := Lib.hid ((Fr.refl (fun _ => False) Wb).drew)
      generalize Wb.drew = wd at *
      repeat (first
        | (refine Mix.go_skipS (by first | exact Mix.wanted_no rfl rfl rfl rfl | exact Mix.wanted_void rfl rfl rfl) ?_; go_frame)
        | (refine Mix.go_skipL (by first | exact Mix.wanted_no rfl rfl rfl rfl | exact Mix.wanted_void rfl rfl rfl) ?_; go_frame)
        | (refine Mix.go_move (by first | exact Mix.wanted_none rfl | exact Mix.wanted_yes rfl rfl rfl) _ rfl _ (by first | (go_simp; done) | (go_simp; rfl)) ?_; go_frame)
        | (refine Mix.go_assign (by first | exact Mix.wanted_none rfl | exact Mix.wanted_yes rfl rfl rfl) _ rfl _ (by first | (go_simp; done) | (go_simp; rfl)) ?_; go_frame)
        | (refine Mix.go_sure_conv (by first | exact Mix.wanted_none rfl | exact Mix.wanted_yes rfl rfl rfl) 25 9 _ rfl _ _ rfl (fun w1 hC1 => (HXb.out.fr0 hC1).convert (P := Try.prog) 25 9 5 Try.underlying25 Try.underlying5 Try.underlying9) ?_; go_frame)
        | (refine Mix.go_sure_conv (by first | exact Mix.wanted_none rfl | exact Mix.wanted_yes rfl rfl rfl) 25 9 _ rfl _ _ rfl (fun w1 hC1 => (HYb.out.fr0 hC1).convert (P := Try.prog) 25 9 5 Try.underlying25 Try.underlying5 Try.underlying9) ?_; go_frame)
        | (refine Mix.go_sure_row (by first | exact Mix.wanted_none rfl | exact Mix.wanted_yes rfl rfl rfl) 27 _ rfl (w.heap.size) rfl 27 _ (0, 0) _ (fun w1 hC1 => hC1.heap HAb.out (fun f => f)) Try.underlying27 rfl (by kernel_rfl) ?_; go_frame)
        | (refine Mix.go_sure_row (by first | exact Mix.wanted_none rfl | exact Mix.wanted_yes rfl rfl rfl) 27 _ rfl (W5.heap.size) rfl 27 _ (0, 0) _ (fun w1 hC1 => hC1.heap HPb.out (fun f => f)) Try.underlying27 rfl (by kernel_rfl) ?_; go_frame)
        | (refine Mix.go_sure_row (by first | exact Mix.wanted_none rfl | exact Mix.wanted_yes rfl rfl rfl) 38 _ rfl (W7.heap.size) rfl 38 _ (0, 0) _ (fun w1 hC1 => hC1.heap HQb.out (fun f => f)) Try.underlying38 rfl (by kernel_rfl) ?_; go_frame)
        | (refine Mix.go_sureW (by first | exact Mix.wanted_none rfl | exact Mix.wanted_yes rfl rfl rfl) _ (by rfl) (by rfl) _ (fun w' hC' => by go_wp2_with fail; refine Mix.stays ?_; go_frame; rfl) ?_; go_frame)
        | (refine Mix.go_lookW (by first | exact Mix.wanted_none rfl | exact Mix.wanted_yes rfl rfl rfl) _ (by rfl) (by rfl) _ (by go_wp2_with fail; refine Mix.stays ?_; go_frame; rfl) ?_; go_frame))
      refine Mix.go_turn ?_
      go_wp2_with fail
      refine (HPG.out wd).mono ?_
      rintro e wa ⟨rfl, hFa⟩
      have HFA := Lib.hid (HDR.out.trans' hFa)
      clear hFa
      go_wp2
      refine Mix.then_go HFA.out ?_
      refine Mix.go_turn ?_
      go_wp2_with fail
      refine (HOW.out wa).mono ?_
      rintro e wb ⟨rfl, hFe⟩
      have HFB := Lib.hid (HFA.out.trans' hFe)
      clear hFe
      go_wp2
      refine Mix.then_go HFB.out ?_
      refine Mix.go_turn ?_
      go_wp2_with fail
      refine (HRG.out wb).mono ?_
      rintro e wq ⟨rfl, hFe⟩
      have HFC := Lib.hid (HFB.out.trans' hFe)
      clear hFe
      go_wp2
      refine Mix.then_go HFC.out ?_
      repeat (first
        | (refine Mix.go_skipS (by first | exact Mix.wanted_no rfl rfl rfl rfl | exact Mix.wanted_void rfl rfl rfl) ?_; go_frame)
        | (refine Mix.go_skipL (by first | exact Mix.wanted_no rfl rfl rfl rfl | exact Mix.wanted_void rfl rfl rfl) ?_; go_frame)
        | (refine Mix.go_move (by first | exact Mix.wanted_none rfl | exact Mix.wanted_yes rfl rfl rfl) _ rfl _ (by first | (go_simp; done) | (go_simp; rfl)) ?_; go_frame)
        | (refine Mix.go_assign (by first | exact Mix.wanted_none rfl | exact Mix.wanted_yes rfl rfl rfl) _ rfl _ (by first | (go_simp; done) | (go_simp; rfl)) ?_; go_frame)
        | (refine Mix.go_sure_conv (by first | exact Mix.wanted_none rfl | exact Mix.wanted_yes rfl rfl rfl) 25 9 _ rfl _ _ rfl (fun w1 hC1 => (HXb.out.fr0 hC1).convert (P := Try.prog) 25 9 5 Try.underlying25 Try.underlying5 Try.underlying9) ?_; go_frame)
        | (refine Mix.go_sure_conv (by first | exact Mix.wanted_none rfl | exact Mix.wanted_yes rfl rfl rfl) 25 9 _ rfl _ _ rfl (fun w1 hC1 => (HYb.out.fr0 hC1).convert (P := Try.prog) 25 9 5 Try.underlying25 Try.underlying5 Try.underlying9) ?_; go_frame)
        | (refine Mix.go_sure_row (by first | exact Mix.wanted_none rfl | exact Mix.wanted_yes rfl rfl rfl) 27 _ rfl (w.heap.size) rfl 27 _ (0, 0) _ (fun w1 hC1 => hC1.heap HAb.out (fun f => f)) Try.underlying27 rfl (by kernel_rfl) ?_; go_frame)
        | (refine Mix.go_sure_row (by first | exact Mix.wanted_none rfl | exact Mix.wanted_yes rfl rfl rfl) 27 _ rfl (W5.heap.size) rfl 27 _ (0, 0) _ (fun w1 hC1 => hC1.heap HPb.out (fun f => f)) Try.underlying27 rfl (by kernel_rfl) ?_; go_frame)
        | (refine Mix.go_sure_row (by first | exact Mix.wanted_none rfl | exact Mix.wanted_yes rfl rfl rfl) 38 _ rfl (W7.heap.size) rfl 38 _ (0, 0) _ (fun w1 hC1 => hC1.heap HQb.out (fun f => f)) Try.underlying38 rfl (by kernel_rfl) ?_; go_frame)
        | (refine Mix.go_sureW (by first | exact Mix.wanted_none rfl | exact Mix.wanted_yes rfl rfl rfl) _ (by rfl) (by rfl) _ (fun w' hC' => by go_wp2_with fail; refine Mix.stays ?_; go_frame; rfl) ?_; go_frame)
        | (refine Mix.go_lookW (by first | exact Mix.wanted_none rfl | exact Mix.wanted_yes rfl rfl rfl) _ (by rfl) (by rfl) _ (by go_wp2_with fail; refine Mix.stays ?_; go_frame; rfl) ?_; go_frame))
      refine Mix.go_turn ?_
      go_wp2_with fail
      refine (HOG.out wq).mono ?_
      rintro e we ⟨rfl, hFe⟩
      have HFE := Lib.hid (HFC.out.trans' hFe)
      clear hFe
      go_wp2
      refine Mix.then_go HFE.out ?_
      refine Mix.go_turn ?_
      go_wp2_with fail
      refine (HSG.out we (HPB.out.fr0 HFE.out) (HQB.out.fr0 HFE.out)).mono ?_
      rintro e wg ⟨rfl, hFe⟩
      have HFG := Lib.hid (HFE.out.trans' hFe)
      clear hFe
      go_wp2
      refine Mix.then_go HFG.out ?_
      repeat (first
        | (refine Mix.go_skipS (by first | exact Mix.wanted_no rfl rfl rfl rfl | exact Mix.wanted_void rfl rfl rfl) ?_; go_frame)
        | (refine Mix.go_skipL (by first | exact Mix.wanted_no rfl rfl rfl rfl | exact Mix.wanted_void rfl rfl rfl) ?_; go_frame)
        | (refine Mix.go_move (by first | exact Mix.wanted_none rfl | exact Mix.wanted_yes rfl rfl rfl) _ rfl _ (by first | (go_simp; done) | (go_simp; rfl)) ?_; go_frame)
        | (refine Mix.go_assign (by first | exact Mix.wanted_none rfl | exact Mix.wanted_yes rfl rfl rfl) _ rfl _ (by first | (go_simp; done) | (go_simp; rfl)) ?_; go_frame)
        | (refine Mix.go_sure_conv (by first | exact Mix.wanted_none rfl | exact Mix.wanted_yes rfl rfl rfl) 25 9 _ rfl _ _ rfl (fun w1 hC1 => (HXb.out.fr0 hC1).convert (P := Try.prog) 25 9 5 Try.underlying25 Try.underlying5 Try.underlying9) ?_; go_frame)
        | (refine Mix.go_sure_conv (by first | exact Mix.wanted_none rfl | exact Mix.wanted_yes rfl rfl rfl) 25 9 _ rfl _ _ rfl (fun w1 hC1 => (HYb.out.fr0 hC1).convert (P := Try.prog) 25 9 5 Try.underlying25 Try.underlying5 Try.underlying9) ?_; go_frame)
        | (refine Mix.go_sure_row (by first | exact Mix.wanted_none rfl | exact Mix.wanted_yes rfl rfl rfl) 27 _ rfl (w.heap.size) rfl 27 _ (0, 0) _ (fun w1 hC1 => hC1.heap HAb.out (fun f => f)) Try.underlying27 rfl (by kernel_rfl) ?_; go_frame)
        | (refine Mix.go_sure_row (by first | exact Mix.wanted_none rfl | exact Mix.wanted_yes rfl rfl rfl) 27 _ rfl (W5.heap.size) rfl 27 _ (0, 0) _ (fun w1 hC1 => hC1.heap HPb.out (fun f => f)) Try.underlying27 rfl (by kernel_rfl) ?_; go_frame)
        | (refine Mix.go_sure_row (by first | exact Mix.wanted_none rfl | exact Mix.wanted_yes rfl rfl rfl) 38 _ rfl (W7.heap.size) rfl 38 _ (0, 0) _ (fun w1 hC1 => hC1.heap HQb.out (fun f => f)) Try.underlying38 rfl (by kernel_rfl) ?_; go_frame)
        | (refine Mix.go_sureW (by first | exact Mix.wanted_none rfl | exact Mix.wanted_yes rfl rfl rfl) _ (by rfl) (by rfl) _ (fun w' hC' => by go_wp2_with fail; refine Mix.stays ?_; go_frame; rfl) ?_; go_frame)
        | (refine Mix.go_lookW (by first | exact Mix.wanted_none rfl | exact Mix.wanted_yes rfl rfl rfl) _ (by rfl) (by rfl) _ (by go_wp2_with fail; refine Mix.stays ?_; go_frame; rfl) ?_; go_frame))
      refine Mix.go_end ?_
      have HFg := Lib.hid (HFb.out.trans' HFG.out)
      have HLg := Lib.hid (HLb.out.fr0 HFG.out)
      have HMg := Lib.hid (HMb.out.fr0 HFG.out)
      clear HDR HFA HFB HFC HFE HFG HAb HXb HYb HPb HQb HPB HQB HFb HLb HMb HRP HPG HRG HOW HGT HRT HLG HRL HOG HSG HP HB HS HF1 HF2 HF3 HF4 HF6 HF8 HF9
      generalize hN : L.length = N at *
      have HN := Lib.hid hN
      have hN1000 : N ≤ 1000 := HLS.out
      clear hN
      go_wp2_with fail
      go_loopg [19] N (fun kx vi wr => ∃ (i : Nat), vi = .int .i64 (i : Int) ∧ i ≤ N ∧ N - i ≤ kx ∧ Hid (Fr0 wg wr))
      case atStart => exact ⟨0, rfl, Nat.zero_le _, by omega, Lib.hid (Fr.refl _ _)⟩
      case round =>
        obtain ⟨i, rfl, hi, hk, HFR⟩ := hrel
        by_cases hlt : i < N
        · obtain ⟨pb, po, B1, D1, rfl, hc1, hb1⟩ := reps_at HLg.out i (by have := HN.out; omega)
          obtain ⟨qb, qo, B2, D2, rfl, hc2, hb2⟩ := reps_at HMg.out i (by have := HN.out; omega)
          have i1 : (i : Int) < (N : Int) := by omega
          have i2 : 0 ≤ (i : Int) := by omega
          have HC1 := Lib.hid hc1
          have HC2 := Lib.hid hc2
          have HB1 := Lib.hid hb1
          have HB2 := Lib.hid hb2
          have hcl : (∀ X, Fr0 wg X → (X.cell? ⟨pb, po + i * 4, none⟩ = some (.int .i64 (L.getD i zero).st) ∧ X.cell? ⟨pb, po + i * 4 + 1, none⟩ = some (.bool (L.getD i zero).hit) ∧ X.cell? ⟨pb, po + i * 4 + 2, none⟩ = some (.int .u32 ((L.getD i zero).slot : Int)) ∧ X.cell? ⟨pb, po + i * 4 + 3, none⟩ = some (.slice B1 (L.getD i zero).body.length D1) ∧ X.cell? ⟨qb, qo + i * 4, none⟩ = some (.int .i64 (L.getD i zero).st) ∧ X.cell? ⟨qb, qo + i * 4 + 1, none⟩ = some (.bool (L.getD i zero).hit) ∧ X.cell? ⟨qb, qo + i * 4 + 2, none⟩ = some (.int .u32 ((L.getD i zero).slot : Int)) ∧ X.cell? ⟨qb, qo + i * 4 + 3, none⟩ = some (.slice B2 (L.getD i zero).body.length D2))) := fun X h => by
            obtain ⟨a1, a2, a3, a4⟩ := HC1.out X h
            obtain ⟨b1, b2, b3, b4⟩ := HC2.out X h
            exact ⟨a1, a2, a3, a4, b1, b2, b3, b4⟩
          have HCL := Lib.hid hcl
          clear hc1 hc2 hb1 hb2 hcl HC1 HC2
          generalize L.getD i zero = q at *
          have HOQ := Lib.hid (fun w => own_any B1 q.body.length D1 q w)
          have HSQ := Lib.hid (fun w hA hB => same_self B1 B2 D1 D2 q w hA hB)
          unfold rp4 at HOQ HSQ
          go_wp2
          refine Mix.law (fun X => (X.cell? ⟨pb, po + i * 4, none⟩ = some (.int .i64 q.st) ∧ X.cell? ⟨pb, po + i * 4 + 1, none⟩ = some (.bool q.hit) ∧ X.cell? ⟨pb, po + i * 4 + 2, none⟩ = some (.int .u32 (q.slot : Int)) ∧ X.cell? ⟨pb, po + i * 4 + 3, none⟩ = some (.slice B1 q.body.length D1) ∧ X.cell? ⟨qb, qo + i * 4, none⟩ = some (.int .i64 q.st) ∧ X.cell? ⟨qb, qo + i * 4 + 1, none⟩ = some (.bool q.hit) ∧ X.cell? ⟨qb, qo + i * 4 + 2, none⟩ = some (.int .u32 (q.slot : Int)) ∧ X.cell? ⟨qb, qo + i * 4 + 3, none⟩ = some (.slice B2 q.body.length D2))) [(.sure, 0), (.sure, 1), (.sure, 2), (.sure, 3), (.sure, 5), (.sure, 6), (.sure, 7), (.sure, 8), (.turn, 4), (.turn, 9), (.sure, 10)] (by kernel_rfl) (by kernel_rfl) (HCL.out _ HFR.out.drew) ?_
          simp only [List.map_cons, List.map_nil, Mix.nth_zero, Mix.nth_succ]
          have HDR := Lib.hid HFR.out.drew
          generalize wr.drew = wd at *
          repeat (first
            | (refine Mix.go_skipS (by first | exact Mix.wanted_no rfl rfl rfl rfl | exact Mix.wanted_void rfl rfl rfl) ?_; go_frame)
            | (refine Mix.go_skipL (by first | exact Mix.wanted_no rfl rfl rfl rfl | exact Mix.wanted_void rfl rfl rfl) ?_; go_frame)
            | (refine Mix.go_move (by first | exact Mix.wanted_none rfl | exact Mix.wanted_yes rfl rfl rfl) _ rfl _ (by first | (go_simp; done) | (go_simp; rfl)) ?_; go_frame)
            | (refine Mix.go_assign (by first | exact Mix.wanted_none rfl | exact Mix.wanted_yes rfl rfl rfl) _ rfl _ (by first | (go_simp; done) | (go_simp; rfl)) ?_; go_frame)
            | (refine Mix.go_sureW (by first | exact Mix.wanted_none rfl | exact Mix.wanted_yes rfl rfl rfl) _ (by rfl) (by rfl) _ (fun w' ⟨hC1, hC2, hC3, hC4, hC5, hC6, hC7, hC8⟩ => by go_wp2_with fail; refine Mix.stays ?_; go_frame; rfl) ?_; go_frame)
            | (refine Mix.go_lookW (by first | exact Mix.wanted_none rfl | exact Mix.wanted_yes rfl rfl rfl) _ (by rfl) (by rfl) _ (by go_wp2_with fail; refine Mix.stays ?_; go_frame; rfl) ?_; go_frame))
          refine Mix.go_turn ?_
          go_wp2_with fail
          refine (HOQ.out wd).mono ?_
          rintro e wa ⟨rfl, hFa⟩
          have HFA := Lib.hid (HDR.out.trans' hFa)
          clear hFa
          go_wp2
          refine Mix.then_go (HCL.out _ HFA.out) ?_
          refine Mix.go_turn ?_
          go_wp2_with fail
          refine (HSQ.out wa (HB1.out.fr0 HFA.out) (HB2.out.fr0 HFA.out)).mono ?_
          rintro e wb ⟨rfl, hFa⟩
          have HFB := Lib.hid (HFA.out.trans' hFa)
          clear hFa
          go_wp2
          refine Mix.then_go (HCL.out _ HFB.out) ?_
          repeat (first
            | (refine Mix.go_skipS (by first | exact Mix.wanted_no rfl rfl rfl rfl | exact Mix.wanted_void rfl rfl rfl) ?_; go_frame)
            | (refine Mix.go_skipL (by first | exact Mix.wanted_no rfl rfl rfl rfl | exact Mix.wanted_void rfl rfl rfl) ?_; go_frame)
            | (refine Mix.go_move (by first | exact Mix.wanted_none rfl | exact Mix.wanted_yes rfl rfl rfl) _ rfl _ (by first | (go_simp; done) | (go_simp; rfl)) ?_; go_frame)
            | (refine Mix.go_assign (by first | exact Mix.wanted_none rfl | exact Mix.wanted_yes rfl rfl rfl) _ rfl _ (by first | (go_simp; done) | (go_simp; rfl)) ?_; go_frame)
            | (refine Mix.go_sureW (by first | exact Mix.wanted_none rfl | exact Mix.wanted_yes rfl rfl rfl) _ (by rfl) (by rfl) _ (fun w' ⟨hC1, hC2, hC3, hC4, hC5, hC6, hC7, hC8⟩ => by go_wp2_with fail; refine Mix.stays ?_; go_frame; rfl) ?_; go_frame)
            | (refine Mix.go_lookW (by first | exact Mix.wanted_none rfl | exact Mix.wanted_yes rfl rfl rfl) _ (by rfl) (by rfl) _ (by go_wp2_with fail; refine Mix.stays ?_; go_frame; rfl) ?_; go_frame))
          refine Mix.go_end ?_
          go_wp2
          go_roundg (N - (i + 1))
          case measure => omega
          case rel => exact ⟨i + 1, by simp, by omega, by omega, HFB⟩
        · obtain rfl : i = N := by omega
          go_wp2
          go_ret
          exact ⟨rfl, HFg.out.trans' HFR.out⟩
end Go.Proofs.Ytjefddliebokaaa.ReplyL
