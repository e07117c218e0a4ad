/-
  SeriesSays walked.
-/
import Derived.Test.YtijhabpbdiamiaaSerKeeps
import Derived.Test.YtijhabpbdiamiaaMixS
namespace Go.Proofs.Ytijhabpbdiamiaa.SeriesL
open Go.RowKit Base _root_.Go.Proofs.Ytijhabpbdiamiaa.Series

set_option maxRecDepth 100000 in
set_option maxHeartbeats 8000000 in
theorem seriesSays_walk (v0 v1 : Value) (l m : List Sm) (r f t : Int) (hl : SizedS l) (hm : SizedS m) (hr : -9223372036854775808 ≤ r ∧ r ≤ 9223372036854775807) (hf : -9223372036854775808 ≤ f ∧ f ≤ 9223372036854775807) (ht : -9223372036854775808 ≤ t ∧ t ≤ 9223372036854775807) (w : World) (hP : PairsIs w v0 l) (hQ : PairsIs w v1 m) :
    Calls Try.prog 4 #[v0, v1, .int .i64 r, .int .i64 f, .int .i64 t] w fun e w' => e = .returned (.bool true) ∧ Fr0 w w' := by
  obtain ⟨A, C, rfl⟩ := pairs_form hP
  obtain ⟨B, D, rfl⟩ := pairs_form hQ
  have HP := Lib.hid hP
  have HQ := Lib.hid hQ
  have HSL := Lib.hid hl
  have HSM := Lib.hid hm
  clear hP hQ hl hm
  have HRL := Lib.hid (range_length l f t)
  have HOL := Lib.hid (add_length l m r)
  generalize hL : l.length = L at *
  generalize hM : m.length = M at *
  have HLL := Lib.hid hL
  have HMM := Lib.hid hM
  clear hL hM
  go_enter Try.func4, Try.ntmps4
  go_wp2_with fail
  refine (awake_any _).mono ?_
  rintro e w1 ⟨rfl, hF1⟩
  have HF1 := Lib.hid hF1
  clear hF1
  by_cases h1 : 100 < (L : Int)
  · go_wp2
    go_ret
    exact ⟨rfl, HF1.out⟩
  · by_cases h2 : 100 < (M : Int)
    · go_wp2
      go_ret
      exact ⟨rfl, HF1.out⟩
    · have hk1 := padd_any (.slice A L C) (.slice B M D) l m r (by have := HLL.out; omega) (by have := HMM.out; omega) HSL.out HSM.out hr w1 (HP.out.fr0 HF1.out) (HQ.out.fr0 HF1.out)
      have HROWL0 := Lib.hid (fun v w h => rows_any v l (by have := HLL.out; omega) w h)
      have HROWM := Lib.hid (fun v w h => rows_any v m (by have := HMM.out; omega) w h)
      have HRADD := Lib.hid (fun u v w h1 h2 => radd_any u v l m r (by have := HLL.out; omega) (by have := HMM.out; omega) w h1 h2)
      have HLAST := Lib.hid (fun v w h => plast_any v l (by have := HLL.out; omega) w h)
      have HGOOD0 := Lib.hid (fun v w h => pgood_any v l (by have := HLL.out; omega) HSL.out w h)
      have HRIS0 := Lib.hid (fun v w h => rrising_any v l (by have := HLL.out; omega) w h)
      have HRNG0 := Lib.hid (fun v w h => prange_any v l f t (by have := HLL.out; omega) HSL.out hf ht w h)
      have HRRNG0 := Lib.hid (fun v w h => rrange_any v l f t (by have := HLL.out; omega) w h)
      have HROWO0 := Lib.hid (fun v w h => rows_any v (addOut l m r) (by have := HOL.out; omega) w h)
      have HSAMO0 := Lib.hid (fun A B C D w h1 h2 => same_any A B C D (addOut l m r) (by have := HOL.out; omega) w h1 h2)
      have HROWG0 := Lib.hid (fun v w h => rows_any v (rangeOf l f t) (by have := HRL.out; omega) w h)
      have HSAMG0 := Lib.hid (fun A B C D w h1 h2 => same_any A B C D (rangeOf l f t) (by have := HRL.out; omega) w h1 h2)
      have HLO : Hid ((lastOf l).1 = (l.getD (L - 1) (0, 0)).1 ∧ (lastOf l).2 = (l.getD (L - 1) (0, 0)).2) := Lib.hid (by unfold lastOf; rw [HLL.out]; exact ⟨rfl, rfl⟩)
      rw [HLL.out] at HROWL0 HLAST
      rw [HMM.out] at HROWM
      unfold AddPost at hk1 HRADD
      clear hr hf ht HRL
      generalize addErr l m r = er at *
      generalize addOut l m r = out at *
      generalize rangeOf l f t = rg at *
      generalize rising l = ri at *
      generalize (lastOf l).1 = lx at *
      generalize (lastOf l).2 = ly at *
      generalize hO : out.length = O at *
      have HO := Lib.hid hO
      generalize hG : rg.length = G at *
      have HG := Lib.hid hG
      clear hO hG
      go_wp2_with fail
      refine hk1.mono ?_
      clear hk1
      rintro e w2 ⟨x, rfl, hX, hF⟩
      have HF2 := Lib.hid (HF1.out.trans' hF)
      have HA := Lib.hid hX
      obtain ⟨Aa, Ca, rfl⟩ := pairs_form hX
      rw [HO.out] at HA ⊢
      clear hX hF
      go_wp2_with fail
      refine (HROWL0.out _ w2 (HP.out.fr0 HF2.out)).mono ?_
      rintro e w3 ⟨A1, C1, rfl, hp1, hF⟩
      have HF3 := Lib.hid (HF2.out.trans' hF)
      have HA3 := Lib.hid (HA.out.fr0 hF)
      have HP1 := Lib.hid hp1
      clear hp1 hF
      go_wp2_with fail
      refine (HROWM.out _ w3 (HQ.out.fr0 HF3.out)).mono ?_
      rintro e w4 ⟨A2, C2, rfl, hp2, hF⟩
      have HF4 := Lib.hid (HF3.out.trans' hF)
      have HA4 := Lib.hid (HA3.out.fr0 hF)
      have hk := HRADD.out _ _ w4 (HP1.out.fr0 hF) hp2
      clear hp2 hF
      go_wp2_with fail
      refine hk.mono ?_
      clear hk
      rintro e w5 ⟨y, rfl, hY, hF⟩
      have HF5 := Lib.hid (HF4.out.trans' hF)
      have HA5 := Lib.hid (HA4.out.fr0 hF)
      have HB := Lib.hid hY
      obtain ⟨Ab, Cb, rfl⟩ := pairs_form hY
      rw [HO.out] at HB ⊢
      clear hY hF
      go_wp2_with fail
      refine (HLAST.out _ w5 (HP.out.fr0 HF5.out)).mono ?_
      rintro e w6 ⟨rfl, hF⟩
      have HF6 := Lib.hid (HF5.out.trans' hF)
      have hg := heap_alloc_new w6 (.cells #[.int .i64 lx, .int .i64 ly] 24)
      obtain ⟨w7, hw7⟩ : ∃ w7, w7 = w6.alloc (.cells #[.int .i64 lx, .int .i64 ly] 24) := ⟨_, rfl⟩
      have hfa := (Fr.refl (fun _ => False) w6).alloc (.cells #[.int .i64 lx, .int .i64 ly] 24)
      rw [← hw7] at hg hfa
      have HW7 := Lib.hid hw7
      have HF7 := Lib.hid (HF6.out.trans' hfa)
      have HRX := Lib.hid hg
      have HA7 := Lib.hid ((HA5.out.fr0 hF).fr0 hfa)
      have HB7 := Lib.hid ((HB.out.fr0 hF).fr0 hfa)
      have HL7 := Lib.hid (HP.out.fr0 HF7.out)
      clear hg hw7 hfa hF HA HA3 HA4 HA5 HB HP1
      have HROWO := Lib.hid (fun A C w h => HROWO0.out (.slice A O C) w h)
      have HROWG := Lib.hid (fun A C w h => HROWG0.out (.slice A G C) w h)
      have HROWL := Lib.hid (fun A C w h => HROWL0.out (.slice A L C) w h)
      have HSAMO := HSAMO0
      have HSAMG := HSAMG0
      have HRNG := Lib.hid (fun w h => HRNG0.out (.slice A L C) w h)
      have HRRNG := Lib.hid (fun A C w h => HRRNG0.out (.slice A L C) w h)
      have HGOOD := Lib.hid (fun w h => HGOOD0.out (.slice A L C) w h)
      have HRIS := Lib.hid (fun A C w h => HRIS0.out (.slice A L C) w h)
      clear HROWO0 HROWG0 HROWL0 HSAMO0 HSAMG0 HRNG0 HRRNG0 HGOOD0 HRIS0 HROWM HRADD HLAST
      rcases Nat.eq_zero_or_pos L with rfl | hpos
      · go_wp2_with fail
        rw [← HW7.out]
        refine Mix.law (fun X => Fr0 w7 X) [(.sure, 0), (.sure, 1), (.sure, 2), (.sure, 3), (.sure, 4), (.sure, 6), (.turn, 5), (.turn, 7), (.sure, 8), (.sure, 9), (.sure, 10), (.sure, 11), (.sure, 12), (.sure, 15), (.sure, 17), (.sure, 18), (.turn, 13), (.turn, 14), (.turn, 16), (.turn, 19), (.turn, 20), (.sure, 21), (.sure, 22), (.sure, 23), (.sure, 25), (.turn, 24), (.turn, 26), (.turn, 27), (.sure, 28), (.sure, 29), (.sure, 30), (.sure, 31), (.sure, 32), (.sure, 33), (.sure, 34), (.sure, 35), (.sure, 36), (.sure, 37), (.sure, 38), (.sure, 39), (.sure, 40), (.sure, 41), (.sure, 42), (.sure, 43), (.sure, 44), (.sure, 45), (.sure, 46), (.look, 47), (.sure, 48), (.sure, 49), (.sure, 50), (.sure, 51)] (by kernel_rfl) (by kernel_rfl) (Fr.refl _ _).drew ?_
        simp only [List.map_cons, List.map_nil, Mix.nth_zero, Mix.nth_succ]
        have HX0 := Lib.hid ((Fr.refl (fun _ => False) w7).drew)
        generalize w7.drew = x0 at *
        repeat (first
          | ((with_reducible refine Mix.go_skipS ?_ ?_); (focus (first | exact Mix.wanted_no rfl rfl rfl rfl | exact Mix.wanted_void rfl rfl rfl)); go_frame)
          | ((with_reducible refine Mix.go_skipL ?_ ?_); (focus (first | exact Mix.wanted_no rfl rfl rfl rfl | exact Mix.wanted_void rfl rfl rfl)); go_frame)
          | (refine Mix.go_move (by first | exact Mix.wanted_none rfl | exact Mix.wanted_yes rfl rfl rfl) _ rfl _ (by first | (go_simp; done) | (go_simp; rfl)) ?_; go_frame)
          | (refine Mix.go_assign (by first | exact Mix.wanted_none rfl | exact Mix.wanted_yes rfl rfl rfl) _ rfl _ (by first | (go_simp; done) | (go_simp; rfl)) ?_; go_frame)
          | (refine Mix.go_sure_row (by first | exact Mix.wanted_none rfl | exact Mix.wanted_yes rfl rfl rfl) 24 _ rfl (w6.heap.size) rfl 24 _ (0, 0) _ (fun w1 hC1 => hC1.heap HRX.out (fun f => f)) Try.underlying24 rfl (by kernel_rfl) ?_; go_frame)
          | (refine Mix.go_sureW (by first | exact Mix.wanted_none rfl | exact Mix.wanted_yes rfl rfl rfl) _ (by rfl) (by rfl) _ (fun w' hC' => by go_wp2_with fail; refine Mix.stays ?_; go_frame; rfl) ?_; go_frame)
          | (refine Mix.go_lookW (by first | exact Mix.wanted_none rfl | exact Mix.wanted_yes rfl rfl rfl) _ (by rfl) (by rfl) _ (by go_wp2_with fail; refine Mix.stays ?_; go_frame; rfl) ?_; go_frame))
        refine Mix.go_turn ?_
        go_wp2_with fail
        have hk := HROWO.out Aa Ca x0 (HA7.out.fr0 HX0.out)
        refine hk.mono ?_
        clear hk
        rintro e x1 ⟨A5, C5, rfl, hp, hF⟩
        have HX1 := Lib.hid (HX0.out.trans' hF)
        have HR1 := Lib.hid hp
        clear hp hF
        go_wp2
        refine Mix.then_go HX1.out ?_
        repeat (first
          | ((with_reducible refine Mix.go_skipS ?_ ?_); (focus (first | exact Mix.wanted_no rfl rfl rfl rfl | exact Mix.wanted_void rfl rfl rfl)); go_frame)
          | ((with_reducible refine Mix.go_skipL ?_ ?_); (focus (first | exact Mix.wanted_no rfl rfl rfl rfl | exact Mix.wanted_void rfl rfl rfl)); go_frame)
          | (refine Mix.go_move (by first | exact Mix.wanted_none rfl | exact Mix.wanted_yes rfl rfl rfl) _ rfl _ (by first | (go_simp; done) | (go_simp; rfl)) ?_; go_frame)
          | (refine Mix.go_assign (by first | exact Mix.wanted_none rfl | exact Mix.wanted_yes rfl rfl rfl) _ rfl _ (by first | (go_simp; done) | (go_simp; rfl)) ?_; go_frame)
          | (refine Mix.go_sure_row (by first | exact Mix.wanted_none rfl | exact Mix.wanted_yes rfl rfl rfl) 24 _ rfl (w6.heap.size) rfl 24 _ (0, 0) _ (fun w1 hC1 => hC1.heap HRX.out (fun f => f)) Try.underlying24 rfl (by kernel_rfl) ?_; go_frame)
          | (refine Mix.go_sureW (by first | exact Mix.wanted_none rfl | exact Mix.wanted_yes rfl rfl rfl) _ (by rfl) (by rfl) _ (fun w' hC' => by go_wp2_with fail; refine Mix.stays ?_; go_frame; rfl) ?_; go_frame)
          | (refine Mix.go_lookW (by first | exact Mix.wanted_none rfl | exact Mix.wanted_yes rfl rfl rfl) _ (by rfl) (by rfl) _ (by go_wp2_with fail; refine Mix.stays ?_; go_frame; rfl) ?_; go_frame))
        refine Mix.go_turn ?_
        go_wp2_with fail
        have hk := HSAMO.out A5 Ab C5 Cb x1 HR1.out (HB7.out.fr0 HX1.out)
        refine hk.mono ?_
        clear hk
        rintro e x2 ⟨rfl, hF⟩
        have HX2 := Lib.hid (HX1.out.trans' hF)
        clear hF
        go_wp2
        refine Mix.then_go HX2.out ?_
        repeat (first
          | ((with_reducible refine Mix.go_skipS ?_ ?_); (focus (first | exact Mix.wanted_no rfl rfl rfl rfl | exact Mix.wanted_void rfl rfl rfl)); go_frame)
          | ((with_reducible refine Mix.go_skipL ?_ ?_); (focus (first | exact Mix.wanted_no rfl rfl rfl rfl | exact Mix.wanted_void rfl rfl rfl)); go_frame)
          | (refine Mix.go_move (by first | exact Mix.wanted_none rfl | exact Mix.wanted_yes rfl rfl rfl) _ rfl _ (by first | (go_simp; done) | (go_simp; rfl)) ?_; go_frame)
          | (refine Mix.go_assign (by first | exact Mix.wanted_none rfl | exact Mix.wanted_yes rfl rfl rfl) _ rfl _ (by first | (go_simp; done) | (go_simp; rfl)) ?_; go_frame)
          | (refine Mix.go_sure_row (by first | exact Mix.wanted_none rfl | exact Mix.wanted_yes rfl rfl rfl) 24 _ rfl (w6.heap.size) rfl 24 _ (0, 0) _ (fun w1 hC1 => hC1.heap HRX.out (fun f => f)) Try.underlying24 rfl (by kernel_rfl) ?_; go_frame)
          | (refine Mix.go_sureW (by first | exact Mix.wanted_none rfl | exact Mix.wanted_yes rfl rfl rfl) _ (by rfl) (by rfl) _ (fun w' hC' => by go_wp2_with fail; refine Mix.stays ?_; go_frame; rfl) ?_; go_frame)
          | (refine Mix.go_lookW (by first | exact Mix.wanted_none rfl | exact Mix.wanted_yes rfl rfl rfl) _ (by rfl) (by rfl) _ (by go_wp2_with fail; refine Mix.stays ?_; go_frame; rfl) ?_; go_frame))
        refine Mix.go_turn ?_
        go_wp2_with fail
        have hk := HRNG.out x2 (HL7.out.fr0 HX2.out)
        refine hk.mono ?_
        clear hk
        rintro e x3 ⟨v3, rfl, hp, hF⟩
        have HX3 := Lib.hid (HX2.out.trans' hF)
        have HR3 := Lib.hid hp
        obtain ⟨A3, C3, hv3⟩ := pairs_form hp
        subst hv3
        rw [HG.out] at HR3 ⊢
        clear hp hF
        go_wp2
        refine Mix.then_go HX3.out ?_
        repeat (first
          | ((with_reducible refine Mix.go_skipS ?_ ?_); (focus (first | exact Mix.wanted_no rfl rfl rfl rfl | exact Mix.wanted_void rfl rfl rfl)); go_frame)
          | ((with_reducible refine Mix.go_skipL ?_ ?_); (focus (first | exact Mix.wanted_no rfl rfl rfl rfl | exact Mix.wanted_void rfl rfl rfl)); go_frame)
          | (refine Mix.go_move (by first | exact Mix.wanted_none rfl | exact Mix.wanted_yes rfl rfl rfl) _ rfl _ (by first | (go_simp; done) | (go_simp; rfl)) ?_; go_frame)
          | (refine Mix.go_assign (by first | exact Mix.wanted_none rfl | exact Mix.wanted_yes rfl rfl rfl) _ rfl _ (by first | (go_simp; done) | (go_simp; rfl)) ?_; go_frame)
          | (refine Mix.go_sure_row (by first | exact Mix.wanted_none rfl | exact Mix.wanted_yes rfl rfl rfl) 24 _ rfl (w6.heap.size) rfl 24 _ (0, 0) _ (fun w1 hC1 => hC1.heap HRX.out (fun f => f)) Try.underlying24 rfl (by kernel_rfl) ?_; go_frame)
          | (refine Mix.go_sureW (by first | exact Mix.wanted_none rfl | exact Mix.wanted_yes rfl rfl rfl) _ (by rfl) (by rfl) _ (fun w' hC' => by go_wp2_with fail; refine Mix.stays ?_; go_frame; rfl) ?_; go_frame)
          | (refine Mix.go_lookW (by first | exact Mix.wanted_none rfl | exact Mix.wanted_yes rfl rfl rfl) _ (by rfl) (by rfl) _ (by go_wp2_with fail; refine Mix.stays ?_; go_frame; rfl) ?_; go_frame))
        refine Mix.go_turn ?_
        go_wp2_with fail
        have hk := HROWG.out A3 C3 x3 HR3.out
        refine hk.mono ?_
        clear hk
        rintro e x4 ⟨A4, C4, rfl, hp, hF⟩
        have HX4 := Lib.hid (HX3.out.trans' hF)
        have HR4 := Lib.hid hp
        clear hp hF
        go_wp2
        refine Mix.then_go HX4.out ?_
        repeat (first
          | ((with_reducible refine Mix.go_skipS ?_ ?_); (focus (first | exact Mix.wanted_no rfl rfl rfl rfl | exact Mix.wanted_void rfl rfl rfl)); go_frame)
          | ((with_reducible refine Mix.go_skipL ?_ ?_); (focus (first | exact Mix.wanted_no rfl rfl rfl rfl | exact Mix.wanted_void rfl rfl rfl)); go_frame)
          | (refine Mix.go_move (by first | exact Mix.wanted_none rfl | exact Mix.wanted_yes rfl rfl rfl) _ rfl _ (by first | (go_simp; done) | (go_simp; rfl)) ?_; go_frame)
          | (refine Mix.go_assign (by first | exact Mix.wanted_none rfl | exact Mix.wanted_yes rfl rfl rfl) _ rfl _ (by first | (go_simp; done) | (go_simp; rfl)) ?_; go_frame)
          | (refine Mix.go_sure_row (by first | exact Mix.wanted_none rfl | exact Mix.wanted_yes rfl rfl rfl) 24 _ rfl (w6.heap.size) rfl 24 _ (0, 0) _ (fun w1 hC1 => hC1.heap HRX.out (fun f => f)) Try.underlying24 rfl (by kernel_rfl) ?_; go_frame)
          | (refine Mix.go_sureW (by first | exact Mix.wanted_none rfl | exact Mix.wanted_yes rfl rfl rfl) _ (by rfl) (by rfl) _ (fun w' hC' => by go_wp2_with fail; refine Mix.stays ?_; go_frame; rfl) ?_; go_frame)
          | (refine Mix.go_lookW (by first | exact Mix.wanted_none rfl | exact Mix.wanted_yes rfl rfl rfl) _ (by rfl) (by rfl) _ (by go_wp2_with fail; refine Mix.stays ?_; go_frame; rfl) ?_; go_frame))
        refine Mix.go_turn ?_
        go_wp2_with fail
        have hk := HROWL.out A C x4 (HL7.out.fr0 HX4.out)
        refine hk.mono ?_
        clear hk
        rintro e x5 ⟨A6, C6, rfl, hp, hF⟩
        have HX5 := Lib.hid (HX4.out.trans' hF)
        have HR5 := Lib.hid hp
        have HR4b := Lib.hid (HR4.out.fr0 hF)
        clear hp hF
        go_wp2
        refine Mix.then_go HX5.out ?_
        repeat (first
          | ((with_reducible refine Mix.go_skipS ?_ ?_); (focus (first | exact Mix.wanted_no rfl rfl rfl rfl | exact Mix.wanted_void rfl rfl rfl)); go_frame)
          | ((with_reducible refine Mix.go_skipL ?_ ?_); (focus (first | exact Mix.wanted_no rfl rfl rfl rfl | exact Mix.wanted_void rfl rfl rfl)); go_frame)
          | (refine Mix.go_move (by first | exact Mix.wanted_none rfl | exact Mix.wanted_yes rfl rfl rfl) _ rfl _ (by first | (go_simp; done) | (go_simp; rfl)) ?_; go_frame)
          | (refine Mix.go_assign (by first | exact Mix.wanted_none rfl | exact Mix.wanted_yes rfl rfl rfl) _ rfl _ (by first | (go_simp; done) | (go_simp; rfl)) ?_; go_frame)
          | (refine Mix.go_sure_row (by first | exact Mix.wanted_none rfl | exact Mix.wanted_yes rfl rfl rfl) 24 _ rfl (w6.heap.size) rfl 24 _ (0, 0) _ (fun w1 hC1 => hC1.heap HRX.out (fun f => f)) Try.underlying24 rfl (by kernel_rfl) ?_; go_frame)
          | (refine Mix.go_sureW (by first | exact Mix.wanted_none rfl | exact Mix.wanted_yes rfl rfl rfl) _ (by rfl) (by rfl) _ (fun w' hC' => by go_wp2_with fail; refine Mix.stays ?_; go_frame; rfl) ?_; go_frame)
          | (refine Mix.go_lookW (by first | exact Mix.wanted_none rfl | exact Mix.wanted_yes rfl rfl rfl) _ (by rfl) (by rfl) _ (by go_wp2_with fail; refine Mix.stays ?_; go_frame; rfl) ?_; go_frame))
        refine Mix.go_turn ?_
        go_wp2_with fail
        have hk := HRRNG.out A6 C6 x5 HR5.out
        refine hk.mono ?_
        clear hk
        rintro e x6 ⟨v6, rfl, hp, hF⟩
        have HX6 := Lib.hid (HX5.out.trans' hF)
        have HR6 := Lib.hid hp
        obtain ⟨A8, C8, hv8⟩ := pairs_form hp
        subst hv8
        rw [HG.out] at HR6 ⊢
        have HR4c := Lib.hid (HR4b.out.fr0 hF)
        clear hp hF
        go_wp2
        refine Mix.then_go HX6.out ?_
        repeat (first
          | ((with_reducible refine Mix.go_skipS ?_ ?_); (focus (first | exact Mix.wanted_no rfl rfl rfl rfl | exact Mix.wanted_void rfl rfl rfl)); go_frame)
          | ((with_reducible refine Mix.go_skipL ?_ ?_); (focus (first | exact Mix.wanted_no rfl rfl rfl rfl | exact Mix.wanted_void rfl rfl rfl)); go_frame)
          | (refine Mix.go_move (by first | exact Mix.wanted_none rfl | exact Mix.wanted_yes rfl rfl rfl) _ rfl _ (by first | (go_simp; done) | (go_simp; rfl)) ?_; go_frame)
          | (refine Mix.go_assign (by first | exact Mix.wanted_none rfl | exact Mix.wanted_yes rfl rfl rfl) _ rfl _ (by first | (go_simp; done) | (go_simp; rfl)) ?_; go_frame)
          | (refine Mix.go_sure_row (by first | exact Mix.wanted_none rfl | exact Mix.wanted_yes rfl rfl rfl) 24 _ rfl (w6.heap.size) rfl 24 _ (0, 0) _ (fun w1 hC1 => hC1.heap HRX.out (fun f => f)) Try.underlying24 rfl (by kernel_rfl) ?_; go_frame)
          | (refine Mix.go_sureW (by first | exact Mix.wanted_none rfl | exact Mix.wanted_yes rfl rfl rfl) _ (by rfl) (by rfl) _ (fun w' hC' => by go_wp2_with fail; refine Mix.stays ?_; go_frame; rfl) ?_; go_frame)
          | (refine Mix.go_lookW (by first | exact Mix.wanted_none rfl | exact Mix.wanted_yes rfl rfl rfl) _ (by rfl) (by rfl) _ (by go_wp2_with fail; refine Mix.stays ?_; go_frame; rfl) ?_; go_frame))
        refine Mix.go_turn ?_
        go_wp2_with fail
        have hk := HSAMG.out A4 A8 C4 C8 x6 HR4c.out HR6.out
        refine hk.mono ?_
        clear hk
        rintro e x7 ⟨rfl, hF⟩
        have HX7 := Lib.hid (HX6.out.trans' hF)
        clear hF
        go_wp2
        refine Mix.then_go HX7.out ?_
        repeat (first
          | ((with_reducible refine Mix.go_skipS ?_ ?_); (focus (first | exact Mix.wanted_no rfl rfl rfl rfl | exact Mix.wanted_void rfl rfl rfl)); go_frame)
          | ((with_reducible refine Mix.go_skipL ?_ ?_); (focus (first | exact Mix.wanted_no rfl rfl rfl rfl | exact Mix.wanted_void rfl rfl rfl)); go_frame)
          | (refine Mix.go_move (by first | exact Mix.wanted_none rfl | exact Mix.wanted_yes rfl rfl rfl) _ rfl _ (by first | (go_simp; done) | (go_simp; rfl)) ?_; go_frame)
          | (refine Mix.go_assign (by first | exact Mix.wanted_none rfl | exact Mix.wanted_yes rfl rfl rfl) _ rfl _ (by first | (go_simp; done) | (go_simp; rfl)) ?_; go_frame)
          | (refine Mix.go_sure_row (by first | exact Mix.wanted_none rfl | exact Mix.wanted_yes rfl rfl rfl) 24 _ rfl (w6.heap.size) rfl 24 _ (0, 0) _ (fun w1 hC1 => hC1.heap HRX.out (fun f => f)) Try.underlying24 rfl (by kernel_rfl) ?_; go_frame)
          | (refine Mix.go_sureW (by first | exact Mix.wanted_none rfl | exact Mix.wanted_yes rfl rfl rfl) _ (by rfl) (by rfl) _ (fun w' hC' => by go_wp2_with fail; refine Mix.stays ?_; go_frame; rfl) ?_; go_frame)
          | (refine Mix.go_lookW (by first | exact Mix.wanted_none rfl | exact Mix.wanted_yes rfl rfl rfl) _ (by rfl) (by rfl) _ (by go_wp2_with fail; refine Mix.stays ?_; go_frame; rfl) ?_; go_frame))
        refine Mix.go_turn ?_
        go_wp2_with fail
        have hk := HGOOD.out x7 (HL7.out.fr0 HX7.out)
        refine hk.mono ?_
        clear hk
        rintro e x8 ⟨rfl, hF⟩
        have HX8 := Lib.hid (HX7.out.trans' hF)
        clear hF
        go_wp2
        refine Mix.then_go HX8.out ?_
        repeat (first
          | ((with_reducible refine Mix.go_skipS ?_ ?_); (focus (first | exact Mix.wanted_no rfl rfl rfl rfl | exact Mix.wanted_void rfl rfl rfl)); go_frame)
          | ((with_reducible refine Mix.go_skipL ?_ ?_); (focus (first | exact Mix.wanted_no rfl rfl rfl rfl | exact Mix.wanted_void rfl rfl rfl)); go_frame)
          | (refine Mix.go_move (by first | exact Mix.wanted_none rfl | exact Mix.wanted_yes rfl rfl rfl) _ rfl _ (by first | (go_simp; done) | (go_simp; rfl)) ?_; go_frame)
          | (refine Mix.go_assign (by first | exact Mix.wanted_none rfl | exact Mix.wanted_yes rfl rfl rfl) _ rfl _ (by first | (go_simp; done) | (go_simp; rfl)) ?_; go_frame)
          | (refine Mix.go_sure_row (by first | exact Mix.wanted_none rfl | exact Mix.wanted_yes rfl rfl rfl) 24 _ rfl (w6.heap.size) rfl 24 _ (0, 0) _ (fun w1 hC1 => hC1.heap HRX.out (fun f => f)) Try.underlying24 rfl (by kernel_rfl) ?_; go_frame)
          | (refine Mix.go_sureW (by first | exact Mix.wanted_none rfl | exact Mix.wanted_yes rfl rfl rfl) _ (by rfl) (by rfl) _ (fun w' hC' => by go_wp2_with fail; refine Mix.stays ?_; go_frame; rfl) ?_; go_frame)
          | (refine Mix.go_lookW (by first | exact Mix.wanted_none rfl | exact Mix.wanted_yes rfl rfl rfl) _ (by rfl) (by rfl) _ (by go_wp2_with fail; refine Mix.stays ?_; go_frame; rfl) ?_; go_frame))
        refine Mix.go_turn ?_
        go_wp2_with fail
        have hk := HROWL.out A C x8 (HL7.out.fr0 HX8.out)
        refine hk.mono ?_
        clear hk
        rintro e x9 ⟨A9, C9, rfl, hp, hF⟩
        have HX9 := Lib.hid (HX8.out.trans' hF)
        have HR9 := Lib.hid hp
        clear hp hF
        go_wp2
        refine Mix.then_go HX9.out ?_
        repeat (first
          | ((with_reducible refine Mix.go_skipS ?_ ?_); (focus (first | exact Mix.wanted_no rfl rfl rfl rfl | exact Mix.wanted_void rfl rfl rfl)); go_frame)
          | ((with_reducible refine Mix.go_skipL ?_ ?_); (focus (first | exact Mix.wanted_no rfl rfl rfl rfl | exact Mix.wanted_void rfl rfl rfl)); go_frame)
          | (refine Mix.go_move (by first | exact Mix.wanted_none rfl | exact Mix.wanted_yes rfl rfl rfl) _ rfl _ (by first | (go_simp; done) | (go_simp; rfl)) ?_; go_frame)
          | (refine Mix.go_assign (by first | exact Mix.wanted_none rfl | exact Mix.wanted_yes rfl rfl rfl) _ rfl _ (by first | (go_simp; done) | (go_simp; rfl)) ?_; go_frame)
          | (refine Mix.go_sure_row (by first | exact Mix.wanted_none rfl | exact Mix.wanted_yes rfl rfl rfl) 24 _ rfl (w6.heap.size) rfl 24 _ (0, 0) _ (fun w1 hC1 => hC1.heap HRX.out (fun f => f)) Try.underlying24 rfl (by kernel_rfl) ?_; go_frame)
          | (refine Mix.go_sureW (by first | exact Mix.wanted_none rfl | exact Mix.wanted_yes rfl rfl rfl) _ (by rfl) (by rfl) _ (fun w' hC' => by go_wp2_with fail; refine Mix.stays ?_; go_frame; rfl) ?_; go_frame)
          | (refine Mix.go_lookW (by first | exact Mix.wanted_none rfl | exact Mix.wanted_yes rfl rfl rfl) _ (by rfl) (by rfl) _ (by go_wp2_with fail; refine Mix.stays ?_; go_frame; rfl) ?_; go_frame))
        refine Mix.go_turn ?_
        go_wp2_with fail
        have hk := HRIS.out A9 C9 x9 HR9.out
        refine hk.mono ?_
        clear hk
        rintro e x10 ⟨rfl, hF⟩
        have HX10 := Lib.hid (HX9.out.trans' hF)
        clear hF
        go_wp2
        refine Mix.then_go HX10.out ?_
        clear HRIS HGOOD
        cases ri with
        | false =>
          repeat (first
            | ((with_reducible refine Mix.go_skipS ?_ ?_); (focus (first | exact Mix.wanted_no rfl rfl rfl rfl | exact Mix.wanted_void rfl rfl rfl)); go_frame)
            | ((with_reducible refine Mix.go_skipL ?_ ?_); (focus (first | exact Mix.wanted_no rfl rfl rfl rfl | exact Mix.wanted_void rfl rfl rfl)); go_frame)
            | (refine Mix.go_move (by first | exact Mix.wanted_none rfl | exact Mix.wanted_yes rfl rfl rfl) _ rfl _ (by first | (go_simp; done) | (go_simp; rfl)) ?_; go_frame)
            | (refine Mix.go_assign (by first | exact Mix.wanted_none rfl | exact Mix.wanted_yes rfl rfl rfl) _ rfl _ (by first | (go_simp; done) | (go_simp; rfl)) ?_; go_frame)
            | (refine Mix.go_sure_row (by first | exact Mix.wanted_none rfl | exact Mix.wanted_yes rfl rfl rfl) 24 _ rfl (w6.heap.size) rfl 24 _ (0, 0) _ (fun w1 hC1 => hC1.heap HRX.out (fun f => f)) Try.underlying24 rfl (by kernel_rfl) ?_; go_frame)
            | (refine Mix.go_sureW (by first | exact Mix.wanted_none rfl | exact Mix.wanted_yes rfl rfl rfl) _ (by rfl) (by rfl) _ (fun w' hC' => by go_wp2_with fail; refine Mix.stays ?_; go_frame; rfl) ?_; go_frame)
            | (refine Mix.go_lookW (by first | exact Mix.wanted_none rfl | exact Mix.wanted_yes rfl rfl rfl) _ (by rfl) (by rfl) _ (by go_wp2_with fail; refine Mix.stays ?_; go_frame; rfl) ?_; go_frame))
          refine Mix.go_end ?_
          go_wp2
          go_ret
          exact ⟨rfl, HF7.out.trans' HX10.out⟩
        | true =>
          repeat (first
            | ((with_reducible refine Mix.go_skipS ?_ ?_); (focus (first | exact Mix.wanted_no rfl rfl rfl rfl | exact Mix.wanted_void rfl rfl rfl)); go_frame)
            | ((with_reducible refine Mix.go_skipL ?_ ?_); (focus (first | exact Mix.wanted_no rfl rfl rfl rfl | exact Mix.wanted_void rfl rfl rfl)); go_frame)
            | (refine Mix.go_move (by first | exact Mix.wanted_none rfl | exact Mix.wanted_yes rfl rfl rfl) _ rfl _ (by first | (go_simp; done) | (go_simp; rfl)) ?_; go_frame)
            | (refine Mix.go_assign (by first | exact Mix.wanted_none rfl | exact Mix.wanted_yes rfl rfl rfl) _ rfl _ (by first | (go_simp; done) | (go_simp; rfl)) ?_; go_frame)
            | (refine Mix.go_sure_row (by first | exact Mix.wanted_none rfl | exact Mix.wanted_yes rfl rfl rfl) 24 _ rfl (w6.heap.size) rfl 24 _ (0, 0) _ (fun w1 hC1 => hC1.heap HRX.out (fun f => f)) Try.underlying24 rfl (by kernel_rfl) ?_; go_frame)
            | (refine Mix.go_sureW (by first | exact Mix.wanted_none rfl | exact Mix.wanted_yes rfl rfl rfl) _ (by rfl) (by rfl) _ (fun w' hC' => by go_wp2_with fail; refine Mix.stays ?_; go_frame; rfl) ?_; go_frame)
            | (refine Mix.go_lookW (by first | exact Mix.wanted_none rfl | exact Mix.wanted_yes rfl rfl rfl) _ (by rfl) (by rfl) _ (by go_wp2_with fail; refine Mix.stays ?_; go_frame; rfl) ?_; go_frame))
          refine Mix.go_end ?_
          go_wp2
          go_ret
          exact ⟨rfl, HF7.out.trans' HX10.out⟩
      · obtain ⟨pb, po, hAA, hc⟩ := pairs_at HP.out (L - 1) (by rw [HLL.out]; omega)
        subst hAA
        rw [← HLO.out.1, ← HLO.out.2] at hc
        obtain ⟨K, hK⟩ : ∃ K, L - 1 = K := ⟨_, rfl⟩
        rw [hK] at hc
        have HLC := Lib.hid (fun wx hx => hc wx (HF7.out.trans' hx))
        have HLF : Hid (0 < (L : Int) ∧ (L : Int) - 1 = (K : Int) ∧ (K : Int) < (L : Int) ∧ 0 ≤ (K : Int)) := Lib.hid (by omega)
        have hdec : decide (0 < L) = true := decide_eq_true hpos
        clear hc hK HLO hpos
        go_wp2_with fail
        rw [← HW7.out]
        clear hdec
        refine Mix.law (fun X => Fr0 w7 X) [(.sure, 0), (.sure, 1), (.sure, 2), (.sure, 3), (.sure, 4), (.sure, 6), (.turn, 5), (.turn, 7), (.sure, 8), (.sure, 9), (.sure, 10), (.sure, 11), (.sure, 12), (.sure, 15), (.sure, 17), (.sure, 18), (.turn, 13), (.turn, 14), (.turn, 16), (.turn, 19), (.turn, 20), (.sure, 21), (.sure, 22), (.sure, 23), (.sure, 25), (.turn, 24), (.turn, 26), (.turn, 27), (.sure, 28), (.sure, 29), (.sure, 30), (.sure, 31), (.sure, 32), (.sure, 33), (.sure, 34), (.sure, 35), (.sure, 36), (.sure, 37), (.sure, 38), (.sure, 39), (.sure, 40), (.sure, 41), (.sure, 42), (.sure, 43), (.sure, 44), (.sure, 45), (.sure, 46), (.look, 47), (.sure, 48), (.sure, 49), (.sure, 50), (.sure, 51)] (by kernel_rfl) (by kernel_rfl) (Fr.refl _ _).drew ?_
        simp only [List.map_cons, List.map_nil, Mix.nth_zero, Mix.nth_succ]
        have HX0 := Lib.hid ((Fr.refl (fun _ => False) w7).drew)
        generalize w7.drew = x0 at *
        repeat (first
          | ((with_reducible refine Mix.go_skipS ?_ ?_); (focus (first | exact Mix.wanted_no rfl rfl rfl rfl | exact Mix.wanted_void rfl rfl rfl)); go_frame)
          | ((with_reducible refine Mix.go_skipL ?_ ?_); (focus (first | exact Mix.wanted_no rfl rfl rfl rfl | exact Mix.wanted_void rfl rfl rfl)); go_frame)
          | (refine Mix.go_move (by first | exact Mix.wanted_none rfl | exact Mix.wanted_yes rfl rfl rfl) _ rfl _ (by first | (go_simp; done) | (go_simp; rfl)) ?_; go_frame)
          | (refine Mix.go_assign (by first | exact Mix.wanted_none rfl | exact Mix.wanted_yes rfl rfl rfl) _ rfl _ (by first | (go_simp; done) | (go_simp; rfl)) ?_; go_frame)
          | (refine Mix.go_sure_row (by first | exact Mix.wanted_none rfl | exact Mix.wanted_yes rfl rfl rfl) 24 _ rfl (w6.heap.size) rfl 24 _ (0, 0) _ (fun w1 hC1 => hC1.heap HRX.out (fun f => f)) Try.underlying24 rfl (by kernel_rfl) ?_; go_frame)
          | (refine Mix.go_sureW (by first | exact Mix.wanted_none rfl | exact Mix.wanted_yes rfl rfl rfl) _ (by rfl) (by rfl) _ (fun w' hC' => by go_wp2_with fail; refine Mix.stays ?_; go_frame; rfl) ?_; go_frame)
          | (refine Mix.go_lookW (by first | exact Mix.wanted_none rfl | exact Mix.wanted_yes rfl rfl rfl) _ (by rfl) (by rfl) _ (by go_wp2_with fail; refine Mix.stays ?_; go_frame; rfl) ?_; go_frame))
        refine Mix.go_turn ?_
        go_wp2_with fail
        have hk := HROWO.out Aa Ca x0 (HA7.out.fr0 HX0.out)
        refine hk.mono ?_
        clear hk
        rintro e x1 ⟨A5, C5, rfl, hp, hF⟩
        have HX1 := Lib.hid (HX0.out.trans' hF)
        have HR1 := Lib.hid hp
        clear hp hF
        go_wp2
        refine Mix.then_go HX1.out ?_
        repeat (first
          | ((with_reducible refine Mix.go_skipS ?_ ?_); (focus (first | exact Mix.wanted_no rfl rfl rfl rfl | exact Mix.wanted_void rfl rfl rfl)); go_frame)
          | ((with_reducible refine Mix.go_skipL ?_ ?_); (focus (first | exact Mix.wanted_no rfl rfl rfl rfl | exact Mix.wanted_void rfl rfl rfl)); go_frame)
          | (refine Mix.go_move (by first | exact Mix.wanted_none rfl | exact Mix.wanted_yes rfl rfl rfl) _ rfl _ (by first | (go_simp; done) | (go_simp; rfl)) ?_; go_frame)
          | (refine Mix.go_assign (by first | exact Mix.wanted_none rfl | exact Mix.wanted_yes rfl rfl rfl) _ rfl _ (by first | (go_simp; done) | (go_simp; rfl)) ?_; go_frame)
          | (refine Mix.go_sure_row (by first | exact Mix.wanted_none rfl | exact Mix.wanted_yes rfl rfl rfl) 24 _ rfl (w6.heap.size) rfl 24 _ (0, 0) _ (fun w1 hC1 => hC1.heap HRX.out (fun f => f)) Try.underlying24 rfl (by kernel_rfl) ?_; go_frame)
          | (refine Mix.go_sureW (by first | exact Mix.wanted_none rfl | exact Mix.wanted_yes rfl rfl rfl) _ (by rfl) (by rfl) _ (fun w' hC' => by go_wp2_with fail; refine Mix.stays ?_; go_frame; rfl) ?_; go_frame)
          | (refine Mix.go_lookW (by first | exact Mix.wanted_none rfl | exact Mix.wanted_yes rfl rfl rfl) _ (by rfl) (by rfl) _ (by go_wp2_with fail; refine Mix.stays ?_; go_frame; rfl) ?_; go_frame))
        refine Mix.go_turn ?_
        go_wp2_with fail
        have hk := HSAMO.out A5 Ab C5 Cb x1 HR1.out (HB7.out.fr0 HX1.out)
        refine hk.mono ?_
        clear hk
        rintro e x2 ⟨rfl, hF⟩
        have HX2 := Lib.hid (HX1.out.trans' hF)
        clear hF
        go_wp2
        refine Mix.then_go HX2.out ?_
        repeat (first
          | ((with_reducible refine Mix.go_skipS ?_ ?_); (focus (first | exact Mix.wanted_no rfl rfl rfl rfl | exact Mix.wanted_void rfl rfl rfl)); go_frame)
          | ((with_reducible refine Mix.go_skipL ?_ ?_); (focus (first | exact Mix.wanted_no rfl rfl rfl rfl | exact Mix.wanted_void rfl rfl rfl)); go_frame)
          | (refine Mix.go_move (by first | exact Mix.wanted_none rfl | exact Mix.wanted_yes rfl rfl rfl) _ rfl _ (by first | (go_simp; done) | (go_simp; rfl)) ?_; go_frame)
          | (refine Mix.go_assign (by first | exact Mix.wanted_none rfl | exact Mix.wanted_yes rfl rfl rfl) _ rfl _ (by first | (go_simp; done) | (go_simp; rfl)) ?_; go_frame)
          | (refine Mix.go_sure_row (by first | exact Mix.wanted_none rfl | exact Mix.wanted_yes rfl rfl rfl) 24 _ rfl (w6.heap.size) rfl 24 _ (0, 0) _ (fun w1 hC1 => hC1.heap HRX.out (fun f => f)) Try.underlying24 rfl (by kernel_rfl) ?_; go_frame)
          | (refine Mix.go_sureW (by first | exact Mix.wanted_none rfl | exact Mix.wanted_yes rfl rfl rfl) _ (by rfl) (by rfl) _ (fun w' hC' => by go_wp2_with fail; refine Mix.stays ?_; go_frame; rfl) ?_; go_frame)
          | (refine Mix.go_lookW (by first | exact Mix.wanted_none rfl | exact Mix.wanted_yes rfl rfl rfl) _ (by rfl) (by rfl) _ (by go_wp2_with fail; refine Mix.stays ?_; go_frame; rfl) ?_; go_frame))
        refine Mix.go_turn ?_
        go_wp2_with fail
        have hk := HRNG.out x2 (HL7.out.fr0 HX2.out)
        refine hk.mono ?_
        clear hk
        rintro e x3 ⟨v3, rfl, hp, hF⟩
        have HX3 := Lib.hid (HX2.out.trans' hF)
        have HR3 := Lib.hid hp
        obtain ⟨A3, C3, hv3⟩ := pairs_form hp
        subst hv3
        rw [HG.out] at HR3 ⊢
        clear hp hF
        go_wp2
        refine Mix.then_go HX3.out ?_
        repeat (first
          | ((with_reducible refine Mix.go_skipS ?_ ?_); (focus (first | exact Mix.wanted_no rfl rfl rfl rfl | exact Mix.wanted_void rfl rfl rfl)); go_frame)
          | ((with_reducible refine Mix.go_skipL ?_ ?_); (focus (first | exact Mix.wanted_no rfl rfl rfl rfl | exact Mix.wanted_void rfl rfl rfl)); go_frame)
          | (refine Mix.go_move (by first | exact Mix.wanted_none rfl | exact Mix.wanted_yes rfl rfl rfl) _ rfl _ (by first | (go_simp; done) | (go_simp; rfl)) ?_; go_frame)
          | (refine Mix.go_assign (by first | exact Mix.wanted_none rfl | exact Mix.wanted_yes rfl rfl rfl) _ rfl _ (by first | (go_simp; done) | (go_simp; rfl)) ?_; go_frame)
          | (refine Mix.go_sure_row (by first | exact Mix.wanted_none rfl | exact Mix.wanted_yes rfl rfl rfl) 24 _ rfl (w6.heap.size) rfl 24 _ (0, 0) _ (fun w1 hC1 => hC1.heap HRX.out (fun f => f)) Try.underlying24 rfl (by kernel_rfl) ?_; go_frame)
          | (refine Mix.go_sureW (by first | exact Mix.wanted_none rfl | exact Mix.wanted_yes rfl rfl rfl) _ (by rfl) (by rfl) _ (fun w' hC' => by go_wp2_with fail; refine Mix.stays ?_; go_frame; rfl) ?_; go_frame)
          | (refine Mix.go_lookW (by first | exact Mix.wanted_none rfl | exact Mix.wanted_yes rfl rfl rfl) _ (by rfl) (by rfl) _ (by go_wp2_with fail; refine Mix.stays ?_; go_frame; rfl) ?_; go_frame))
        refine Mix.go_turn ?_
        go_wp2_with fail
        have hk := HROWG.out A3 C3 x3 HR3.out
        refine hk.mono ?_
        clear hk
        rintro e x4 ⟨A4, C4, rfl, hp, hF⟩
        have HX4 := Lib.hid (HX3.out.trans' hF)
        have HR4 := Lib.hid hp
        clear hp hF
        go_wp2
        refine Mix.then_go HX4.out ?_
        repeat (first
          | ((with_reducible refine Mix.go_skipS ?_ ?_); (focus (first | exact Mix.wanted_no rfl rfl rfl rfl | exact Mix.wanted_void rfl rfl rfl)); go_frame)
          | ((with_reducible refine Mix.go_skipL ?_ ?_); (focus (first | exact Mix.wanted_no rfl rfl rfl rfl | exact Mix.wanted_void rfl rfl rfl)); go_frame)
          | (refine Mix.go_move (by first | exact Mix.wanted_none rfl | exact Mix.wanted_yes rfl rfl rfl) _ rfl _ (by first | (go_simp; done) | (go_simp; rfl)) ?_; go_frame)
          | (refine Mix.go_assign (by first | exact Mix.wanted_none rfl | exact Mix.wanted_yes rfl rfl rfl) _ rfl _ (by first | (go_simp; done) | (go_simp; rfl)) ?_; go_frame)
          | (refine Mix.go_sure_row (by first | exact Mix.wanted_none rfl | exact Mix.wanted_yes rfl rfl rfl) 24 _ rfl (w6.heap.size) rfl 24 _ (0, 0) _ (fun w1 hC1 => hC1.heap HRX.out (fun f => f)) Try.underlying24 rfl (by kernel_rfl) ?_; go_frame)
          | (refine Mix.go_sureW (by first | exact Mix.wanted_none rfl | exact Mix.wanted_yes rfl rfl rfl) _ (by rfl) (by rfl) _ (fun w' hC' => by go_wp2_with fail; refine Mix.stays ?_; go_frame; rfl) ?_; go_frame)
          | (refine Mix.go_lookW (by first | exact Mix.wanted_none rfl | exact Mix.wanted_yes rfl rfl rfl) _ (by rfl) (by rfl) _ (by go_wp2_with fail; refine Mix.stays ?_; go_frame; rfl) ?_; go_frame))
        refine Mix.go_turn ?_
        go_wp2_with fail
        have hk := HROWL.out (some ⟨pb, po, none⟩) C x4 (HL7.out.fr0 HX4.out)
        refine hk.mono ?_
        clear hk
        rintro e x5 ⟨A6, C6, rfl, hp, hF⟩
        have HX5 := Lib.hid (HX4.out.trans' hF)
        have HR5 := Lib.hid hp
        have HR4b := Lib.hid (HR4.out.fr0 hF)
        clear hp hF
        go_wp2
        refine Mix.then_go HX5.out ?_
        repeat (first
          | ((with_reducible refine Mix.go_skipS ?_ ?_); (focus (first | exact Mix.wanted_no rfl rfl rfl rfl | exact Mix.wanted_void rfl rfl rfl)); go_frame)
          | ((with_reducible refine Mix.go_skipL ?_ ?_); (focus (first | exact Mix.wanted_no rfl rfl rfl rfl | exact Mix.wanted_void rfl rfl rfl)); go_frame)
          | (refine Mix.go_move (by first | exact Mix.wanted_none rfl | exact Mix.wanted_yes rfl rfl rfl) _ rfl _ (by first | (go_simp; done) | (go_simp; rfl)) ?_; go_frame)
          | (refine Mix.go_assign (by first | exact Mix.wanted_none rfl | exact Mix.wanted_yes rfl rfl rfl) _ rfl _ (by first | (go_simp; done) | (go_simp; rfl)) ?_; go_frame)
          | (refine Mix.go_sure_row (by first | exact Mix.wanted_none rfl | exact Mix.wanted_yes rfl rfl rfl) 24 _ rfl (w6.heap.size) rfl 24 _ (0, 0) _ (fun w1 hC1 => hC1.heap HRX.out (fun f => f)) Try.underlying24 rfl (by kernel_rfl) ?_; go_frame)
          | (refine Mix.go_sureW (by first | exact Mix.wanted_none rfl | exact Mix.wanted_yes rfl rfl rfl) _ (by rfl) (by rfl) _ (fun w' hC' => by go_wp2_with fail; refine Mix.stays ?_; go_frame; rfl) ?_; go_frame)
          | (refine Mix.go_lookW (by first | exact Mix.wanted_none rfl | exact Mix.wanted_yes rfl rfl rfl) _ (by rfl) (by rfl) _ (by go_wp2_with fail; refine Mix.stays ?_; go_frame; rfl) ?_; go_frame))
        refine Mix.go_turn ?_
        go_wp2_with fail
        have hk := HRRNG.out A6 C6 x5 HR5.out
        refine hk.mono ?_
        clear hk
        rintro e x6 ⟨v6, rfl, hp, hF⟩
        have HX6 := Lib.hid (HX5.out.trans' hF)
        have HR6 := Lib.hid hp
        obtain ⟨A8, C8, hv8⟩ := pairs_form hp
        subst hv8
        rw [HG.out] at HR6 ⊢
        have HR4c := Lib.hid (HR4b.out.fr0 hF)
        clear hp hF
        go_wp2
        refine Mix.then_go HX6.out ?_
        repeat (first
          | ((with_reducible refine Mix.go_skipS ?_ ?_); (focus (first | exact Mix.wanted_no rfl rfl rfl rfl | exact Mix.wanted_void rfl rfl rfl)); go_frame)
          | ((with_reducible refine Mix.go_skipL ?_ ?_); (focus (first | exact Mix.wanted_no rfl rfl rfl rfl | exact Mix.wanted_void rfl rfl rfl)); go_frame)
          | (refine Mix.go_move (by first | exact Mix.wanted_none rfl | exact Mix.wanted_yes rfl rfl rfl) _ rfl _ (by first | (go_simp; done) | (go_simp; rfl)) ?_; go_frame)
          | (refine Mix.go_assign (by first | exact Mix.wanted_none rfl | exact Mix.wanted_yes rfl rfl rfl) _ rfl _ (by first | (go_simp; done) | (go_simp; rfl)) ?_; go_frame)
          | (refine Mix.go_sure_row (by first | exact Mix.wanted_none rfl | exact Mix.wanted_yes rfl rfl rfl) 24 _ rfl (w6.heap.size) rfl 24 _ (0, 0) _ (fun w1 hC1 => hC1.heap HRX.out (fun f => f)) Try.underlying24 rfl (by kernel_rfl) ?_; go_frame)
          | (refine Mix.go_sureW (by first | exact Mix.wanted_none rfl | exact Mix.wanted_yes rfl rfl rfl) _ (by rfl) (by rfl) _ (fun w' hC' => by go_wp2_with fail; refine Mix.stays ?_; go_frame; rfl) ?_; go_frame)
          | (refine Mix.go_lookW (by first | exact Mix.wanted_none rfl | exact Mix.wanted_yes rfl rfl rfl) _ (by rfl) (by rfl) _ (by go_wp2_with fail; refine Mix.stays ?_; go_frame; rfl) ?_; go_frame))
        refine Mix.go_turn ?_
        go_wp2_with fail
        have hk := HSAMG.out A4 A8 C4 C8 x6 HR4c.out HR6.out
        refine hk.mono ?_
        clear hk
        rintro e x7 ⟨rfl, hF⟩
        have HX7 := Lib.hid (HX6.out.trans' hF)
        clear hF
        go_wp2
        refine Mix.then_go HX7.out ?_
        repeat (first
          | ((with_reducible refine Mix.go_skipS ?_ ?_); (focus (first | exact Mix.wanted_no rfl rfl rfl rfl | exact Mix.wanted_void rfl rfl rfl)); go_frame)
          | ((with_reducible refine Mix.go_skipL ?_ ?_); (focus (first | exact Mix.wanted_no rfl rfl rfl rfl | exact Mix.wanted_void rfl rfl rfl)); go_frame)
          | (refine Mix.go_move (by first | exact Mix.wanted_none rfl | exact Mix.wanted_yes rfl rfl rfl) _ rfl _ (by first | (go_simp; done) | (go_simp; rfl)) ?_; go_frame)
          | (refine Mix.go_assign (by first | exact Mix.wanted_none rfl | exact Mix.wanted_yes rfl rfl rfl) _ rfl _ (by first | (go_simp; done) | (go_simp; rfl)) ?_; go_frame)
          | (refine Mix.go_sure_row (by first | exact Mix.wanted_none rfl | exact Mix.wanted_yes rfl rfl rfl) 24 _ rfl (w6.heap.size) rfl 24 _ (0, 0) _ (fun w1 hC1 => hC1.heap HRX.out (fun f => f)) Try.underlying24 rfl (by kernel_rfl) ?_; go_frame)
          | (refine Mix.go_sureW (by first | exact Mix.wanted_none rfl | exact Mix.wanted_yes rfl rfl rfl) _ (by rfl) (by rfl) _ (fun w' hC' => by go_wp2_with fail; refine Mix.stays ?_; go_frame; rfl) ?_; go_frame)
          | (refine Mix.go_lookW (by first | exact Mix.wanted_none rfl | exact Mix.wanted_yes rfl rfl rfl) _ (by rfl) (by rfl) _ (by go_wp2_with fail; refine Mix.stays ?_; go_frame; rfl) ?_; go_frame))
        refine Mix.go_turn ?_
        go_wp2_with fail
        have hk := HGOOD.out x7 (HL7.out.fr0 HX7.out)
        refine hk.mono ?_
        clear hk
        rintro e x8 ⟨rfl, hF⟩
        have HX8 := Lib.hid (HX7.out.trans' hF)
        clear hF
        go_wp2
        refine Mix.then_go HX8.out ?_
        repeat (first
          | ((with_reducible refine Mix.go_skipS ?_ ?_); (focus (first | exact Mix.wanted_no rfl rfl rfl rfl | exact Mix.wanted_void rfl rfl rfl)); go_frame)
          | ((with_reducible refine Mix.go_skipL ?_ ?_); (focus (first | exact Mix.wanted_no rfl rfl rfl rfl | exact Mix.wanted_void rfl rfl rfl)); go_frame)
          | (refine Mix.go_move (by first | exact Mix.wanted_none rfl | exact Mix.wanted_yes rfl rfl rfl) _ rfl _ (by first | (go_simp; done) | (go_simp; rfl)) ?_; go_frame)
          | (refine Mix.go_assign (by first | exact Mix.wanted_none rfl | exact Mix.wanted_yes rfl rfl rfl) _ rfl _ (by first | (go_simp; done) | (go_simp; rfl)) ?_; go_frame)
          | (refine Mix.go_sure_row (by first | exact Mix.wanted_none rfl | exact Mix.wanted_yes rfl rfl rfl) 24 _ rfl (w6.heap.size) rfl 24 _ (0, 0) _ (fun w1 hC1 => hC1.heap HRX.out (fun f => f)) Try.underlying24 rfl (by kernel_rfl) ?_; go_frame)
          | (refine Mix.go_sureW (by first | exact Mix.wanted_none rfl | exact Mix.wanted_yes rfl rfl rfl) _ (by rfl) (by rfl) _ (fun w' hC' => by go_wp2_with fail; refine Mix.stays ?_; go_frame; rfl) ?_; go_frame)
          | (refine Mix.go_lookW (by first | exact Mix.wanted_none rfl | exact Mix.wanted_yes rfl rfl rfl) _ (by rfl) (by rfl) _ (by go_wp2_with fail; refine Mix.stays ?_; go_frame; rfl) ?_; go_frame))
        refine Mix.go_turn ?_
        go_wp2_with fail
        have hk := HROWL.out (some ⟨pb, po, none⟩) C x8 (HL7.out.fr0 HX8.out)
        refine hk.mono ?_
        clear hk
        rintro e x9 ⟨A9, C9, rfl, hp, hF⟩
        have HX9 := Lib.hid (HX8.out.trans' hF)
        have HR9 := Lib.hid hp
        clear hp hF
        go_wp2
        refine Mix.then_go HX9.out ?_
        repeat (first
          | ((with_reducible refine Mix.go_skipS ?_ ?_); (focus (first | exact Mix.wanted_no rfl rfl rfl rfl | exact Mix.wanted_void rfl rfl rfl)); go_frame)
          | ((with_reducible refine Mix.go_skipL ?_ ?_); (focus (first | exact Mix.wanted_no rfl rfl rfl rfl | exact Mix.wanted_void rfl rfl rfl)); go_frame)
          | (refine Mix.go_move (by first | exact Mix.wanted_none rfl | exact Mix.wanted_yes rfl rfl rfl) _ rfl _ (by first | (go_simp; done) | (go_simp; rfl)) ?_; go_frame)
          | (refine Mix.go_assign (by first | exact Mix.wanted_none rfl | exact Mix.wanted_yes rfl rfl rfl) _ rfl _ (by first | (go_simp; done) | (go_simp; rfl)) ?_; go_frame)
          | (refine Mix.go_sure_row (by first | exact Mix.wanted_none rfl | exact Mix.wanted_yes rfl rfl rfl) 24 _ rfl (w6.heap.size) rfl 24 _ (0, 0) _ (fun w1 hC1 => hC1.heap HRX.out (fun f => f)) Try.underlying24 rfl (by kernel_rfl) ?_; go_frame)
          | (refine Mix.go_sureW (by first | exact Mix.wanted_none rfl | exact Mix.wanted_yes rfl rfl rfl) _ (by rfl) (by rfl) _ (fun w' hC' => by go_wp2_with fail; refine Mix.stays ?_; go_frame; rfl) ?_; go_frame)
          | (refine Mix.go_lookW (by first | exact Mix.wanted_none rfl | exact Mix.wanted_yes rfl rfl rfl) _ (by rfl) (by rfl) _ (by go_wp2_with fail; refine Mix.stays ?_; go_frame; rfl) ?_; go_frame))
        refine Mix.go_turn ?_
        go_wp2_with fail
        have hk := HRIS.out A9 C9 x9 HR9.out
        refine hk.mono ?_
        clear hk
        rintro e x10 ⟨rfl, hF⟩
        have HX10 := Lib.hid (HX9.out.trans' hF)
        clear hF
        obtain ⟨q0, q1⟩ := HLC.out x10 HX10.out
        obtain ⟨l1, l2, l3, l4⟩ := HLF.out
        have heq := eq_sp_yes lx ly
        have l0 : decide (0 < (L : Int)) = true := decide_eq_true l1
        have l9 : 0 < L := by omega
        have l8 : decide (0 < L) = true := decide_eq_true l9
        go_wp2
        refine Mix.then_go HX10.out ?_
        clear HRIS HGOOD
        cases ri with
        | false =>
          repeat (first
            | ((with_reducible refine Mix.go_skipS ?_ ?_); (focus (first | exact Mix.wanted_no rfl rfl rfl rfl | exact Mix.wanted_void rfl rfl rfl)); go_frame)
            | ((with_reducible refine Mix.go_skipL ?_ ?_); (focus (first | exact Mix.wanted_no rfl rfl rfl rfl | exact Mix.wanted_void rfl rfl rfl)); go_frame)
            | (refine Mix.go_move (by first | exact Mix.wanted_none rfl | exact Mix.wanted_yes rfl rfl rfl) _ rfl _ (by first | (go_simp; done) | (go_simp; rfl)) ?_; go_frame)
            | (refine Mix.go_assign (by first | exact Mix.wanted_none rfl | exact Mix.wanted_yes rfl rfl rfl) _ rfl _ (by first | (go_simp; done) | (go_simp; rfl)) ?_; go_frame)
            | (refine Mix.go_sure_row (by first | exact Mix.wanted_none rfl | exact Mix.wanted_yes rfl rfl rfl) 24 _ rfl (w6.heap.size) rfl 24 _ (0, 0) _ (fun w1 hC1 => hC1.heap HRX.out (fun f => f)) Try.underlying24 rfl (by kernel_rfl) ?_; go_frame)
            | (refine Mix.go_sureW (by first | exact Mix.wanted_none rfl | exact Mix.wanted_yes rfl rfl rfl) _ (by rfl) (by rfl) _ (fun w' hC' => by go_wp2_with fail; refine Mix.stays ?_; go_frame; rfl) ?_; go_frame)
            | (refine Mix.go_lookW (by first | exact Mix.wanted_none rfl | exact Mix.wanted_yes rfl rfl rfl) _ (by rfl) (by rfl) _ (by go_wp2_with fail; refine Mix.stays ?_; go_frame; rfl) ?_; go_frame))
          refine Mix.go_end ?_
          go_wp2
          go_ret
          exact ⟨rfl, HF7.out.trans' HX10.out⟩
        | true =>
          repeat (first
            | ((with_reducible refine Mix.go_skipS ?_ ?_); (focus (first | exact Mix.wanted_no rfl rfl rfl rfl | exact Mix.wanted_void rfl rfl rfl)); go_frame)
            | ((with_reducible refine Mix.go_skipL ?_ ?_); (focus (first | exact Mix.wanted_no rfl rfl rfl rfl | exact Mix.wanted_void rfl rfl rfl)); go_frame)
            | (refine Mix.go_move (by first | exact Mix.wanted_none rfl | exact Mix.wanted_yes rfl rfl rfl) _ rfl _ (by first | (go_simp; done) | (go_simp; rfl)) ?_; go_frame)
            | (refine Mix.go_assign (by first | exact Mix.wanted_none rfl | exact Mix.wanted_yes rfl rfl rfl) _ rfl _ (by first | (go_simp; done) | (go_simp; rfl)) ?_; go_frame)
            | (refine Mix.go_sure_row (by first | exact Mix.wanted_none rfl | exact Mix.wanted_yes rfl rfl rfl) 24 _ rfl (w6.heap.size) rfl 24 _ (0, 0) _ (fun w1 hC1 => hC1.heap HRX.out (fun f => f)) Try.underlying24 rfl (by kernel_rfl) ?_; go_frame)
            | (refine Mix.go_sureW (by first | exact Mix.wanted_none rfl | exact Mix.wanted_yes rfl rfl rfl) _ (by rfl) (by rfl) _ (fun w' hC' => by go_wp2_with fail; refine Mix.stays ?_; go_frame; rfl) ?_; go_frame)
            | (refine Mix.go_lookW (by first | exact Mix.wanted_none rfl | exact Mix.wanted_yes rfl rfl rfl) _ (by rfl) (by rfl) _ (by go_wp2_with fail; refine Mix.stays ?_; go_frame; rfl) ?_; go_frame))
          refine Mix.go_end ?_
          go_wp2
          go_ret
          exact ⟨rfl, HF7.out.trans' HX10.out⟩
end Go.Proofs.Ytijhabpbdiamiaa.SeriesL
