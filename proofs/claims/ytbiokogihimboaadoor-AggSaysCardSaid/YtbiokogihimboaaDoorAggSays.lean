/-
  AggSays walked.
-/
import Derived.Test.YtbiokogihimboaaDoorAggAwake
import Derived.Test.YtbiokogihimboaaDoorAggPut
import Derived.Test.YtbiokogihimboaaDoorAggRefT
namespace Go.Proofs.YtbiokogihimboaaDoor.AggL
open Go.RowKit Base _root_.Go.Proofs.YtbiokogihimboaaDoor.Series _root_.Go.Proofs.YtbiokogihimboaaDoor.Agg

set_option maxRecDepth 100000 in
set_option maxHeartbeats 8000000 in
theorem aggSays_walk (v : Value) (l : List Sm) (x : Ag) (want : Int) (hs : SizedS l) (hx : SizedA x) (hw : -9223372036854775808 ≤ want ∧ want ≤ 9223372036854775807) (w : World) (hP : PairsIs w v l) (hL : Laid w) :
    Calls Tryd.prog 4 #[v, .agg (a6 x), .int .i64 want] w fun e w' => e = .returned (.bool true) ∧ Fr0 w w' := by
  obtain ⟨A, C, rfl⟩ := pairs_form hP
  have HP := Lib.hid hP
  have HL := Lib.hid hL
  have HB0 := Lib.hid (Bx.new 24 w x)
  have HF0 : Hid (Fr0 w (w.alloc (.cells #[.int .i64 x.c, .int .i64 x.s, .int .i64 x.n, .int .i64 x.x, .int .i64 x.l, .bool x.o] 24))) := Lib.hid ((Fr.refl _ _).alloc _)
  have HOF : Hid (¬ 200 < l.length → ∀ w, PairsIs w (.slice A l.length C) l → Calls Tryd.prog 10 #[.slice A l.length C] w fun e w' => e = .returned (.agg (a6 (agOf l))) ∧ Fr0 w w') := Lib.hid (fun h w hp => pof_any _ l (by omega) hs w hp)
  have HRW : Hid (¬ 200 < l.length → ∀ w, PairsIs w (.slice A l.length C) l → Calls Tryd.prog 18 #[.slice A l.length C] w fun e w' => ∃ A C, e = .returned (.slice A l.length C) ∧ PairsIs w' (.slice A l.length C) l ∧ Fr0 w w') := Lib.hid (fun h w hp => rows_any _ l (by omega) w hp)
  have HRO : Hid (¬ 200 < l.length → ∀ v w, PairsIs w v l → Calls Tryd.prog 17 #[v] w fun e w' => e = .returned (.agg (a6 (agOf l))) ∧ Fr0 w w') := Lib.hid (fun h v w hp => rof_any _ l (by omega) hs w hp)
  have HPU := Lib.hid (fun w => pput_any x hx want hw w)
  have HRP := Lib.hid (fun w => rput_any x hx want hw w)
  have HTX := Lib.hid (fun w h => ptext_any x hx w h)
  have HRT := Lib.hid (fun w => rtext_any x hx w)
  have HOWN : Hid (∀ (q : Ag) w, Calls Tryd.prog 16 #[.agg #[.int .i64 q.c, .int .i64 q.s, .int .i64 q.n, .int .i64 q.x, .int .i64 q.l, .bool q.o]] w fun e w' => e = .returned (.agg #[.int .i64 q.c, .int .i64 q.s, .int .i64 q.n, .int .i64 q.x, .int .i64 q.l, .bool q.o]) ∧ Fr0 w w') := Lib.hid own_any
  unfold PutPost at HPU HRP
  clear hP hL hs hx
  generalize agOf l = ao at *
  generalize putErr x want = er at *
  generalize putOut x want = out at *
  generalize textOf x = txt at *
  rw [show a6 ao = #[.int .i64 ao.c, .int .i64 ao.s, .int .i64 ao.n, .int .i64 ao.x, .int .i64 ao.l, .bool ao.o] from rfl] at HOF HRO
  rw [show a6 x = #[.int .i64 x.c, .int .i64 x.s, .int .i64 x.n, .int .i64 x.x, .int .i64 x.l, .bool x.o] from rfl] at HPU HRP HTX HRT ⊢
  generalize hN : l.length = N at *
  have HN := Lib.hid hN
  clear hN
  go_enter Tryd.func4, Tryd.ntmps4
  go_wp2_with fail
  refine (awake_any _ (HL.out.fr HF0.out)).mono ?_
  rintro e w1 ⟨rfl, hF⟩
  have HF1 := Lib.hid (HF0.out.trans' hF)
  have HB1 := Lib.hid (HB0.out.fr0 hF)
  clear hF HF0 HB0
  by_cases h1 : 200 < N
  · go_wp2
    go_ret
    exact ⟨rfl, HF1.out⟩
  obtain ⟨k0, k1, k2, k3, k4, k5⟩ := HB1.out.cells
  go_wp2_with fail
  generalize hg : w.heap.size = g at *
  have HGE := Lib.hid hg
  clear hg
  refine (HPU.out w1).mono ?_
  clear k0 k1 k2 k3 k4 k5
  rintro e w2 ⟨Ap, Cp, rfl, hB, hF⟩
  have HF2 := Lib.hid (HF1.out.trans' hF)
  have HB2 := Lib.hid (HB1.out.fr0 hF)
  have HP2 := Lib.hid hB
  clear hF hB HF1 HB1
  obtain ⟨k0, k1, k2, k3, k4, k5⟩ := HB2.out.cells
  go_wp2_with fail
  refine (HOWN.out x w2).mono ?_
  clear k0 k1 k2 k3 k4 k5
  rintro e w3 ⟨rfl, hF⟩
  have HF3 := Lib.hid (HF2.out.trans' hF)
  have HB3 := Lib.hid (HB2.out.fr0 hF)
  have HP3 := Lib.hid (HP2.out.fr0 hF)
  clear hF HF2 HB2 HP2
  go_wp2_with fail
  refine (HRP.out w3).mono ?_
  rintro e w4 ⟨Aq, Cq, rfl, hB, hF⟩
  have HF4 := Lib.hid (HF3.out.trans' hF)
  have HB4 := Lib.hid (HB3.out.fr0 hF)
  have HPB := Lib.hid (HP3.out.fr0 hF)
  have HQB := Lib.hid hB
  clear hF hB HF3 HB3 HP3
  have HXR := Lib.hid HB4.out.heap
  have HL4 := Lib.hid (HL.out.fr HF4.out)
  have HP4 := Lib.hid (HP.out.fr0 HF4.out)
  have heq := fun w => eq_ref ao w
  have hout : (out == out) = true := beq_self_eq_true out
  have her : (er == er) = true := beq_self_eq_true er
  have htx : (txt == txt) = true := beq_self_eq_true txt
  go_wp2_with fail
  refine Mix.law (fun X => Fr0 w4 X) [(.sure, 0), (.sure, 3), (.turn, 1), (.turn, 2), (.turn, 4), (.turn, 5), (.sure, 6), (.sure, 7), (.sure, 8), (.sure, 9), (.sure, 10), (.sure, 11), (.sure, 12), (.sure, 13), (.sure, 14), (.sure, 15), (.sure, 16), (.sure, 17), (.sure, 18), (.sure, 19), (.sure, 20), (.sure, 22), (.turn, 21), (.turn, 23), (.turn, 24), (.sure, 25), (.sure, 26), (.sure, 27)] (by kernel_rfl) (by kernel_rfl) (Fr.refl _ _).drew ?_
  simp only [List.map_cons, List.map_nil, Mix.nth_zero, Mix.nth_succ]
  have HX0 := Lib.hid ((Fr.refl (fun _ => False) w4).drew)
  generalize w4.drew = x0 at *
  repeat (first
    | ((with_reducible refine Mix.go_skipS ?_ ?_); (focus (first | exact Mix.wanted_no rfl rfl rfl rfl | exact Mix.wanted_void rfl rfl rfl)); go_frame)
    | ((with_reducible refine Mix.go_skipL ?_ ?_); (focus (first | exact Mix.wanted_no rfl rfl rfl rfl | exact Mix.wanted_void rfl rfl rfl)); go_frame)
    | (refine Mix.go_move (by first | exact Mix.wanted_none rfl | exact Mix.wanted_yes rfl rfl rfl) _ rfl _ (by first | (go_simp; done) | (go_simp; rfl)) ?_; go_frame)
    | (refine Mix.go_assign (by first | exact Mix.wanted_none rfl | exact Mix.wanted_yes rfl rfl rfl) _ rfl _ (by first | (go_simp; done) | (go_simp; rfl)) ?_; go_frame)
    | (refine Mix.go_sure_row (by first | exact Mix.wanted_none rfl | exact Mix.wanted_yes rfl rfl rfl) 24 _ rfl (g) rfl 24 _ (0, 0) _ (fun w1 hC1 => hC1.heap HXR.out (fun f => f)) Tryd.underlying24 rfl (by kernel_rfl) ?_; go_frame)
    | (refine Mix.go_sure_conv (by first | exact Mix.wanted_none rfl | exact Mix.wanted_yes rfl rfl rfl) 28 9 _ rfl _ _ rfl (fun w1 hC1 => (HPB.out.fr0 hC1).convert (P := Tryd.prog) 28 9 5 Tryd.underlying28 Tryd.underlying5 Tryd.underlying9) ?_; go_frame)
    | (refine Mix.go_sure_conv (by first | exact Mix.wanted_none rfl | exact Mix.wanted_yes rfl rfl rfl) 28 9 _ rfl _ _ rfl (fun w1 hC1 => (HQB.out.fr0 hC1).convert (P := Tryd.prog) 28 9 5 Tryd.underlying28 Tryd.underlying5 Tryd.underlying9) ?_; go_frame)
    | (refine Mix.go_sureW (by first | exact Mix.wanted_none rfl | exact Mix.wanted_yes rfl rfl rfl) _ (by rfl) (by rfl) _ (fun w' hC' => by go_wp2_with fail; refine Mix.stays ?_; go_frame; rfl) ?_; go_frame)
    | (refine Mix.go_lookW (by first | exact Mix.wanted_none rfl | exact Mix.wanted_yes rfl rfl rfl) _ (by rfl) (by rfl) _ (by go_wp2_with fail; refine Mix.stays ?_; go_frame; rfl) ?_; go_frame))
  refine Mix.go_turn ?_
  go_wp2_with fail
  refine (HOF.out h1 x0 (HP4.out.fr0 HX0.out)).mono ?_
  rintro e x1 ⟨rfl, hF⟩
  have HX1 := Lib.hid (HX0.out.trans' hF)
  clear hF
  go_wp2
  refine Mix.then_go HX1.out ?_
  repeat (first
    | ((with_reducible refine Mix.go_skipS ?_ ?_); (focus (first | exact Mix.wanted_no rfl rfl rfl rfl | exact Mix.wanted_void rfl rfl rfl)); go_frame)
    | ((with_reducible refine Mix.go_skipL ?_ ?_); (focus (first | exact Mix.wanted_no rfl rfl rfl rfl | exact Mix.wanted_void rfl rfl rfl)); go_frame)
    | (refine Mix.go_move (by first | exact Mix.wanted_none rfl | exact Mix.wanted_yes rfl rfl rfl) _ rfl _ (by first | (go_simp; done) | (go_simp; rfl)) ?_; go_frame)
    | (refine Mix.go_assign (by first | exact Mix.wanted_none rfl | exact Mix.wanted_yes rfl rfl rfl) _ rfl _ (by first | (go_simp; done) | (go_simp; rfl)) ?_; go_frame)
    | (refine Mix.go_sure_row (by first | exact Mix.wanted_none rfl | exact Mix.wanted_yes rfl rfl rfl) 24 _ rfl (g) rfl 24 _ (0, 0) _ (fun w1 hC1 => hC1.heap HXR.out (fun f => f)) Tryd.underlying24 rfl (by kernel_rfl) ?_; go_frame)
    | (refine Mix.go_sure_conv (by first | exact Mix.wanted_none rfl | exact Mix.wanted_yes rfl rfl rfl) 28 9 _ rfl _ _ rfl (fun w1 hC1 => (HPB.out.fr0 hC1).convert (P := Tryd.prog) 28 9 5 Tryd.underlying28 Tryd.underlying5 Tryd.underlying9) ?_; go_frame)
    | (refine Mix.go_sure_conv (by first | exact Mix.wanted_none rfl | exact Mix.wanted_yes rfl rfl rfl) 28 9 _ rfl _ _ rfl (fun w1 hC1 => (HQB.out.fr0 hC1).convert (P := Tryd.prog) 28 9 5 Tryd.underlying28 Tryd.underlying5 Tryd.underlying9) ?_; go_frame)
    | (refine Mix.go_sureW (by first | exact Mix.wanted_none rfl | exact Mix.wanted_yes rfl rfl rfl) _ (by rfl) (by rfl) _ (fun w' hC' => by go_wp2_with fail; refine Mix.stays ?_; go_frame; rfl) ?_; go_frame)
    | (refine Mix.go_lookW (by first | exact Mix.wanted_none rfl | exact Mix.wanted_yes rfl rfl rfl) _ (by rfl) (by rfl) _ (by go_wp2_with fail; refine Mix.stays ?_; go_frame; rfl) ?_; go_frame))
  refine Mix.go_turn ?_
  go_wp2_with fail
  refine (HOWN.out ao x1).mono ?_
  rintro e x2 ⟨rfl, hF⟩
  have HX2 := Lib.hid (HX1.out.trans' hF)
  clear hF
  go_wp2
  refine Mix.then_go HX2.out ?_
  repeat (first
    | ((with_reducible refine Mix.go_skipS ?_ ?_); (focus (first | exact Mix.wanted_no rfl rfl rfl rfl | exact Mix.wanted_void rfl rfl rfl)); go_frame)
    | ((with_reducible refine Mix.go_skipL ?_ ?_); (focus (first | exact Mix.wanted_no rfl rfl rfl rfl | exact Mix.wanted_void rfl rfl rfl)); go_frame)
    | (refine Mix.go_move (by first | exact Mix.wanted_none rfl | exact Mix.wanted_yes rfl rfl rfl) _ rfl _ (by first | (go_simp; done) | (go_simp; rfl)) ?_; go_frame)
    | (refine Mix.go_assign (by first | exact Mix.wanted_none rfl | exact Mix.wanted_yes rfl rfl rfl) _ rfl _ (by first | (go_simp; done) | (go_simp; rfl)) ?_; go_frame)
    | (refine Mix.go_sure_row (by first | exact Mix.wanted_none rfl | exact Mix.wanted_yes rfl rfl rfl) 24 _ rfl (g) rfl 24 _ (0, 0) _ (fun w1 hC1 => hC1.heap HXR.out (fun f => f)) Tryd.underlying24 rfl (by kernel_rfl) ?_; go_frame)
    | (refine Mix.go_sure_conv (by first | exact Mix.wanted_none rfl | exact Mix.wanted_yes rfl rfl rfl) 28 9 _ rfl _ _ rfl (fun w1 hC1 => (HPB.out.fr0 hC1).convert (P := Tryd.prog) 28 9 5 Tryd.underlying28 Tryd.underlying5 Tryd.underlying9) ?_; go_frame)
    | (refine Mix.go_sure_conv (by first | exact Mix.wanted_none rfl | exact Mix.wanted_yes rfl rfl rfl) 28 9 _ rfl _ _ rfl (fun w1 hC1 => (HQB.out.fr0 hC1).convert (P := Tryd.prog) 28 9 5 Tryd.underlying28 Tryd.underlying5 Tryd.underlying9) ?_; go_frame)
    | (refine Mix.go_sureW (by first | exact Mix.wanted_none rfl | exact Mix.wanted_yes rfl rfl rfl) _ (by rfl) (by rfl) _ (fun w' hC' => by go_wp2_with fail; refine Mix.stays ?_; go_frame; rfl) ?_; go_frame)
    | (refine Mix.go_lookW (by first | exact Mix.wanted_none rfl | exact Mix.wanted_yes rfl rfl rfl) _ (by rfl) (by rfl) _ (by go_wp2_with fail; refine Mix.stays ?_; go_frame; rfl) ?_; go_frame))
  refine Mix.go_turn ?_
  go_wp2_with fail
  refine (HRW.out h1 x2 (HP4.out.fr0 HX2.out)).mono ?_
  rintro e x3 ⟨Ar, Cr, rfl, hPR, hF⟩
  have HX3 := Lib.hid (HX2.out.trans' hF)
  have HPR := Lib.hid hPR; clear hPR
  clear hF
  go_wp2
  refine Mix.then_go HX3.out ?_
  repeat (first
    | ((with_reducible refine Mix.go_skipS ?_ ?_); (focus (first | exact Mix.wanted_no rfl rfl rfl rfl | exact Mix.wanted_void rfl rfl rfl)); go_frame)
    | ((with_reducible refine Mix.go_skipL ?_ ?_); (focus (first | exact Mix.wanted_no rfl rfl rfl rfl | exact Mix.wanted_void rfl rfl rfl)); go_frame)
    | (refine Mix.go_move (by first | exact Mix.wanted_none rfl | exact Mix.wanted_yes rfl rfl rfl) _ rfl _ (by first | (go_simp; done) | (go_simp; rfl)) ?_; go_frame)
    | (refine Mix.go_assign (by first | exact Mix.wanted_none rfl | exact Mix.wanted_yes rfl rfl rfl) _ rfl _ (by first | (go_simp; done) | (go_simp; rfl)) ?_; go_frame)
    | (refine Mix.go_sure_row (by first | exact Mix.wanted_none rfl | exact Mix.wanted_yes rfl rfl rfl) 24 _ rfl (g) rfl 24 _ (0, 0) _ (fun w1 hC1 => hC1.heap HXR.out (fun f => f)) Tryd.underlying24 rfl (by kernel_rfl) ?_; go_frame)
    | (refine Mix.go_sure_conv (by first | exact Mix.wanted_none rfl | exact Mix.wanted_yes rfl rfl rfl) 28 9 _ rfl _ _ rfl (fun w1 hC1 => (HPB.out.fr0 hC1).convert (P := Tryd.prog) 28 9 5 Tryd.underlying28 Tryd.underlying5 Tryd.underlying9) ?_; go_frame)
    | (refine Mix.go_sure_conv (by first | exact Mix.wanted_none rfl | exact Mix.wanted_yes rfl rfl rfl) 28 9 _ rfl _ _ rfl (fun w1 hC1 => (HQB.out.fr0 hC1).convert (P := Tryd.prog) 28 9 5 Tryd.underlying28 Tryd.underlying5 Tryd.underlying9) ?_; go_frame)
    | (refine Mix.go_sureW (by first | exact Mix.wanted_none rfl | exact Mix.wanted_yes rfl rfl rfl) _ (by rfl) (by rfl) _ (fun w' hC' => by go_wp2_with fail; refine Mix.stays ?_; go_frame; rfl) ?_; go_frame)
    | (refine Mix.go_lookW (by first | exact Mix.wanted_none rfl | exact Mix.wanted_yes rfl rfl rfl) _ (by rfl) (by rfl) _ (by go_wp2_with fail; refine Mix.stays ?_; go_frame; rfl) ?_; go_frame))
  refine Mix.go_turn ?_
  go_wp2_with fail
  refine (HRO.out h1 _ x3 HPR.out).mono ?_
  rintro e x4 ⟨rfl, hF⟩
  have HX4 := Lib.hid (HX3.out.trans' hF)
  clear hF
  go_wp2
  refine Mix.then_go HX4.out ?_
  repeat (first
    | ((with_reducible refine Mix.go_skipS ?_ ?_); (focus (first | exact Mix.wanted_no rfl rfl rfl rfl | exact Mix.wanted_void rfl rfl rfl)); go_frame)
    | ((with_reducible refine Mix.go_skipL ?_ ?_); (focus (first | exact Mix.wanted_no rfl rfl rfl rfl | exact Mix.wanted_void rfl rfl rfl)); go_frame)
    | (refine Mix.go_move (by first | exact Mix.wanted_none rfl | exact Mix.wanted_yes rfl rfl rfl) _ rfl _ (by first | (go_simp; done) | (go_simp; rfl)) ?_; go_frame)
    | (refine Mix.go_assign (by first | exact Mix.wanted_none rfl | exact Mix.wanted_yes rfl rfl rfl) _ rfl _ (by first | (go_simp; done) | (go_simp; rfl)) ?_; go_frame)
    | (refine Mix.go_sure_row (by first | exact Mix.wanted_none rfl | exact Mix.wanted_yes rfl rfl rfl) 24 _ rfl (g) rfl 24 _ (0, 0) _ (fun w1 hC1 => hC1.heap HXR.out (fun f => f)) Tryd.underlying24 rfl (by kernel_rfl) ?_; go_frame)
    | (refine Mix.go_sure_conv (by first | exact Mix.wanted_none rfl | exact Mix.wanted_yes rfl rfl rfl) 28 9 _ rfl _ _ rfl (fun w1 hC1 => (HPB.out.fr0 hC1).convert (P := Tryd.prog) 28 9 5 Tryd.underlying28 Tryd.underlying5 Tryd.underlying9) ?_; go_frame)
    | (refine Mix.go_sure_conv (by first | exact Mix.wanted_none rfl | exact Mix.wanted_yes rfl rfl rfl) 28 9 _ rfl _ _ rfl (fun w1 hC1 => (HQB.out.fr0 hC1).convert (P := Tryd.prog) 28 9 5 Tryd.underlying28 Tryd.underlying5 Tryd.underlying9) ?_; go_frame)
    | (refine Mix.go_sureW (by first | exact Mix.wanted_none rfl | exact Mix.wanted_yes rfl rfl rfl) _ (by rfl) (by rfl) _ (fun w' hC' => by go_wp2_with fail; refine Mix.stays ?_; go_frame; rfl) ?_; go_frame)
    | (refine Mix.go_lookW (by first | exact Mix.wanted_none rfl | exact Mix.wanted_yes rfl rfl rfl) _ (by rfl) (by rfl) _ (by go_wp2_with fail; refine Mix.stays ?_; go_frame; rfl) ?_; go_frame))
  refine Mix.go_turn ?_
  go_wp2_with fail
  refine (HTX.out x4 (HL4.out.fr HX4.out)).mono ?_
  rintro e x5 ⟨rfl, hF⟩
  have HX5 := Lib.hid (HX4.out.trans' hF)
  clear hF
  go_wp2
  refine Mix.then_go HX5.out ?_
  repeat (first
    | ((with_reducible refine Mix.go_skipS ?_ ?_); (focus (first | exact Mix.wanted_no rfl rfl rfl rfl | exact Mix.wanted_void rfl rfl rfl)); go_frame)
    | ((with_reducible refine Mix.go_skipL ?_ ?_); (focus (first | exact Mix.wanted_no rfl rfl rfl rfl | exact Mix.wanted_void rfl rfl rfl)); go_frame)
    | (refine Mix.go_move (by first | exact Mix.wanted_none rfl | exact Mix.wanted_yes rfl rfl rfl) _ rfl _ (by first | (go_simp; done) | (go_simp; rfl)) ?_; go_frame)
    | (refine Mix.go_assign (by first | exact Mix.wanted_none rfl | exact Mix.wanted_yes rfl rfl rfl) _ rfl _ (by first | (go_simp; done) | (go_simp; rfl)) ?_; go_frame)
    | (refine Mix.go_sure_row (by first | exact Mix.wanted_none rfl | exact Mix.wanted_yes rfl rfl rfl) 24 _ rfl (g) rfl 24 _ (0, 0) _ (fun w1 hC1 => hC1.heap HXR.out (fun f => f)) Tryd.underlying24 rfl (by kernel_rfl) ?_; go_frame)
    | (refine Mix.go_sure_conv (by first | exact Mix.wanted_none rfl | exact Mix.wanted_yes rfl rfl rfl) 28 9 _ rfl _ _ rfl (fun w1 hC1 => (HPB.out.fr0 hC1).convert (P := Tryd.prog) 28 9 5 Tryd.underlying28 Tryd.underlying5 Tryd.underlying9) ?_; go_frame)
    | (refine Mix.go_sure_conv (by first | exact Mix.wanted_none rfl | exact Mix.wanted_yes rfl rfl rfl) 28 9 _ rfl _ _ rfl (fun w1 hC1 => (HQB.out.fr0 hC1).convert (P := Tryd.prog) 28 9 5 Tryd.underlying28 Tryd.underlying5 Tryd.underlying9) ?_; go_frame)
    | (refine Mix.go_sureW (by first | exact Mix.wanted_none rfl | exact Mix.wanted_yes rfl rfl rfl) _ (by rfl) (by rfl) _ (fun w' hC' => by go_wp2_with fail; refine Mix.stays ?_; go_frame; rfl) ?_; go_frame)
    | (refine Mix.go_lookW (by first | exact Mix.wanted_none rfl | exact Mix.wanted_yes rfl rfl rfl) _ (by rfl) (by rfl) _ (by go_wp2_with fail; refine Mix.stays ?_; go_frame; rfl) ?_; go_frame))
  refine Mix.go_turn ?_
  go_wp2_with fail
  refine (HOWN.out x x5).mono ?_
  rintro e x6 ⟨rfl, hF⟩
  have HX6 := Lib.hid (HX5.out.trans' hF)
  clear hF
  go_wp2
  refine Mix.then_go HX6.out ?_
  repeat (first
    | ((with_reducible refine Mix.go_skipS ?_ ?_); (focus (first | exact Mix.wanted_no rfl rfl rfl rfl | exact Mix.wanted_void rfl rfl rfl)); go_frame)
    | ((with_reducible refine Mix.go_skipL ?_ ?_); (focus (first | exact Mix.wanted_no rfl rfl rfl rfl | exact Mix.wanted_void rfl rfl rfl)); go_frame)
    | (refine Mix.go_move (by first | exact Mix.wanted_none rfl | exact Mix.wanted_yes rfl rfl rfl) _ rfl _ (by first | (go_simp; done) | (go_simp; rfl)) ?_; go_frame)
    | (refine Mix.go_assign (by first | exact Mix.wanted_none rfl | exact Mix.wanted_yes rfl rfl rfl) _ rfl _ (by first | (go_simp; done) | (go_simp; rfl)) ?_; go_frame)
    | (refine Mix.go_sure_row (by first | exact Mix.wanted_none rfl | exact Mix.wanted_yes rfl rfl rfl) 24 _ rfl (g) rfl 24 _ (0, 0) _ (fun w1 hC1 => hC1.heap HXR.out (fun f => f)) Tryd.underlying24 rfl (by kernel_rfl) ?_; go_frame)
    | (refine Mix.go_sure_conv (by first | exact Mix.wanted_none rfl | exact Mix.wanted_yes rfl rfl rfl) 28 9 _ rfl _ _ rfl (fun w1 hC1 => (HPB.out.fr0 hC1).convert (P := Tryd.prog) 28 9 5 Tryd.underlying28 Tryd.underlying5 Tryd.underlying9) ?_; go_frame)
    | (refine Mix.go_sure_conv (by first | exact Mix.wanted_none rfl | exact Mix.wanted_yes rfl rfl rfl) 28 9 _ rfl _ _ rfl (fun w1 hC1 => (HQB.out.fr0 hC1).convert (P := Tryd.prog) 28 9 5 Tryd.underlying28 Tryd.underlying5 Tryd.underlying9) ?_; go_frame)
    | (refine Mix.go_sureW (by first | exact Mix.wanted_none rfl | exact Mix.wanted_yes rfl rfl rfl) _ (by rfl) (by rfl) _ (fun w' hC' => by go_wp2_with fail; refine Mix.stays ?_; go_frame; rfl) ?_; go_frame)
    | (refine Mix.go_lookW (by first | exact Mix.wanted_none rfl | exact Mix.wanted_yes rfl rfl rfl) _ (by rfl) (by rfl) _ (by go_wp2_with fail; refine Mix.stays ?_; go_frame; rfl) ?_; go_frame))
  refine Mix.go_turn ?_
  go_wp2_with fail
  refine (HRT.out x6).mono ?_
  rintro e x7 ⟨rfl, hF⟩
  have HX7 := Lib.hid (HX6.out.trans' hF)
  clear hF
  go_wp2
  refine Mix.then_go HX7.out ?_
  repeat (first
    | ((with_reducible refine Mix.go_skipS ?_ ?_); (focus (first | exact Mix.wanted_no rfl rfl rfl rfl | exact Mix.wanted_void rfl rfl rfl)); go_frame)
    | ((with_reducible refine Mix.go_skipL ?_ ?_); (focus (first | exact Mix.wanted_no rfl rfl rfl rfl | exact Mix.wanted_void rfl rfl rfl)); go_frame)
    | (refine Mix.go_move (by first | exact Mix.wanted_none rfl | exact Mix.wanted_yes rfl rfl rfl) _ rfl _ (by first | (go_simp; done) | (go_simp; rfl)) ?_; go_frame)
    | (refine Mix.go_assign (by first | exact Mix.wanted_none rfl | exact Mix.wanted_yes rfl rfl rfl) _ rfl _ (by first | (go_simp; done) | (go_simp; rfl)) ?_; go_frame)
    | (refine Mix.go_sure_row (by first | exact Mix.wanted_none rfl | exact Mix.wanted_yes rfl rfl rfl) 24 _ rfl (g) rfl 24 _ (0, 0) _ (fun w1 hC1 => hC1.heap HXR.out (fun f => f)) Tryd.underlying24 rfl (by kernel_rfl) ?_; go_frame)
    | (refine Mix.go_sure_conv (by first | exact Mix.wanted_none rfl | exact Mix.wanted_yes rfl rfl rfl) 28 9 _ rfl _ _ rfl (fun w1 hC1 => (HPB.out.fr0 hC1).convert (P := Tryd.prog) 28 9 5 Tryd.underlying28 Tryd.underlying5 Tryd.underlying9) ?_; go_frame)
    | (refine Mix.go_sure_conv (by first | exact Mix.wanted_none rfl | exact Mix.wanted_yes rfl rfl rfl) 28 9 _ rfl _ _ rfl (fun w1 hC1 => (HQB.out.fr0 hC1).convert (P := Tryd.prog) 28 9 5 Tryd.underlying28 Tryd.underlying5 Tryd.underlying9) ?_; go_frame)
    | (refine Mix.go_sureW (by first | exact Mix.wanted_none rfl | exact Mix.wanted_yes rfl rfl rfl) _ (by rfl) (by rfl) _ (fun w' hC' => by go_wp2_with fail; refine Mix.stays ?_; go_frame; rfl) ?_; go_frame)
    | (refine Mix.go_lookW (by first | exact Mix.wanted_none rfl | exact Mix.wanted_yes rfl rfl rfl) _ (by rfl) (by rfl) _ (by go_wp2_with fail; refine Mix.stays ?_; go_frame; rfl) ?_; go_frame))
  refine Mix.go_end ?_
  go_wp2
  go_ret
  exact ⟨rfl, HF4.out.trans' HX7.out⟩
end Go.Proofs.YtbiokogihimboaaDoor.AggL
