/-
  The reference's AggText.
-/
import Derived.Test.YtbiokogihimboaaDoorAggRefP
import Derived.Test.YtbiokogihimboaaDoorMix
import Derived.Test.YtbiokogihimboaaDoorMixS
namespace Go.Proofs.YtbiokogihimboaaDoor.Agg
open Go.RowKit Base _root_.Go.Proofs.YtbiokogihimboaaDoor.Tenant _root_.Go.Proofs.YtbiokogihimboaaDoor.Series _root_.Go.Proofs.YtbiokogihimboaaDoor.Pack

theorem itoa_len {n : Int} (h : Fit n) : (Lib.itoa n).length ≤ 21 := by
  unfold Fit at h
  have h1 := dec_len n.natAbs 18 (by omega)
  by_cases h0 : n < 0
  · rw [itoa_neg h0, List.length_cons]; omega
  · rw [itoa_pos h0]; omega
theorem text_sizes (i0 st i2 i3 i4 : List UInt8) (h0 : i0.length ≤ 21) (hs : st.length ≤ 21) (h2 : i2.length ≤ 21) (h3 : i3.length ≤ 21) (h4 : i4.length ≤ 21) :
    ¬ ((⟨#[99, 111, 117, 110, 116, 32]⟩ : ByteArray).size + (⟨i0.toArray⟩ : ByteArray).size > 9223372036854775807) ∧ ¬ ((((⟨#[99, 111, 117, 110, 116, 32]⟩ : ByteArray) ++ (⟨i0.toArray⟩ : ByteArray))).size + (⟨#[32, 115, 117, 109, 32]⟩ : ByteArray).size > 9223372036854775807) ∧ ¬ (((((⟨#[99, 111, 117, 110, 116, 32]⟩ : ByteArray) ++ (⟨i0.toArray⟩ : ByteArray)) ++ (⟨#[32, 115, 117, 109, 32]⟩ : ByteArray))).size + (⟨st.toArray⟩ : ByteArray).size > 9223372036854775807) ∧ ¬ ((((((⟨#[99, 111, 117, 110, 116, 32]⟩ : ByteArray) ++ (⟨i0.toArray⟩ : ByteArray)) ++ (⟨#[32, 115, 117, 109, 32]⟩ : ByteArray)) ++ (⟨st.toArray⟩ : ByteArray))).size + (⟨#[32, 109, 105, 110, 32]⟩ : ByteArray).size > 9223372036854775807) ∧ ¬ (((((((⟨#[99, 111, 117, 110, 116, 32]⟩ : ByteArray) ++ (⟨i0.toArray⟩ : ByteArray)) ++ (⟨#[32, 115, 117, 109, 32]⟩ : ByteArray)) ++ (⟨st.toArray⟩ : ByteArray)) ++ (⟨#[32, 109, 105, 110, 32]⟩ : ByteArray))).size + (⟨i2.toArray⟩ : ByteArray).size > 9223372036854775807) ∧ ¬ ((((((((⟨#[99, 111, 117, 110, 116, 32]⟩ : ByteArray) ++ (⟨i0.toArray⟩ : ByteArray)) ++ (⟨#[32, 115, 117, 109, 32]⟩ : ByteArray)) ++ (⟨st.toArray⟩ : ByteArray)) ++ (⟨#[32, 109, 105, 110, 32]⟩ : ByteArray)) ++ (⟨i2.toArray⟩ : ByteArray))).size + (⟨#[32, 109, 97, 120, 32]⟩ : ByteArray).size > 9223372036854775807) ∧ ¬ (((((((((⟨#[99, 111, 117, 110, 116, 32]⟩ : ByteArray) ++ (⟨i0.toArray⟩ : ByteArray)) ++ (⟨#[32, 115, 117, 109, 32]⟩ : ByteArray)) ++ (⟨st.toArray⟩ : ByteArray)) ++ (⟨#[32, 109, 105, 110, 32]⟩ : ByteArray)) ++ (⟨i2.toArray⟩ : ByteArray)) ++ (⟨#[32, 109, 97, 120, 32]⟩ : ByteArray))).size + (⟨i3.toArray⟩ : ByteArray).size > 9223372036854775807) ∧ ¬ ((((((((((⟨#[99, 111, 117, 110, 116, 32]⟩ : ByteArray) ++ (⟨i0.toArray⟩ : ByteArray)) ++ (⟨#[32, 115, 117, 109, 32]⟩ : ByteArray)) ++ (⟨st.toArray⟩ : ByteArray)) ++ (⟨#[32, 109, 105, 110, 32]⟩ : ByteArray)) ++ (⟨i2.toArray⟩ : ByteArray)) ++ (⟨#[32, 109, 97, 120, 32]⟩ : ByteArray)) ++ (⟨i3.toArray⟩ : ByteArray))).size + (⟨#[32, 108, 97, 115, 116, 32]⟩ : ByteArray).size > 9223372036854775807) ∧ ¬ (((((((((((⟨#[99, 111, 117, 110, 116, 32]⟩ : ByteArray) ++ (⟨i0.toArray⟩ : ByteArray)) ++ (⟨#[32, 115, 117, 109, 32]⟩ : ByteArray)) ++ (⟨st.toArray⟩ : ByteArray)) ++ (⟨#[32, 109, 105, 110, 32]⟩ : ByteArray)) ++ (⟨i2.toArray⟩ : ByteArray)) ++ (⟨#[32, 109, 97, 120, 32]⟩ : ByteArray)) ++ (⟨i3.toArray⟩ : ByteArray)) ++ (⟨#[32, 108, 97, 115, 116, 32]⟩ : ByteArray))).size + (⟨i4.toArray⟩ : ByteArray).size > 9223372036854775807) := by
  have e0 : (⟨#[99, 111, 117, 110, 116, 32]⟩ : ByteArray).size = 6 := rfl
  have e1 : (⟨#[32, 115, 117, 109, 32]⟩ : ByteArray).size = 5 := rfl
  have e2 : (⟨#[32, 109, 105, 110, 32]⟩ : ByteArray).size = 5 := rfl
  have e3 : (⟨#[32, 109, 97, 120, 32]⟩ : ByteArray).size = 5 := rfl
  have e4 : (⟨#[32, 108, 97, 115, 116, 32]⟩ : ByteArray).size = 6 := rfl
  refine ⟨?_, ?_, ?_, ?_, ?_, ?_, ?_, ?_, ?_⟩
  all_goals simp only [ByteArray.size_append, size_str, e0, e1, e2, e3, e4]
  all_goals omega
theorem text_is (i0 st i2 i3 i4 : List UInt8) : ((((((((((⟨#[99, 111, 117, 110, 116, 32]⟩ : ByteArray) ++ (⟨i0.toArray⟩ : ByteArray)) ++ (⟨#[32, 115, 117, 109, 32]⟩ : ByteArray)) ++ (⟨st.toArray⟩ : ByteArray)) ++ (⟨#[32, 109, 105, 110, 32]⟩ : ByteArray)) ++ (⟨i2.toArray⟩ : ByteArray)) ++ (⟨#[32, 109, 97, 120, 32]⟩ : ByteArray)) ++ (⟨i3.toArray⟩ : ByteArray)) ++ (⟨#[32, 108, 97, 115, 116, 32]⟩ : ByteArray)) ++ (⟨i4.toArray⟩ : ByteArray)) = ⟨([99, 111, 117, 110, 116, 32] ++ i0 ++ [32, 115, 117, 109, 32] ++ st ++ [32, 109, 105, 110, 32] ++ i2 ++ [32, 109, 97, 120, 32] ++ i3 ++ [32, 108, 97, 115, 116, 32] ++ i4 : List UInt8).toArray⟩ := by
  apply ByteArray.ext
  simp
set_option maxRecDepth 100000 in
set_option maxHeartbeats 8000000 in
theorem rtext_any (a : Ag) (ha : SizedA a) (w : World) :
    Calls Tryd.prog 19 #[.agg (a6 a)] w fun e w' => e = .returned (.string ⟨(textOf a).toArray⟩) ∧ Fr0 w w' := by
  have HC : Hid (∀ wr, Fr0 (w.alloc (.cells #[.int .i64 a.c, .int .i64 a.s, .int .i64 a.n, .int .i64 a.x, .int .i64 a.l, .bool a.o] 35)) wr → wr.cell? ⟨w.heap.size, 0, none⟩ = some (.int .i64 a.c) ∧ wr.cell? ⟨w.heap.size, 1, none⟩ = some (.int .i64 a.s) ∧ wr.cell? ⟨w.heap.size, 2, none⟩ = some (.int .i64 a.n) ∧ wr.cell? ⟨w.heap.size, 3, none⟩ = some (.int .i64 a.x) ∧ wr.cell? ⟨w.heap.size, 4, none⟩ = some (.int .i64 a.l) ∧ wr.cell? ⟨w.heap.size, 5, none⟩ = some (.bool a.o)) := Lib.hid (fun wr hf => ((Bx.new 35 w a).fr0 hf).cells)
  have HF : Hid (Fr0 w (w.alloc (.cells #[.int .i64 a.c, .int .i64 a.s, .int .i64 a.n, .int .i64 a.x, .int .i64 a.l, .bool a.o] 35))) := Lib.hid ((Fr.refl _ _).alloc _)
  have HN0 := Lib.hid (fun w => rnumber_any a.c ha.1 w)
  have HN1 := Lib.hid (fun w => rnumber_any a.s ha.2.1 w)
  have HN2 := Lib.hid (fun w => rnumber_any a.n ha.2.2.1 w)
  have HN3 := Lib.hid (fun w => rnumber_any a.x ha.2.2.2.1 w)
  have HN4 := Lib.hid (fun w => rnumber_any a.l ha.2.2.2.2 w)
  have L0 := Lib.hid (itoa_len ha.1)
  have L1 := Lib.hid (itoa_len ha.2.1)
  have L2 := Lib.hid (itoa_len ha.2.2.1)
  have L3 := Lib.hid (itoa_len ha.2.2.2.1)
  have L4 := Lib.hid (itoa_len ha.2.2.2.2)
  have HTX : Hid (textOf a = [99, 111, 117, 110, 116, 32] ++ Lib.itoa a.c ++ [32, 115, 117, 109, 32] ++ sumText a ++ [32, 109, 105, 110, 32] ++ Lib.itoa a.n ++ [32, 109, 97, 120, 32] ++ Lib.itoa a.x ++ [32, 108, 97, 115, 116, 32] ++ Lib.itoa a.l) := Lib.hid rfl
  have HST1 : Hid (a.o = true → sumText a = over4) := Lib.hid (fun h => by unfold sumText; rw [if_pos h])
  have HST0 : Hid (a.o = false → sumText a = Lib.itoa a.s) := Lib.hid (fun h => by unfold sumText; rw [if_neg (by rw [h]; decide)])
  clear ha
  unfold a6
  generalize textOf a = txt at *
  generalize sumText a = st at *
  generalize Lib.itoa a.c = i0 at *
  generalize Lib.itoa a.s = i1 at *
  generalize Lib.itoa a.n = i2 at *
  generalize Lib.itoa a.x = i3 at *
  generalize Lib.itoa a.l = i4 at *
  generalize hW2 : w.alloc (.cells #[.int .i64 a.c, .int .i64 a.s, .int .i64 a.n, .int .i64 a.x, .int .i64 a.l, .bool a.o] 35) = W2 at *
  obtain ⟨_, k1, _, _, _, k5⟩ := HC.out _ (Fr.refl _ _)
  go_enter Tryd.func19, Tryd.ntmps19
  go_wp2_with fail
  clear hW2
  refine (HN1.out _).mono ?_
  rintro e w1 ⟨rfl, hF1⟩
  have HF1 := Lib.hid hF1
  have h5 := (HC.out _ hF1).2.2.2.2.2
  clear hF1 k1 k5 HN1
  generalize hg : w.heap.size = g at *
  clear hg
  cases ho : a.o with
  | false =>
    rw [ho] at h5
    obtain rfl := HST0.out ho
    have hsz := text_sizes i0 st i2 i3 i4 L0.out L1.out L2.out L3.out L4.out
    obtain ⟨z1, z2, z3, z4, z5, z6, z7, z8, z9⟩ := hsz
    have HZ := Lib.hid (And.intro z1 (And.intro z2 (And.intro z3 (And.intro z4 (And.intro z5 (And.intro z6 (And.intro z7 (And.intro z8 z9))))))))
    clear z1 z2 z3 z4 z5 z6 z7 z8 z9 HST0 HST1
    have HE := Lib.hid (text_is i0 st i2 i3 i4)
    rw [← HTX.out] at HE
    go_wp2_with fail
    refine Mix.law (fun X => X.cell? ⟨g, 0, none⟩ = some (.int .i64 a.c) ∧ X.cell? ⟨g, 2, none⟩ = some (.int .i64 a.n) ∧ X.cell? ⟨g, 3, none⟩ = some (.int .i64 a.x) ∧ X.cell? ⟨g, 4, none⟩ = some (.int .i64 a.l)) [(.sure, 0), (.sure, 1), (.sure, 5), (.sure, 8), (.sure, 9), (.sure, 13), (.sure, 14), (.sure, 18), (.sure, 19), (.turn, 2), (.sure, 3), (.sure, 4), (.sure, 6), (.sure, 7), (.turn, 10), (.sure, 11), (.sure, 12), (.turn, 15), (.sure, 16), (.sure, 17), (.turn, 20), (.sure, 21), (.sure, 22)] (by kernel_rfl) (by kernel_rfl) (by have h := HC.out _ (HF1.out.trans' (Fr.refl _ _).drew); exact ⟨h.1, h.2.2.1, h.2.2.2.1, h.2.2.2.2.1⟩) ?_
    simp only [List.map_cons, List.map_nil, Mix.nth_zero, Mix.nth_succ]
    have HX0 := Lib.hid (HF1.out.trans' ((Fr.refl (fun _ => False) w1).drew))
    generalize w1.drew = x0 at *
    repeat (first
      | ((with_reducible refine Mix.go_skipS ?_ ?_); (focus (first | exact Mix.wanted_no rfl rfl rfl rfl | exact Mix.wanted_void rfl rfl rfl)); go_frame)
      | ((with_reducible refine Mix.go_skipL ?_ ?_); (focus (first | exact Mix.wanted_no rfl rfl rfl rfl | exact Mix.wanted_void rfl rfl rfl)); go_frame)
      | (refine Mix.go_move (by first | exact Mix.wanted_none rfl | exact Mix.wanted_yes rfl rfl rfl) _ rfl _ (by first | (go_simp; done) | (go_simp; rfl)) ?_; go_frame)
      | (refine Mix.go_assign (by first | exact Mix.wanted_none rfl | exact Mix.wanted_yes rfl rfl rfl) _ rfl _ (by first | (go_simp; done) | (go_simp; rfl)) ?_; go_frame)
      | (refine Mix.go_sureW (by first | exact Mix.wanted_none rfl | exact Mix.wanted_yes rfl rfl rfl) _ (by rfl) (by rfl) _ (fun w' ⟨hC1, hC2, hC3, hC4⟩ => by go_wp2_with fail; refine Mix.stays ?_; go_frame; rfl) ?_; go_frame)
      | (refine Mix.go_lookW (by first | exact Mix.wanted_none rfl | exact Mix.wanted_yes rfl rfl rfl) _ (by rfl) (by rfl) _ (by go_wp2_with fail; refine Mix.stays ?_; go_frame; rfl) ?_; go_frame))
    refine Mix.go_turn ?_
    go_wp2_with fail
    refine (HN0.out _).mono ?_
    rintro e x1 ⟨rfl, hF⟩
    have HX1 := Lib.hid (HX0.out.trans' hF)
    clear hF
    have hcl := HC.out _ HX1.out
    go_wp2
    refine Mix.then_go ⟨hcl.1, hcl.2.2.1, hcl.2.2.2.1, hcl.2.2.2.2.1⟩ ?_
    clear hcl
    obtain ⟨z1, z2, z3, z4, z5, z6, z7, z8, z9⟩ := HZ.out
    repeat (first
      | ((with_reducible refine Mix.go_skipS ?_ ?_); (focus (first | exact Mix.wanted_no rfl rfl rfl rfl | exact Mix.wanted_void rfl rfl rfl)); go_frame)
      | ((with_reducible refine Mix.go_skipL ?_ ?_); (focus (first | exact Mix.wanted_no rfl rfl rfl rfl | exact Mix.wanted_void rfl rfl rfl)); go_frame)
      | (refine Mix.go_move (by first | exact Mix.wanted_none rfl | exact Mix.wanted_yes rfl rfl rfl) _ rfl _ (by first | (go_simp; done) | (go_simp; rfl)) ?_; go_frame)
      | (refine Mix.go_assign (by first | exact Mix.wanted_none rfl | exact Mix.wanted_yes rfl rfl rfl) _ rfl _ (by first | (go_simp; done) | (go_simp; rfl)) ?_; go_frame)
      | (refine Mix.go_sureW (by first | exact Mix.wanted_none rfl | exact Mix.wanted_yes rfl rfl rfl) _ (by rfl) (by rfl) _ (fun w' ⟨hC1, hC2, hC3, hC4⟩ => by go_wp2_with fail; refine Mix.stays ?_; go_frame; rfl) ?_; go_frame)
      | (refine Mix.go_lookW (by first | exact Mix.wanted_none rfl | exact Mix.wanted_yes rfl rfl rfl) _ (by rfl) (by rfl) _ (by go_wp2_with fail; refine Mix.stays ?_; go_frame; rfl) ?_; go_frame))
    clear z1 z2 z3 z4 z5 z6 z7 z8 z9
    refine Mix.go_turn ?_
    go_wp2_with fail
    refine (HN2.out _).mono ?_
    rintro e x2 ⟨rfl, hF⟩
    have HX2 := Lib.hid (HX1.out.trans' hF)
    clear hF
    have hcl := HC.out _ HX2.out
    go_wp2
    refine Mix.then_go ⟨hcl.1, hcl.2.2.1, hcl.2.2.2.1, hcl.2.2.2.2.1⟩ ?_
    clear hcl
    obtain ⟨z1, z2, z3, z4, z5, z6, z7, z8, z9⟩ := HZ.out
    repeat (first
      | ((with_reducible refine Mix.go_skipS ?_ ?_); (focus (first | exact Mix.wanted_no rfl rfl rfl rfl | exact Mix.wanted_void rfl rfl rfl)); go_frame)
      | ((with_reducible refine Mix.go_skipL ?_ ?_); (focus (first | exact Mix.wanted_no rfl rfl rfl rfl | exact Mix.wanted_void rfl rfl rfl)); go_frame)
      | (refine Mix.go_move (by first | exact Mix.wanted_none rfl | exact Mix.wanted_yes rfl rfl rfl) _ rfl _ (by first | (go_simp; done) | (go_simp; rfl)) ?_; go_frame)
      | (refine Mix.go_assign (by first | exact Mix.wanted_none rfl | exact Mix.wanted_yes rfl rfl rfl) _ rfl _ (by first | (go_simp; done) | (go_simp; rfl)) ?_; go_frame)
      | (refine Mix.go_sureW (by first | exact Mix.wanted_none rfl | exact Mix.wanted_yes rfl rfl rfl) _ (by rfl) (by rfl) _ (fun w' ⟨hC1, hC2, hC3, hC4⟩ => by go_wp2_with fail; refine Mix.stays ?_; go_frame; rfl) ?_; go_frame)
      | (refine Mix.go_lookW (by first | exact Mix.wanted_none rfl | exact Mix.wanted_yes rfl rfl rfl) _ (by rfl) (by rfl) _ (by go_wp2_with fail; refine Mix.stays ?_; go_frame; rfl) ?_; go_frame))
    clear z1 z2 z3 z4 z5 z6 z7 z8 z9
    refine Mix.go_turn ?_
    go_wp2_with fail
    refine (HN3.out _).mono ?_
    rintro e x3 ⟨rfl, hF⟩
    have HX3 := Lib.hid (HX2.out.trans' hF)
    clear hF
    have hcl := HC.out _ HX3.out
    go_wp2
    refine Mix.then_go ⟨hcl.1, hcl.2.2.1, hcl.2.2.2.1, hcl.2.2.2.2.1⟩ ?_
    clear hcl
    obtain ⟨z1, z2, z3, z4, z5, z6, z7, z8, z9⟩ := HZ.out
    repeat (first
      | ((with_reducible refine Mix.go_skipS ?_ ?_); (focus (first | exact Mix.wanted_no rfl rfl rfl rfl | exact Mix.wanted_void rfl rfl rfl)); go_frame)
      | ((with_reducible refine Mix.go_skipL ?_ ?_); (focus (first | exact Mix.wanted_no rfl rfl rfl rfl | exact Mix.wanted_void rfl rfl rfl)); go_frame)
      | (refine Mix.go_move (by first | exact Mix.wanted_none rfl | exact Mix.wanted_yes rfl rfl rfl) _ rfl _ (by first | (go_simp; done) | (go_simp; rfl)) ?_; go_frame)
      | (refine Mix.go_assign (by first | exact Mix.wanted_none rfl | exact Mix.wanted_yes rfl rfl rfl) _ rfl _ (by first | (go_simp; done) | (go_simp; rfl)) ?_; go_frame)
      | (refine Mix.go_sureW (by first | exact Mix.wanted_none rfl | exact Mix.wanted_yes rfl rfl rfl) _ (by rfl) (by rfl) _ (fun w' ⟨hC1, hC2, hC3, hC4⟩ => by go_wp2_with fail; refine Mix.stays ?_; go_frame; rfl) ?_; go_frame)
      | (refine Mix.go_lookW (by first | exact Mix.wanted_none rfl | exact Mix.wanted_yes rfl rfl rfl) _ (by rfl) (by rfl) _ (by go_wp2_with fail; refine Mix.stays ?_; go_frame; rfl) ?_; go_frame))
    clear z1 z2 z3 z4 z5 z6 z7 z8 z9
    refine Mix.go_turn ?_
    go_wp2_with fail
    refine (HN4.out _).mono ?_
    rintro e x4 ⟨rfl, hF⟩
    have HX4 := Lib.hid (HX3.out.trans' hF)
    clear hF
    have hcl := HC.out _ HX4.out
    go_wp2
    refine Mix.then_go ⟨hcl.1, hcl.2.2.1, hcl.2.2.2.1, hcl.2.2.2.2.1⟩ ?_
    clear hcl
    obtain ⟨z1, z2, z3, z4, z5, z6, z7, z8, z9⟩ := HZ.out
    repeat (first
      | ((with_reducible refine Mix.go_skipS ?_ ?_); (focus (first | exact Mix.wanted_no rfl rfl rfl rfl | exact Mix.wanted_void rfl rfl rfl)); go_frame)
      | ((with_reducible refine Mix.go_skipL ?_ ?_); (focus (first | exact Mix.wanted_no rfl rfl rfl rfl | exact Mix.wanted_void rfl rfl rfl)); go_frame)
      | (refine Mix.go_move (by first | exact Mix.wanted_none rfl | exact Mix.wanted_yes rfl rfl rfl) _ rfl _ (by first | (go_simp; done) | (go_simp; rfl)) ?_; go_frame)
      | (refine Mix.go_assign (by first | exact Mix.wanted_none rfl | exact Mix.wanted_yes rfl rfl rfl) _ rfl _ (by first | (go_simp; done) | (go_simp; rfl)) ?_; go_frame)
      | (refine Mix.go_sureW (by first | exact Mix.wanted_none rfl | exact Mix.wanted_yes rfl rfl rfl) _ (by rfl) (by rfl) _ (fun w' ⟨hC1, hC2, hC3, hC4⟩ => by go_wp2_with fail; refine Mix.stays ?_; go_frame; rfl) ?_; go_frame)
      | (refine Mix.go_lookW (by first | exact Mix.wanted_none rfl | exact Mix.wanted_yes rfl rfl rfl) _ (by rfl) (by rfl) _ (by go_wp2_with fail; refine Mix.stays ?_; go_frame; rfl) ?_; go_frame))
    clear z1 z2 z3 z4 z5 z6 z7 z8 z9
    refine Mix.go_end ?_
    go_wp2
    go_ret
    exact ⟨by rw [← HE.out]; rfl, HF.out.trans' HX4.out⟩
  | true =>
    rw [ho] at h5
    obtain rfl := HST1.out ho
    unfold over4 at HTX
    have hsz := text_sizes i0 [111, 118, 101, 114] i2 i3 i4 L0.out (by decide) L2.out L3.out L4.out
    obtain ⟨z1, z2, z3, z4, z5, z6, z7, z8, z9⟩ := hsz
    have HZ := Lib.hid (And.intro z1 (And.intro z2 (And.intro z3 (And.intro z4 (And.intro z5 (And.intro z6 (And.intro z7 (And.intro z8 z9))))))))
    clear z1 z2 z3 z4 z5 z6 z7 z8 z9 HST0 HST1
    have HE := Lib.hid (text_is i0 [111, 118, 101, 114] i2 i3 i4)
    rw [← HTX.out] at HE
    go_wp2_with fail
    refine Mix.law (fun X => X.cell? ⟨g, 0, none⟩ = some (.int .i64 a.c) ∧ X.cell? ⟨g, 2, none⟩ = some (.int .i64 a.n) ∧ X.cell? ⟨g, 3, none⟩ = some (.int .i64 a.x) ∧ X.cell? ⟨g, 4, none⟩ = some (.int .i64 a.l)) [(.sure, 0), (.sure, 1), (.sure, 5), (.sure, 8), (.sure, 9), (.sure, 13), (.sure, 14), (.sure, 18), (.sure, 19), (.turn, 2), (.sure, 3), (.sure, 4), (.sure, 6), (.sure, 7), (.turn, 10), (.sure, 11), (.sure, 12), (.turn, 15), (.sure, 16), (.sure, 17), (.turn, 20), (.sure, 21), (.sure, 22)] (by kernel_rfl) (by kernel_rfl) (by have h := HC.out _ (HF1.out.trans' (Fr.refl _ _).drew); exact ⟨h.1, h.2.2.1, h.2.2.2.1, h.2.2.2.2.1⟩) ?_
    simp only [List.map_cons, List.map_nil, Mix.nth_zero, Mix.nth_succ]
    have HX0 := Lib.hid (HF1.out.trans' ((Fr.refl (fun _ => False) w1).drew))
    generalize w1.drew = x0 at *
    repeat (first
      | ((with_reducible refine Mix.go_skipS ?_ ?_); (focus (first | exact Mix.wanted_no rfl rfl rfl rfl | exact Mix.wanted_void rfl rfl rfl)); go_frame)
      | ((with_reducible refine Mix.go_skipL ?_ ?_); (focus (first | exact Mix.wanted_no rfl rfl rfl rfl | exact Mix.wanted_void rfl rfl rfl)); go_frame)
      | (refine Mix.go_move (by first | exact Mix.wanted_none rfl | exact Mix.wanted_yes rfl rfl rfl) _ rfl _ (by first | (go_simp; done) | (go_simp; rfl)) ?_; go_frame)
      | (refine Mix.go_assign (by first | exact Mix.wanted_none rfl | exact Mix.wanted_yes rfl rfl rfl) _ rfl _ (by first | (go_simp; done) | (go_simp; rfl)) ?_; go_frame)
      | (refine Mix.go_sureW (by first | exact Mix.wanted_none rfl | exact Mix.wanted_yes rfl rfl rfl) _ (by rfl) (by rfl) _ (fun w' ⟨hC1, hC2, hC3, hC4⟩ => by go_wp2_with fail; refine Mix.stays ?_; go_frame; rfl) ?_; go_frame)
      | (refine Mix.go_lookW (by first | exact Mix.wanted_none rfl | exact Mix.wanted_yes rfl rfl rfl) _ (by rfl) (by rfl) _ (by go_wp2_with fail; refine Mix.stays ?_; go_frame; rfl) ?_; go_frame))
    refine Mix.go_turn ?_
    go_wp2_with fail
    refine (HN0.out _).mono ?_
    rintro e x1 ⟨rfl, hF⟩
    have HX1 := Lib.hid (HX0.out.trans' hF)
    clear hF
    have hcl := HC.out _ HX1.out
    go_wp2
    refine Mix.then_go ⟨hcl.1, hcl.2.2.1, hcl.2.2.2.1, hcl.2.2.2.2.1⟩ ?_
    clear hcl
    obtain ⟨z1, z2, z3, z4, z5, z6, z7, z8, z9⟩ := HZ.out
    repeat (first
      | ((with_reducible refine Mix.go_skipS ?_ ?_); (focus (first | exact Mix.wanted_no rfl rfl rfl rfl | exact Mix.wanted_void rfl rfl rfl)); go_frame)
      | ((with_reducible refine Mix.go_skipL ?_ ?_); (focus (first | exact Mix.wanted_no rfl rfl rfl rfl | exact Mix.wanted_void rfl rfl rfl)); go_frame)
      | (refine Mix.go_move (by first | exact Mix.wanted_none rfl | exact Mix.wanted_yes rfl rfl rfl) _ rfl _ (by first | (go_simp; done) | (go_simp; rfl)) ?_; go_frame)
      | (refine Mix.go_assign (by first | exact Mix.wanted_none rfl | exact Mix.wanted_yes rfl rfl rfl) _ rfl _ (by first | (go_simp; done) | (go_simp; rfl)) ?_; go_frame)
      | (refine Mix.go_sureW (by first | exact Mix.wanted_none rfl | exact Mix.wanted_yes rfl rfl rfl) _ (by rfl) (by rfl) _ (fun w' ⟨hC1, hC2, hC3, hC4⟩ => by go_wp2_with fail; refine Mix.stays ?_; go_frame; rfl) ?_; go_frame)
      | (refine Mix.go_lookW (by first | exact Mix.wanted_none rfl | exact Mix.wanted_yes rfl rfl rfl) _ (by rfl) (by rfl) _ (by go_wp2_with fail; refine Mix.stays ?_; go_frame; rfl) ?_; go_frame))
    clear z1 z2 z3 z4 z5 z6 z7 z8 z9
    refine Mix.go_turn ?_
    go_wp2_with fail
    refine (HN2.out _).mono ?_
    rintro e x2 ⟨rfl, hF⟩
    have HX2 := Lib.hid (HX1.out.trans' hF)
    clear hF
    have hcl := HC.out _ HX2.out
    go_wp2
    refine Mix.then_go ⟨hcl.1, hcl.2.2.1, hcl.2.2.2.1, hcl.2.2.2.2.1⟩ ?_
    clear hcl
    obtain ⟨z1, z2, z3, z4, z5, z6, z7, z8, z9⟩ := HZ.out
    repeat (first
      | ((with_reducible refine Mix.go_skipS ?_ ?_); (focus (first | exact Mix.wanted_no rfl rfl rfl rfl | exact Mix.wanted_void rfl rfl rfl)); go_frame)
      | ((with_reducible refine Mix.go_skipL ?_ ?_); (focus (first | exact Mix.wanted_no rfl rfl rfl rfl | exact Mix.wanted_void rfl rfl rfl)); go_frame)
      | (refine Mix.go_move (by first | exact Mix.wanted_none rfl | exact Mix.wanted_yes rfl rfl rfl) _ rfl _ (by first | (go_simp; done) | (go_simp; rfl)) ?_; go_frame)
      | (refine Mix.go_assign (by first | exact Mix.wanted_none rfl | exact Mix.wanted_yes rfl rfl rfl) _ rfl _ (by first | (go_simp; done) | (go_simp; rfl)) ?_; go_frame)
      | (refine Mix.go_sureW (by first | exact Mix.wanted_none rfl | exact Mix.wanted_yes rfl rfl rfl) _ (by rfl) (by rfl) _ (fun w' ⟨hC1, hC2, hC3, hC4⟩ => by go_wp2_with fail; refine Mix.stays ?_; go_frame; rfl) ?_; go_frame)
      | (refine Mix.go_lookW (by first | exact Mix.wanted_none rfl | exact Mix.wanted_yes rfl rfl rfl) _ (by rfl) (by rfl) _ (by go_wp2_with fail; refine Mix.stays ?_; go_frame; rfl) ?_; go_frame))
    clear z1 z2 z3 z4 z5 z6 z7 z8 z9
    refine Mix.go_turn ?_
    go_wp2_with fail
    refine (HN3.out _).mono ?_
    rintro e x3 ⟨rfl, hF⟩
    have HX3 := Lib.hid (HX2.out.trans' hF)
    clear hF
    have hcl := HC.out _ HX3.out
    go_wp2
    refine Mix.then_go ⟨hcl.1, hcl.2.2.1, hcl.2.2.2.1, hcl.2.2.2.2.1⟩ ?_
    clear hcl
    obtain ⟨z1, z2, z3, z4, z5, z6, z7, z8, z9⟩ := HZ.out
    repeat (first
      | ((with_reducible refine Mix.go_skipS ?_ ?_); (focus (first | exact Mix.wanted_no rfl rfl rfl rfl | exact Mix.wanted_void rfl rfl rfl)); go_frame)
      | ((with_reducible refine Mix.go_skipL ?_ ?_); (focus (first | exact Mix.wanted_no rfl rfl rfl rfl | exact Mix.wanted_void rfl rfl rfl)); go_frame)
      | (refine Mix.go_move (by first | exact Mix.wanted_none rfl | exact Mix.wanted_yes rfl rfl rfl) _ rfl _ (by first | (go_simp; done) | (go_simp; rfl)) ?_; go_frame)
      | (refine Mix.go_assign (by first | exact Mix.wanted_none rfl | exact Mix.wanted_yes rfl rfl rfl) _ rfl _ (by first | (go_simp; done) | (go_simp; rfl)) ?_; go_frame)
      | (refine Mix.go_sureW (by first | exact Mix.wanted_none rfl | exact Mix.wanted_yes rfl rfl rfl) _ (by rfl) (by rfl) _ (fun w' ⟨hC1, hC2, hC3, hC4⟩ => by go_wp2_with fail; refine Mix.stays ?_; go_frame; rfl) ?_; go_frame)
      | (refine Mix.go_lookW (by first | exact Mix.wanted_none rfl | exact Mix.wanted_yes rfl rfl rfl) _ (by rfl) (by rfl) _ (by go_wp2_with fail; refine Mix.stays ?_; go_frame; rfl) ?_; go_frame))
    clear z1 z2 z3 z4 z5 z6 z7 z8 z9
    refine Mix.go_turn ?_
    go_wp2_with fail
    refine (HN4.out _).mono ?_
    rintro e x4 ⟨rfl, hF⟩
    have HX4 := Lib.hid (HX3.out.trans' hF)
    clear hF
    have hcl := HC.out _ HX4.out
    go_wp2
    refine Mix.then_go ⟨hcl.1, hcl.2.2.1, hcl.2.2.2.1, hcl.2.2.2.2.1⟩ ?_
    clear hcl
    obtain ⟨z1, z2, z3, z4, z5, z6, z7, z8, z9⟩ := HZ.out
    repeat (first
      | ((with_reducible refine Mix.go_skipS ?_ ?_); (focus (first | exact Mix.wanted_no rfl rfl rfl rfl | exact Mix.wanted_void rfl rfl rfl)); go_frame)
      | ((with_reducible refine Mix.go_skipL ?_ ?_); (focus (first | exact Mix.wanted_no rfl rfl rfl rfl | exact Mix.wanted_void rfl rfl rfl)); go_frame)
      | (refine Mix.go_move (by first | exact Mix.wanted_none rfl | exact Mix.wanted_yes rfl rfl rfl) _ rfl _ (by first | (go_simp; done) | (go_simp; rfl)) ?_; go_frame)
      | (refine Mix.go_assign (by first | exact Mix.wanted_none rfl | exact Mix.wanted_yes rfl rfl rfl) _ rfl _ (by first | (go_simp; done) | (go_simp; rfl)) ?_; go_frame)
      | (refine Mix.go_sureW (by first | exact Mix.wanted_none rfl | exact Mix.wanted_yes rfl rfl rfl) _ (by rfl) (by rfl) _ (fun w' ⟨hC1, hC2, hC3, hC4⟩ => by go_wp2_with fail; refine Mix.stays ?_; go_frame; rfl) ?_; go_frame)
      | (refine Mix.go_lookW (by first | exact Mix.wanted_none rfl | exact Mix.wanted_yes rfl rfl rfl) _ (by rfl) (by rfl) _ (by go_wp2_with fail; refine Mix.stays ?_; go_frame; rfl) ?_; go_frame))
    clear z1 z2 z3 z4 z5 z6 z7 z8 z9
    refine Mix.go_end ?_
    go_wp2
    go_ret
    exact ⟨by rw [← HE.out]; rfl, HF.out.trans' HX4.out⟩
end Go.Proofs.YtbiokogihimboaaDoor.Agg
