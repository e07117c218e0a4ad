/-
  The program's Text.
-/
import Derived.Test.YtbiokogihimboaaDoorAggGo
import Derived.Test.YtbiokogihimboaaDoorAggRefT
import Derived.Test.YtbiokogihimboaaDoorAggShelf
namespace Go.Proofs.YtbiokogihimboaaDoor.Agg
open Go.RowKit Base _root_.Go.Proofs.YtbiokogihimboaaDoor.Tenant _root_.Go.Proofs.YtbiokogihimboaaDoor.Series _root_.Go.Proofs.YtbiokogihimboaaDoor.Pack

theorem join_text (i0 st i2 i3 i4 : List UInt8) : Lib.join [[99, 111, 117, 110, 116], i0, [115, 117, 109], st, [109, 105, 110], i2, [109, 97, 120], i3, [108, 97, 115, 116], i4] [32] = [99, 111, 117, 110, 116, 32] ++ i0 ++ [32, 115, 117, 109, 32] ++ st ++ [32, 109, 105, 110, 32] ++ i2 ++ [32, 109, 97, 120, 32] ++ i3 ++ [32, 108, 97, 115, 116, 32] ++ i4 := by
  rw [Lib.join_cons]
  simp [Lib.joinTail]
theorem text_len (i0 st i2 i3 i4 : List UInt8) (h0 : i0.length ≤ 21) (hs : st.length ≤ 21) (h2 : i2.length ≤ 21) (h3 : i3.length ≤ 21) (h4 : i4.length ≤ 21) : ([99, 111, 117, 110, 116, 32] ++ i0 ++ [32, 115, 117, 109, 32] ++ st ++ [32, 109, 105, 110, 32] ++ i2 ++ [32, 109, 97, 120, 32] ++ i3 ++ [32, 108, 97, 115, 116, 32] ++ i4).length ≤ 1000 := by
  simp only [List.length_append, List.length_cons, List.length_nil]
  omega
set_option maxRecDepth 100000 in
set_option maxHeartbeats 4000000 in
theorem ptext_any (a : Ag) (ha : SizedA a) (w : World) (hL : Laid w) :
    Calls Tryd.prog 14 #[.agg (a6 a)] w fun e w' => e = .returned (.string ⟨(textOf a).toArray⟩) ∧ Fr0 w w' := by
  have HC : Hid (∀ wr, Fr0 (w.alloc (.cells #[.int .i64 a.c, .int .i64 a.s, .int .i64 a.n, .int .i64 a.x, .int .i64 a.l, .bool a.o] 24)) wr → wr.cell? ⟨w.heap.size, 0, none⟩ = some (.int .i64 a.c) ∧ wr.cell? ⟨w.heap.size, 1, none⟩ = some (.int .i64 a.s) ∧ wr.cell? ⟨w.heap.size, 2, none⟩ = some (.int .i64 a.n) ∧ wr.cell? ⟨w.heap.size, 3, none⟩ = some (.int .i64 a.x) ∧ wr.cell? ⟨w.heap.size, 4, none⟩ = some (.int .i64 a.l) ∧ wr.cell? ⟨w.heap.size, 5, none⟩ = some (.bool a.o)) := Lib.hid (fun wr hf => ((Bx.new 24 w a).fr0 hf).cells)
  have HF : Hid (Fr0 w (w.alloc (.cells #[.int .i64 a.c, .int .i64 a.s, .int .i64 a.n, .int .i64 a.x, .int .i64 a.l, .bool a.o] 24))) := Lib.hid ((Fr.refl _ _).alloc _)
  have HLD : Hid (∀ x, Fr0 (w.alloc (.cells #[.int .i64 a.c, .int .i64 a.s, .int .i64 a.n, .int .i64 a.x, .int .i64 a.l, .bool a.o] 24)) x → Laid x) := Lib.hid (fun x h => hL.fr (HF.out.trans' h))
  have HN0 := Lib.hid (fun w h => itoa_any a.c ha.1 w h)
  have HN1 := Lib.hid (fun w h => fmt_any a.s ha.2.1 w h)
  have HN2 := Lib.hid (fun w h => fmt_any a.n ha.2.2.1 w h)
  have HN3 := Lib.hid (fun w h => fmt_any a.x ha.2.2.2.1 w h)
  have HN4 := Lib.hid (fun w h => fmt_any a.l ha.2.2.2.2 w h)
  have L0 := Lib.hid (itoa_len ha.1)
  have L1 := Lib.hid (itoa_len ha.2.1)
  have L2 := Lib.hid (itoa_len ha.2.2.1)
  have L3 := Lib.hid (itoa_len ha.2.2.2.1)
  have L4 := Lib.hid (itoa_len ha.2.2.2.2)
  have HTX : Hid (textOf a = [99, 111, 117, 110, 116, 32] ++ Lib.itoa a.c ++ [32, 115, 117, 109, 32] ++ sumText a ++ [32, 109, 105, 110, 32] ++ Lib.itoa a.n ++ [32, 109, 97, 120, 32] ++ Lib.itoa a.x ++ [32, 108, 97, 115, 116, 32] ++ Lib.itoa a.l) := Lib.hid rfl
  have HST1 : Hid (a.o = true → sumText a = [111, 118, 101, 114]) := Lib.hid (fun h => by unfold sumText; rw [if_pos h]; rfl)
  have HST0 : Hid (a.o = false → sumText a = Lib.itoa a.s) := Lib.hid (fun h => by unfold sumText; rw [if_neg (by rw [h]; decide)])
  clear ha hL
  rw [show a6 a = #[.int .i64 a.c, .int .i64 a.s, .int .i64 a.n, .int .i64 a.x, .int .i64 a.l, .bool a.o] from rfl]
  generalize textOf a = txt at *
  generalize sumText a = st at *
  generalize Lib.itoa a.c = i0 at *
  generalize Lib.itoa a.s = i1 at *
  generalize Lib.itoa a.n = i2 at *
  generalize Lib.itoa a.x = i3 at *
  generalize Lib.itoa a.l = i4 at *
  generalize hoo : a.o = oo at *
  clear hoo
  generalize hW2 : w.alloc (.cells #[.int .i64 a.c, .int .i64 a.s, .int .i64 a.n, .int .i64 a.x, .int .i64 a.l, .bool oo] 24) = W2 at *
  have HW2 := Lib.hid hW2
  clear hW2
  obtain ⟨_, k1, _, _, _, k5⟩ := HC.out _ (Fr.refl _ _)
  go_enter Tryd.func14, Tryd.ntmps14
  go_wp2_with fail
  rw [HW2.out]
  clear HW2
  refine (HN1.out _ (HLD.out _ (Fr.refl _ _))).mono ?_
  rintro e w1 ⟨rfl, hF1⟩
  have HF1 := Lib.hid hF1
  have h5 := (HC.out _ hF1).2.2.2.2.2
  clear hF1 k1 k5 HN1
  generalize hg : w.heap.size = g at *
  clear hg
  cases oo with
  | false =>
    have HE : Hid (Lib.join [[99, 111, 117, 110, 116], i0, [115, 117, 109], i1, [109, 105, 110], i2, [109, 97, 120], i3, [108, 97, 115, 116], i4] [32] = txt) := Lib.hid (by rw [HTX.out, HST0.out rfl]; exact join_text i0 i1 i2 i3 i4)
    have HLEN : Hid (txt.length ≤ 1000) := Lib.hid (by rw [HTX.out, HST0.out rfl]; exact text_len i0 i1 i2 i3 i4 L0.out L1.out L2.out L3.out L4.out)
    clear HST0 HST1 HTX
    go_wp2_with fail
    refine Mix.law (fun X => X.cell? ⟨g, 0, none⟩ = some (.int .i64 a.c) ∧ X.cell? ⟨g, 2, none⟩ = some (.int .i64 a.n) ∧ X.cell? ⟨g, 3, none⟩ = some (.int .i64 a.x) ∧ X.cell? ⟨g, 4, none⟩ = some (.int .i64 a.l)) [(.sure, 0), (.sure, 1), (.sure, 3), (.sure, 4), (.sure, 5), (.sure, 7), (.sure, 8), (.sure, 10), (.sure, 11), (.turn, 2), (.turn, 6), (.turn, 9), (.turn, 12), (.turn, 13), (.turn, 14), (.sure, 15)] (by kernel_rfl) (by kernel_rfl) (by have h := HC.out _ (HF1.out.trans' (Fr.refl _ _).drew); exact ⟨h.1, h.2.2.1, h.2.2.2.1, h.2.2.2.2.1⟩) ?_
    simp only [List.map_cons, List.map_nil, Mix.nth_zero, Mix.nth_succ]
    have HX0 := Lib.hid (HF1.out.trans' ((Fr.refl (fun _ => False) w1).drew))
    generalize w1.drew = x0 at *
    repeat (first
      | ((with_reducible refine Mix.go_skipS ?_ ?_); (focus (first | exact Mix.wanted_no rfl rfl rfl rfl | exact Mix.wanted_void rfl rfl rfl)); go_frame)
      | ((with_reducible refine Mix.go_skipL ?_ ?_); (focus (first | exact Mix.wanted_no rfl rfl rfl rfl | exact Mix.wanted_void rfl rfl rfl)); go_frame)
      | (refine Mix.go_move (by first | exact Mix.wanted_none rfl | exact Mix.wanted_yes rfl rfl rfl) _ rfl _ (by first | (go_simp; done) | (go_simp; rfl)) ?_; go_frame)
      | (refine Mix.go_assign (by first | exact Mix.wanted_none rfl | exact Mix.wanted_yes rfl rfl rfl) _ rfl _ (by first | (go_simp; done) | (go_simp; rfl)) ?_; go_frame)
      | (refine Mix.go_sureW (by first | exact Mix.wanted_none rfl | exact Mix.wanted_yes rfl rfl rfl) _ (by rfl) (by rfl) _ (fun w' ⟨hC1, hC2, hC3, hC4⟩ => by go_wp2_with fail; refine Mix.stays ?_; go_frame; rfl) ?_; go_frame)
      | (refine Mix.go_lookW (by first | exact Mix.wanted_none rfl | exact Mix.wanted_yes rfl rfl rfl) _ (by rfl) (by rfl) _ (by go_wp2_with fail; refine Mix.stays ?_; go_frame; rfl) ?_; go_frame))
    refine Mix.go_turn ?_
    go_wp2_with fail
    refine (HN0.out _ (HLD.out _ HX0.out)).mono ?_
    rintro e x1 ⟨rfl, hF⟩
    have HX1 := Lib.hid (HX0.out.trans' hF)
    clear hF
    have hcl := HC.out _ HX1.out
    go_wp2
    refine Mix.then_go ⟨hcl.1, hcl.2.2.1, hcl.2.2.2.1, hcl.2.2.2.2.1⟩ ?_
    clear hcl
    refine Mix.go_turn ?_
    go_wp2_with fail
    refine (HN2.out _ (HLD.out _ HX1.out)).mono ?_
    rintro e x2 ⟨rfl, hF⟩
    have HX2 := Lib.hid (HX1.out.trans' hF)
    clear hF
    have hcl := HC.out _ HX2.out
    go_wp2
    refine Mix.then_go ⟨hcl.1, hcl.2.2.1, hcl.2.2.2.1, hcl.2.2.2.2.1⟩ ?_
    clear hcl
    refine Mix.go_turn ?_
    go_wp2_with fail
    refine (HN3.out _ (HLD.out _ HX2.out)).mono ?_
    rintro e x3 ⟨rfl, hF⟩
    have HX3 := Lib.hid (HX2.out.trans' hF)
    clear hF
    have hcl := HC.out _ HX3.out
    go_wp2
    refine Mix.then_go ⟨hcl.1, hcl.2.2.1, hcl.2.2.2.1, hcl.2.2.2.2.1⟩ ?_
    clear hcl
    refine Mix.go_turn ?_
    go_wp2_with fail
    refine (HN4.out _ (HLD.out _ HX3.out)).mono ?_
    rintro e x4 ⟨rfl, hF⟩
    have HX4 := Lib.hid (HX3.out.trans' hF)
    clear hF
    have hcl := HC.out _ HX4.out
    go_wp2
    refine Mix.then_go ⟨hcl.1, hcl.2.2.1, hcl.2.2.2.1, hcl.2.2.2.2.1⟩ ?_
    clear hcl
    refine Mix.go_turn ?_
    have hfa := (Fr.refl (fun _ => False) x4).alloc (.cells #[.string ⟨#[99, 111, 117, 110, 116]⟩, .string ⟨i0.toArray⟩, .string ⟨#[115, 117, 109]⟩, .string ⟨i1.toArray⟩, .string ⟨#[109, 105, 110]⟩, .string ⟨i2.toArray⟩, .string ⟨#[109, 97, 120]⟩, .string ⟨i3.toArray⟩, .string ⟨#[108, 97, 115, 116]⟩, .string ⟨i4.toArray⟩] 9)
    have HX5 := Lib.hid (HX4.out.trans' hfa)
    have hjn := join_any x4.heap.size [[99, 111, 117, 110, 116], i0, [115, 117, 109], i1, [109, 105, 110], i2, [109, 97, 120], i3, [108, 97, 115, 116], i4] [32] (x4.alloc (.cells #[.string ⟨#[99, 111, 117, 110, 116]⟩, .string ⟨i0.toArray⟩, .string ⟨#[115, 117, 109]⟩, .string ⟨i1.toArray⟩, .string ⟨#[109, 105, 110]⟩, .string ⟨i2.toArray⟩, .string ⟨#[109, 97, 120]⟩, .string ⟨i3.toArray⟩, .string ⟨#[108, 97, 115, 116]⟩, .string ⟨i4.toArray⟩] 9)) (fun j x hx => by
      rw [cell_of_row _ _ _ _ _ _ (heap_alloc_new x4 _)]
      match j, hx with
      | 0, hx => cases hx; rfl
      | 1, hx => cases hx; rfl
      | 2, hx => cases hx; rfl
      | 3, hx => cases hx; rfl
      | 4, hx => cases hx; rfl
      | 5, hx => cases hx; rfl
      | 6, hx => cases hx; rfl
      | 7, hx => cases hx; rfl
      | 8, hx => cases hx; rfl
      | 9, hx => cases hx; rfl) (by rw [World.size_alloc]; omega) (by simp) (by rw [HE.out]; have := HLEN.out; omega) 10 rfl
    rw [HE.out] at hjn
    have HJN := Lib.hid hjn
    clear hfa hjn
    go_wp2
    have hcl := HC.out _ HX5.out
    refine Mix.then_go ⟨hcl.1, hcl.2.2.1, hcl.2.2.2.1, hcl.2.2.2.2.1⟩ ?_
    clear hcl
    refine Mix.go_turn ?_
    go_wp2_with fail
    refine HJN.out.mono ?_
    rintro e x6 ⟨rfl, hF⟩
    have HX6 := Lib.hid (HX5.out.trans' hF)
    clear hF
    have hcl := HC.out _ HX6.out
    go_wp2
    refine Mix.then_go ⟨hcl.1, hcl.2.2.1, hcl.2.2.2.1, hcl.2.2.2.2.1⟩ ?_
    clear hcl
    repeat (first
      | ((with_reducible refine Mix.go_skipS ?_ ?_); (focus (first | exact Mix.wanted_no rfl rfl rfl rfl | exact Mix.wanted_void rfl rfl rfl)); go_frame)
      | ((with_reducible refine Mix.go_skipL ?_ ?_); (focus (first | exact Mix.wanted_no rfl rfl rfl rfl | exact Mix.wanted_void rfl rfl rfl)); go_frame)
      | (refine Mix.go_move (by first | exact Mix.wanted_none rfl | exact Mix.wanted_yes rfl rfl rfl) _ rfl _ (by first | (go_simp; done) | (go_simp; rfl)) ?_; go_frame)
      | (refine Mix.go_assign (by first | exact Mix.wanted_none rfl | exact Mix.wanted_yes rfl rfl rfl) _ rfl _ (by first | (go_simp; done) | (go_simp; rfl)) ?_; go_frame)
      | (refine Mix.go_sureW (by first | exact Mix.wanted_none rfl | exact Mix.wanted_yes rfl rfl rfl) _ (by rfl) (by rfl) _ (fun w' ⟨hC1, hC2, hC3, hC4⟩ => by go_wp2_with fail; refine Mix.stays ?_; go_frame; rfl) ?_; go_frame)
      | (refine Mix.go_lookW (by first | exact Mix.wanted_none rfl | exact Mix.wanted_yes rfl rfl rfl) _ (by rfl) (by rfl) _ (by go_wp2_with fail; refine Mix.stays ?_; go_frame; rfl) ?_; go_frame))
    refine Mix.go_end ?_
    go_wp2
    go_ret
    exact ⟨rfl, HF.out.trans' HX6.out⟩
  | true =>
    have HE : Hid (Lib.join [[99, 111, 117, 110, 116], i0, [115, 117, 109], [111, 118, 101, 114], [109, 105, 110], i2, [109, 97, 120], i3, [108, 97, 115, 116], i4] [32] = txt) := Lib.hid (by rw [HTX.out, HST1.out rfl]; exact join_text i0 [111, 118, 101, 114] i2 i3 i4)
    have HLEN : Hid (txt.length ≤ 1000) := Lib.hid (by rw [HTX.out, HST1.out rfl]; exact text_len i0 [111, 118, 101, 114] i2 i3 i4 L0.out (by decide) L2.out L3.out L4.out)
    clear HST0 HST1 HTX
    go_wp2_with fail
    refine Mix.law (fun X => X.cell? ⟨g, 0, none⟩ = some (.int .i64 a.c) ∧ X.cell? ⟨g, 2, none⟩ = some (.int .i64 a.n) ∧ X.cell? ⟨g, 3, none⟩ = some (.int .i64 a.x) ∧ X.cell? ⟨g, 4, none⟩ = some (.int .i64 a.l)) [(.sure, 0), (.sure, 1), (.sure, 3), (.sure, 4), (.sure, 5), (.sure, 7), (.sure, 8), (.sure, 10), (.sure, 11), (.turn, 2), (.turn, 6), (.turn, 9), (.turn, 12), (.turn, 13), (.turn, 14), (.sure, 15)] (by kernel_rfl) (by kernel_rfl) (by have h := HC.out _ (HF1.out.trans' (Fr.refl _ _).drew); exact ⟨h.1, h.2.2.1, h.2.2.2.1, h.2.2.2.2.1⟩) ?_
    simp only [List.map_cons, List.map_nil, Mix.nth_zero, Mix.nth_succ]
    have HX0 := Lib.hid (HF1.out.trans' ((Fr.refl (fun _ => False) w1).drew))
    generalize w1.drew = x0 at *
    repeat (first
      | ((with_reducible refine Mix.go_skipS ?_ ?_); (focus (first | exact Mix.wanted_no rfl rfl rfl rfl | exact Mix.wanted_void rfl rfl rfl)); go_frame)
      | ((with_reducible refine Mix.go_skipL ?_ ?_); (focus (first | exact Mix.wanted_no rfl rfl rfl rfl | exact Mix.wanted_void rfl rfl rfl)); go_frame)
      | (refine Mix.go_move (by first | exact Mix.wanted_none rfl | exact Mix.wanted_yes rfl rfl rfl) _ rfl _ (by first | (go_simp; done) | (go_simp; rfl)) ?_; go_frame)
      | (refine Mix.go_assign (by first | exact Mix.wanted_none rfl | exact Mix.wanted_yes rfl rfl rfl) _ rfl _ (by first | (go_simp; done) | (go_simp; rfl)) ?_; go_frame)
      | (refine Mix.go_sureW (by first | exact Mix.wanted_none rfl | exact Mix.wanted_yes rfl rfl rfl) _ (by rfl) (by rfl) _ (fun w' ⟨hC1, hC2, hC3, hC4⟩ => by go_wp2_with fail; refine Mix.stays ?_; go_frame; rfl) ?_; go_frame)
      | (refine Mix.go_lookW (by first | exact Mix.wanted_none rfl | exact Mix.wanted_yes rfl rfl rfl) _ (by rfl) (by rfl) _ (by go_wp2_with fail; refine Mix.stays ?_; go_frame; rfl) ?_; go_frame))
    refine Mix.go_turn ?_
    go_wp2_with fail
    refine (HN0.out _ (HLD.out _ HX0.out)).mono ?_
    rintro e x1 ⟨rfl, hF⟩
    have HX1 := Lib.hid (HX0.out.trans' hF)
    clear hF
    have hcl := HC.out _ HX1.out
    go_wp2
    refine Mix.then_go ⟨hcl.1, hcl.2.2.1, hcl.2.2.2.1, hcl.2.2.2.2.1⟩ ?_
    clear hcl
    refine Mix.go_turn ?_
    go_wp2_with fail
    refine (HN2.out _ (HLD.out _ HX1.out)).mono ?_
    rintro e x2 ⟨rfl, hF⟩
    have HX2 := Lib.hid (HX1.out.trans' hF)
    clear hF
    have hcl := HC.out _ HX2.out
    go_wp2
    refine Mix.then_go ⟨hcl.1, hcl.2.2.1, hcl.2.2.2.1, hcl.2.2.2.2.1⟩ ?_
    clear hcl
    refine Mix.go_turn ?_
    go_wp2_with fail
    refine (HN3.out _ (HLD.out _ HX2.out)).mono ?_
    rintro e x3 ⟨rfl, hF⟩
    have HX3 := Lib.hid (HX2.out.trans' hF)
    clear hF
    have hcl := HC.out _ HX3.out
    go_wp2
    refine Mix.then_go ⟨hcl.1, hcl.2.2.1, hcl.2.2.2.1, hcl.2.2.2.2.1⟩ ?_
    clear hcl
    refine Mix.go_turn ?_
    go_wp2_with fail
    refine (HN4.out _ (HLD.out _ HX3.out)).mono ?_
    rintro e x4 ⟨rfl, hF⟩
    have HX4 := Lib.hid (HX3.out.trans' hF)
    clear hF
    have hcl := HC.out _ HX4.out
    go_wp2
    refine Mix.then_go ⟨hcl.1, hcl.2.2.1, hcl.2.2.2.1, hcl.2.2.2.2.1⟩ ?_
    clear hcl
    refine Mix.go_turn ?_
    have hfa := (Fr.refl (fun _ => False) x4).alloc (.cells #[.string ⟨#[99, 111, 117, 110, 116]⟩, .string ⟨i0.toArray⟩, .string ⟨#[115, 117, 109]⟩, .string ⟨#[111, 118, 101, 114]⟩, .string ⟨#[109, 105, 110]⟩, .string ⟨i2.toArray⟩, .string ⟨#[109, 97, 120]⟩, .string ⟨i3.toArray⟩, .string ⟨#[108, 97, 115, 116]⟩, .string ⟨i4.toArray⟩] 9)
    have HX5 := Lib.hid (HX4.out.trans' hfa)
    have hjn := join_any x4.heap.size [[99, 111, 117, 110, 116], i0, [115, 117, 109], [111, 118, 101, 114], [109, 105, 110], i2, [109, 97, 120], i3, [108, 97, 115, 116], i4] [32] (x4.alloc (.cells #[.string ⟨#[99, 111, 117, 110, 116]⟩, .string ⟨i0.toArray⟩, .string ⟨#[115, 117, 109]⟩, .string ⟨#[111, 118, 101, 114]⟩, .string ⟨#[109, 105, 110]⟩, .string ⟨i2.toArray⟩, .string ⟨#[109, 97, 120]⟩, .string ⟨i3.toArray⟩, .string ⟨#[108, 97, 115, 116]⟩, .string ⟨i4.toArray⟩] 9)) (fun j x hx => by
      rw [cell_of_row _ _ _ _ _ _ (heap_alloc_new x4 _)]
      match j, hx with
      | 0, hx => cases hx; rfl
      | 1, hx => cases hx; rfl
      | 2, hx => cases hx; rfl
      | 3, hx => cases hx; rfl
      | 4, hx => cases hx; rfl
      | 5, hx => cases hx; rfl
      | 6, hx => cases hx; rfl
      | 7, hx => cases hx; rfl
      | 8, hx => cases hx; rfl
      | 9, hx => cases hx; rfl) (by rw [World.size_alloc]; omega) (by simp) (by rw [HE.out]; have := HLEN.out; omega) 10 rfl
    rw [HE.out] at hjn
    have HJN := Lib.hid hjn
    clear hfa hjn
    go_wp2
    have hcl := HC.out _ HX5.out
    refine Mix.then_go ⟨hcl.1, hcl.2.2.1, hcl.2.2.2.1, hcl.2.2.2.2.1⟩ ?_
    clear hcl
    refine Mix.go_turn ?_
    go_wp2_with fail
    refine HJN.out.mono ?_
    rintro e x6 ⟨rfl, hF⟩
    have HX6 := Lib.hid (HX5.out.trans' hF)
    clear hF
    have hcl := HC.out _ HX6.out
    go_wp2
    refine Mix.then_go ⟨hcl.1, hcl.2.2.1, hcl.2.2.2.1, hcl.2.2.2.2.1⟩ ?_
    clear hcl
    repeat (first
      | ((with_reducible refine Mix.go_skipS ?_ ?_); (focus (first | exact Mix.wanted_no rfl rfl rfl rfl | exact Mix.wanted_void rfl rfl rfl)); go_frame)
      | ((with_reducible refine Mix.go_skipL ?_ ?_); (focus (first | exact Mix.wanted_no rfl rfl rfl rfl | exact Mix.wanted_void rfl rfl rfl)); go_frame)
      | (refine Mix.go_move (by first | exact Mix.wanted_none rfl | exact Mix.wanted_yes rfl rfl rfl) _ rfl _ (by first | (go_simp; done) | (go_simp; rfl)) ?_; go_frame)
      | (refine Mix.go_assign (by first | exact Mix.wanted_none rfl | exact Mix.wanted_yes rfl rfl rfl) _ rfl _ (by first | (go_simp; done) | (go_simp; rfl)) ?_; go_frame)
      | (refine Mix.go_sureW (by first | exact Mix.wanted_none rfl | exact Mix.wanted_yes rfl rfl rfl) _ (by rfl) (by rfl) _ (fun w' ⟨hC1, hC2, hC3, hC4⟩ => by go_wp2_with fail; refine Mix.stays ?_; go_frame; rfl) ?_; go_frame)
      | (refine Mix.go_lookW (by first | exact Mix.wanted_none rfl | exact Mix.wanted_yes rfl rfl rfl) _ (by rfl) (by rfl) _ (by go_wp2_with fail; refine Mix.stays ?_; go_frame; rfl) ?_; go_frame))
    refine Mix.go_end ?_
    go_wp2
    go_ret
    exact ⟨rfl, HF.out.trans' HX6.out⟩
end Go.Proofs.YtbiokogihimboaaDoor.Agg
