/-
  What the laws share: awake.
-/
import Derived.Test.YtemfohccnpopfaaAskSame
import Derived.Test.YtemfohccnpopfaaAskGetW
import Derived.Test.YtemfohccnpopfaaAskLawK
import Derived.Test.YtemfohccnpopfaaMixS
namespace Go.Proofs.Ytemfohccnpopfaa.AskL
open Go.RowKit Base Pack _root_.Go.Proofs.Ytemfohccnpopfaa.Ask

theorem putB_le (a : Rq) (h : good a = true) : (putB a).length ≤ 140737488355328 := by
  have h1 := putB_length a h
  have h2 := good_name h
  have h3 := good_kind h
  rw [h1]
  split <;> omega
/-- Get of what was put -/
theorem pget_put (v : Value) (a : Rq) (hg : good a = true) (hf : Fits a) (w : World) (hB : BytesIs w v (putB a)) :
    Calls Try.prog 11 #[v] w fun e w' => ∃ A C, e = .returned (.tuple #[.agg (rv (.slice A a.s.length C) a), .int .i64 0]) ∧ PairsIs w' (.slice A a.s.length C) a.s ∧ Fr0 w w' := by
  have h := pget_any v (putB a) (putB_le a hg) w hB
  unfold GetPost at h
  rw [get_put a hg hf] at h
  exact h
theorem putErr_ok {a : Rq} (h : good a = true) : putErr a = 0 ∧ putOut a = putB a := by
  unfold putErr putOut
  rw [if_pos h, if_pos h]
  exact ⟨rfl, rfl⟩
theorem putErr_no {a : Rq} (h : good a = false) : putErr a = 1 ∧ putOut a = [] := by
  unfold putErr putOut
  rw [if_neg (by rw [h]; decide), if_neg (by rw [h]; decide)]
  exact ⟨rfl, rfl⟩
theorem put_good (A : Option Addr) (C : Nat) (a : Rq) (hg : good a = true) (w : World) (hS : PairsIs w (.slice A a.s.length C) a.s) :
    Calls Try.prog 9 #[.agg (rv (.slice A a.s.length C) a)] w fun e w' => ∃ A' C', e = .returned (.tuple #[.slice A' (putB a).length C', .int .i64 0]) ∧ BytesIs w' (.slice A' (putB a).length C') (putB a) ∧ Fr0 w w' := by
  have hn := good_name hg
  refine (pput_any A C a (by omega) w hS).mono ?_
  rintro e w' ⟨v, rfl, hB, hF⟩
  rw [(putErr_ok hg).1]
  rw [(putErr_ok hg).2] at hB
  obtain ⟨A', C', rfl⟩ := hB.form
  exact ⟨A', C', rfl, hB, hF⟩
/-- the query that awake asks -/
def q0 : Rq := ⟨2, [97], [], 1, 2, 31⟩
theorem q0_good : good q0 = true := by decide
theorem q0_fits : Fits q0 := ⟨fun p hp => by simp [q0] at hp, by decide, by decide⟩
theorem q0_len : (putB q0).length = 21 := by decide
set_option maxRecDepth 100000 in
set_option maxHeartbeats 4000000 in
theorem awake_any (w : World) : Calls Try.prog 8 #[] w fun e w' => e = .returned (.bool true) ∧ Fr0 w w' := by
  have hg1 := heap_alloc_new w (.cells #[.int .i64 0, .string ⟨#[]⟩, .slice none 0 0, .int .i64 0, .int .i64 0, .int .i64 0] 27)
  obtain ⟨W1, hW1⟩ : ∃ W1, W1 = (w.alloc (.cells #[.int .i64 0, .string ⟨#[]⟩, .slice none 0 0, .int .i64 0, .int .i64 0, .int .i64 0] 27)).setRow w.heap.size #[.int .i64 2, .string ⟨#[97]⟩, .slice none 0 0, .int .i64 1, .int .i64 2, .int .i64 31] := ⟨_, rfl⟩
  have hr1 := setRow_heap _ w.heap.size _ #[.int .i64 2, .string ⟨#[97]⟩, .slice none 0 0, .int .i64 1, .int .i64 2, .int .i64 31] _ _ hg1
  rw [← hW1] at hr1
  have hf1 : Fr0 w W1 := by rw [hW1]; exact Fr.setRow ((Fr.refl _ _).alloc _) (fun h => absurd h (Nat.lt_irrefl _)) _
  have HF1 := Lib.hid hf1
  have HR1 := Lib.hid hr1
  have HW1 := Lib.hid hW1
  have HG1 := Lib.hid hg1
  have hs1 : w.heap.size < W1.heap.size := by rw [hW1]; simp
  have hput := put_good none 0 q0 q0_good W1 (pairs_nil W1)
  rw [q0_len] at hput
  have HPUT := Lib.hid hput
  clear hg1 hW1 hr1 hf1 hput
  go_enter Try.func8, Try.ntmps8
  go_wp2_with (first | (refine wpList_load_row rfl 27 _ rfl w.heap.size rfl 27 _ (0, 0) _ HR1.out Try.underlying27 rfl (by kernel_rfl) ?_) | (refine wpList_store_row rfl 27 _ _ rfl w.heap.size #[.int .i64 2, .string ⟨#[97]⟩, .slice none 0 0, .int .i64 1, .int .i64 2, .int .i64 31] rfl rfl 27 _ HG1.out infoAskP rfl (ask_one _ _ _ _ _ _ rfl) ?_; rw [← HW1.out]))
  refine HPUT.out.mono ?_
  clear HPUT
  rintro e W2 ⟨Ab, Cb, rfl, hB2, hF2⟩
  have HB2 := Lib.hid hB2
  have HF2 := Lib.hid hF2
  have hget := pget_put _ q0 q0_good q0_fits W2 hB2
  have hs2 := hF2.size
  clear hB2 hF2
  go_wp2_with fail
  refine hget.mono ?_
  clear hget
  rintro e W3 ⟨A3, C3, rfl, hP3, hF3⟩
  have hs3 := hF3.size
  have hg4 := heap_alloc_new W3 (.cells #[.int .i64 0, .string ⟨#[]⟩, .slice none 0 0, .int .i64 0, .int .i64 0, .int .i64 0] 27)
  obtain ⟨W4, hW4⟩ : ∃ W4, W4 = (W3.alloc (.cells #[.int .i64 0, .string ⟨#[]⟩, .slice none 0 0, .int .i64 0, .int .i64 0, .int .i64 0] 27)).setRow W3.heap.size #[.int .i64 2, .string ⟨#[97]⟩, .slice A3 0 C3, .int .i64 1, .int .i64 2, .int .i64 31] := ⟨_, rfl⟩
  have hr4 := setRow_heap _ W3.heap.size _ #[.int .i64 2, .string ⟨#[97]⟩, .slice A3 0 C3, .int .i64 1, .int .i64 2, .int .i64 31] _ _ hg4
  rw [← hW4] at hr4
  have hf4 : Fr0 W3 W4 := by rw [hW4]; exact Fr.setRow ((Fr.refl _ _).alloc _) (fun h => absurd h (Nat.lt_irrefl _)) _
  have HR4 := Lib.hid hr4
  have HW4 := Lib.hid hW4
  have HG4 := Lib.hid hg4
  have HR1 := Lib.hid ((HF2.out.trans' (hF3.trans' hf4)).heap HR1.out (fun f => f))
  have HF4 := Lib.hid (HF1.out.trans' (HF2.out.trans' (hF3.trans' hf4)))
  have HP4 : Hid (PairsIs W4 (.slice A3 q0.s.length C3) q0.s) := Lib.hid (hP3.fr0 hf4)
  clear hg4 hW4 hr4 hf4 hF3 hP3 HF1 HF2
  go_wp2_with (refine wpList_store_row rfl 27 _ _ rfl W3.heap.size #[.int .i64 2, .string ⟨#[97]⟩, .slice A3 0 C3, .int .i64 1, .int .i64 2, .int .i64 31] rfl rfl 27 _ HG4.out infoAskP rfl (ask_one _ _ _ _ _ _ rfl) ?_; rw [← HW4.out])
  refine Mix.law (fun X => Fr0 W4 X) [(.sure, 0), (.sure, 1), (.sure, 2), (.sure, 3), (.sure, 4), (.sure, 5), (.sure, 6), (.sure, 7), (.sure, 8), (.sure, 9), (.sure, 10), (.sure, 11), (.sure, 12), (.sure, 14), (.turn, 13), (.turn, 15), (.turn, 16), (.sure, 17), (.sure, 18), (.sure, 19), (.turn, 20), (.sure, 21), (.sure, 22)] (by kernel_rfl) (by kernel_rfl) (Fr.refl _ _).drew ?_
  simp only [List.map_cons, List.map_nil, Mix.nth_zero, Mix.nth_succ]
  have HDR := Lib.hid ((Fr.refl (fun _ => False) W4).drew)
  generalize W4.drew = wd at *
  repeat (first
    | (refine Mix.go_skipS (by exact Mix.wanted_no rfl rfl rfl rfl) ?_; go_frame)
    | (refine Mix.go_skipL (by exact Mix.wanted_no rfl rfl rfl rfl) ?_; go_frame)
    | (refine Mix.go_move (by first | exact Mix.wanted_none rfl | exact Mix.wanted_yes rfl rfl rfl) _ rfl _ (by first | (go_simp; done) | (go_simp; rfl)) ?_; go_frame)
    | (refine Mix.go_assign (by first | exact Mix.wanted_none rfl | exact Mix.wanted_yes rfl rfl rfl) _ rfl _ (by first | (go_simp; done) | (go_simp; rfl)) ?_; go_frame)
    | (refine Mix.go_sureW (by first | exact Mix.wanted_none rfl | exact Mix.wanted_yes rfl rfl rfl) _ (by rfl) (by rfl) _ (fun w' hC' => by go_wp2_with fail; refine Mix.stays ?_; go_frame; rfl) ?_; go_frame)
    | (refine Mix.go_lookW (by first | exact Mix.wanted_none rfl | exact Mix.wanted_yes rfl rfl rfl) _ (by rfl) (by rfl) _ (by go_wp2_with fail; refine Mix.stays ?_; go_frame; rfl) ?_; go_frame)
    | (refine Mix.go_sure_row (by first | exact Mix.wanted_none rfl | exact Mix.wanted_yes rfl rfl rfl) 27 _ rfl (w.heap.size) rfl 27 _ (0, 0) _ (fun w1 hC1 => hC1.heap HR1.out (fun f => f)) Try.underlying27 rfl (by kernel_rfl) ?_; go_frame)
    | (refine Mix.go_sure_row (by first | exact Mix.wanted_none rfl | exact Mix.wanted_yes rfl rfl rfl) 27 _ rfl (W3.heap.size) rfl 27 _ (0, 0) _ (fun w1 hC1 => hC1.heap HR4.out (fun f => f)) Try.underlying27 rfl (by kernel_rfl) ?_; go_frame))
  refine Mix.go_turn ?_
  go_wp2_with fail
  refine (own_any none 0 q0 (by decide) wd (pairs_nil wd)).mono ?_
  rintro e wa ⟨Aa, Ca, rfl, hPa, hFa⟩
  have HFA := Lib.hid (HDR.out.trans' hFa)
  have HPA := Lib.hid hPa
  clear hPa hFa
  go_wp2
  refine Mix.then_go HFA.out ?_
  refine Mix.go_turn ?_
  go_wp2_with fail
  refine (own_any A3 C3 q0 (by decide) wa (HP4.out.fr0 HFA.out)).mono ?_
  rintro e wb ⟨Ab', Cb', rfl, hPb, hFb⟩
  have HFB := Lib.hid (HFA.out.trans' hFb)
  have HPB := Lib.hid hPb
  have HPA := Lib.hid (HPA.out.fr0 hFb)
  clear hPb hFb
  go_wp2
  refine Mix.then_go HFB.out ?_
  refine Mix.go_turn ?_
  go_wp2_with fail
  have hsm := same_any Aa Ab' Ca Cb' q0 q0 (by decide) wb HPA.out HPB.out
  rw [(sameQ_iff q0 q0).2 rfl] at hsm
  refine hsm.mono ?_
  clear hsm
  rintro e wc' ⟨rfl, hFc⟩
  have HFC := Lib.hid (HFB.out.trans' hFc)
  clear hFc
  go_wp2
  refine Mix.then_go HFC.out ?_
  repeat (first
    | (refine Mix.go_skipS (by exact Mix.wanted_no rfl rfl rfl rfl) ?_; go_frame)
    | (refine Mix.go_skipL (by exact Mix.wanted_no rfl rfl rfl rfl) ?_; go_frame)
    | (refine Mix.go_move (by first | exact Mix.wanted_none rfl | exact Mix.wanted_yes rfl rfl rfl) _ rfl _ (by first | (go_simp; done) | (go_simp; rfl)) ?_; go_frame)
    | (refine Mix.go_assign (by first | exact Mix.wanted_none rfl | exact Mix.wanted_yes rfl rfl rfl) _ rfl _ (by first | (go_simp; done) | (go_simp; rfl)) ?_; go_frame)
    | (refine Mix.go_sureW (by first | exact Mix.wanted_none rfl | exact Mix.wanted_yes rfl rfl rfl) _ (by rfl) (by rfl) _ (fun w' hC' => by go_wp2_with fail; refine Mix.stays ?_; go_frame; rfl) ?_; go_frame)
    | (refine Mix.go_lookW (by first | exact Mix.wanted_none rfl | exact Mix.wanted_yes rfl rfl rfl) _ (by rfl) (by rfl) _ (by go_wp2_with fail; refine Mix.stays ?_; go_frame; rfl) ?_; go_frame)
    | (refine Mix.go_sure_row (by first | exact Mix.wanted_none rfl | exact Mix.wanted_yes rfl rfl rfl) 27 _ rfl (w.heap.size) rfl 27 _ (0, 0) _ (fun w1 hC1 => hC1.heap HR1.out (fun f => f)) Try.underlying27 rfl (by kernel_rfl) ?_; go_frame)
    | (refine Mix.go_sure_row (by first | exact Mix.wanted_none rfl | exact Mix.wanted_yes rfl rfl rfl) 27 _ rfl (W3.heap.size) rfl 27 _ (0, 0) _ (fun w1 hC1 => hC1.heap HR4.out (fun f => f)) Try.underlying27 rfl (by kernel_rfl) ?_; go_frame))
  refine Mix.go_turn ?_
  go_wp2_with fail
  have hgd := pgood_any none 0 q0 (by decide) wc'
  rw [q0_good] at hgd
  refine hgd.mono ?_
  clear hgd
  rintro e we ⟨rfl, hFe⟩
  have HFE := Lib.hid (HFC.out.trans' hFe)
  clear hFe
  go_wp2
  refine Mix.then_go HFE.out ?_
  repeat (first
    | (refine Mix.go_skipS (by exact Mix.wanted_no rfl rfl rfl rfl) ?_; go_frame)
    | (refine Mix.go_skipL (by exact Mix.wanted_no rfl rfl rfl rfl) ?_; go_frame)
    | (refine Mix.go_move (by first | exact Mix.wanted_none rfl | exact Mix.wanted_yes rfl rfl rfl) _ rfl _ (by first | (go_simp; done) | (go_simp; rfl)) ?_; go_frame)
    | (refine Mix.go_assign (by first | exact Mix.wanted_none rfl | exact Mix.wanted_yes rfl rfl rfl) _ rfl _ (by first | (go_simp; done) | (go_simp; rfl)) ?_; go_frame)
    | (refine Mix.go_sureW (by first | exact Mix.wanted_none rfl | exact Mix.wanted_yes rfl rfl rfl) _ (by rfl) (by rfl) _ (fun w' hC' => by go_wp2_with fail; refine Mix.stays ?_; go_frame; rfl) ?_; go_frame)
    | (refine Mix.go_lookW (by first | exact Mix.wanted_none rfl | exact Mix.wanted_yes rfl rfl rfl) _ (by rfl) (by rfl) _ (by go_wp2_with fail; refine Mix.stays ?_; go_frame; rfl) ?_; go_frame))
  refine Mix.go_end ?_
  go_wp2
  go_ret
  exact ⟨rfl, HF4.out.trans' HFE.out⟩
end Go.Proofs.Ytemfohccnpopfaa.AskL
