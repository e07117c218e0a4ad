/-
  The laws' rows, sameRows.
-/
import Derived.Test.YtbbmjkligiglmaaSerRef
import Derived.Test.YtbbmjkligiglmaaMixS
import Derived.Laws.StructEq
import Derived.Test.YtbbmjkligiglmaaWays
namespace Go.Proofs.Ytbbmjkligiglmaa.StoreL
open Go.RowKit Base _root_.Go.Proofs.Ytbbmjkligiglmaa.Series

set_option maxRecDepth 100000 in
set_option maxHeartbeats 4000000 in
theorem rows_any (v : Value) (l : List Sm) (hl : l.length ≤ 1000000) (w : World) (hP : PairsIs w v l) :
    Calls Try.prog 16 #[v] w fun e w' => ∃ A C, e = .returned (.slice A l.length C) ∧ PairsIs w' (.slice A l.length C) l ∧ Fr0 w w' := by
  obtain ⟨A, C, rfl⟩ := pairs_form hP
  have HP := Lib.hid hP
  clear hP
  generalize hN : l.length = N at *
  have HN := Lib.hid hN
  clear hN
  go_enter Try.func16, Try.ntmps16
  go_wp2_with fail
  go_loopg [3, 4] N (fun kx vr vi wr => ∃ (i : Nat) (Ab : Option Addr) (Cb : Nat), vi = .int .i64 (i : Int) ∧ vr = .slice Ab i Cb ∧ i ≤ N ∧ N - i ≤ kx ∧ Hid (wr.ownsRow w.heap.size 80 2 (.slice Ab i Cb) i (pcells (l.take i))) ∧ Hid (Fr0 w wr))
  case atStart => exact ⟨0, none, 0, rfl, rfl, Nat.zero_le _, by omega, Lib.hid (World.ownsRow_nil _ _ _ _), Lib.hid (Fr.refl _ _)⟩
  case round =>
    obtain ⟨i, Ab, Cb, rfl, rfl, hi, hk, HO, HF⟩ := hrel
    by_cases hlt : i < N
    · obtain ⟨pb, po, rfl, hc⟩ := pairs_at HP.out i (by have := HN.out; omega)
      have HC := Lib.hid hc
      have i1 : (i : Int) < (N : Int) := by omega
      have i2 : 0 ≤ (i : Int) := by omega
      have hnx : pcells (l.take (i + 1)) = pcells (l.take i) ++ [.int .i64 (l.getD i (0, 0)).1, .int .i64 (l.getD i (0, 0)).2] := by
        have hx : i < l.length := by have := HN.out; omega
        rw [List.take_add_one, List.getD_eq_getElem?_getD, List.getElem?_eq_getElem hx]
        simp only [Option.toList_some, Option.getD_some]
        rw [pcells_append]
        rfl
      have HNX := Lib.hid hnx
      clear hnx hc
      generalize (l.getD i (0, 0)).1 = x at *
      generalize (l.getD i (0, 0)).2 = y at *
      go_wp2_with fail
      refine Mix.law (fun X => True) [(.sure, 0), (.sure, 1), (.sure, 2), (.sure, 3), (.sure, 4), (.look, 5), (.sure, 6), (.sure, 7), (.sure, 8), (.sure, 9), (.look, 10), (.sure, 11), (.turn, 12), (.turn, 13), (.sure, 14)] (by kernel_rfl) (by kernel_rfl) trivial ?_
      simp only [List.map_cons, List.map_nil, Mix.nth_zero, Mix.nth_succ]
      have HD := Lib.hid (HF.out.trans' ((Fr.refl (fun _ => False) wr).drew))
      have HO := Lib.hid (ownsFr ((Fr.refl (fun _ => False) wr).drew) HO.out (fun _ _ f => f))
      generalize wr.drew = wd at *
      obtain ⟨d0, d1⟩ := HC.out wd HD.out
      repeat (first
        | ((with_reducible refine Mix.go_skipS ?_ ?_); (focus (first | exact Mix.wanted_no rfl rfl rfl rfl | exact Mix.wanted_void rfl rfl rfl)); go_frame)
        | ((with_reducible refine Mix.go_skipL ?_ ?_); (focus (first | exact Mix.wanted_no rfl rfl rfl rfl | exact Mix.wanted_void rfl rfl rfl)); go_frame)
        | (refine Mix.go_move (by first | exact Mix.wanted_none rfl | exact Mix.wanted_yes rfl rfl rfl) _ rfl _ (by first | (go_simp; done) | (go_simp; rfl)) ?_; go_frame)
        | (refine Mix.go_assign (by first | exact Mix.wanted_none rfl | exact Mix.wanted_yes rfl rfl rfl) _ rfl _ (by first | (go_simp; done) | (go_simp; rfl)) ?_; go_frame)
        | (refine Mix.go_sureW (by first | exact Mix.wanted_none rfl | exact Mix.wanted_yes rfl rfl rfl) _ (by rfl) (by rfl) _ (fun w' hC' => by go_wp2_with fail; refine Mix.stays ?_; go_frame; rfl) ?_; go_frame)
        | (refine Mix.go_lookW (by first | exact Mix.wanted_none rfl | exact Mix.wanted_yes rfl rfl rfl) _ (by rfl) (by rfl) _ (by go_wp2_with fail; refine Mix.stays ?_; go_frame; rfl) ?_; go_frame))
      refine Mix.go_turn ?_
      go_wp2
      have HFL := Lib.hid ((Fr.refl (fun _ => False) wd).alloc (.cells #[.int .i64 x, .int .i64 y] 80))
      have HOL := Lib.hid (ownsFr HFL.out HO.out (fun _ _ f => f))
      have HPL := Lib.hid (pair_lit wd x y 80)
      have HWS := Lib.hid (Nat.le_trans HD.out.size HFL.out.size)
      refine Mix.then_go trivial ?_
      refine Mix.go_turn ?_
      go_wp2_with ((refine wpList_append_valsM rfl (.tmp 11) (.tmp 23) 51 rfl (w.heap.size) 80 Try.underlying51 (.agg #[.int .i64 0, .int .i64 0]) 2 16 infoR rfl (by decide) _ _ i 1 (pcells (l.take i)) [.int .i64 x, .int .i64 y] rfl rfl HOL.out HPL.out (by rfl) (by intro u hu; simp at hu; rcases hu with rfl | rfl <;> rfl) (by unfold maxLen; omega) (by omega) (by exact HWS.out) ?_))
      intro v1 w2 hO1 hG1 _
      obtain ⟨A1, C1, hv1, _⟩ := owns_form hO1
      subst hv1
      have HO1 : Hid (w2.ownsRow w.heap.size 80 2 (.slice A1 (i + 1) C1) (i + 1) (pcells (l.take (i + 1)))) := Lib.hid (by rw [HNX.out]; exact hO1)
      have HF1 : Hid (Fr0 w w2) := Lib.hid ((HD.out.trans' HFL.out).trans (Fr.of_grown (S := fun j => (Value.slice Ab i Cb).ownBlock = some j) hG1 (fun k hk e => e)) (fun j hj e => by have := (HOL.out.lt j e).1; omega))
      clear hO1 hG1
      refine Mix.then_go trivial ?_
      repeat (first
        | ((with_reducible refine Mix.go_skipS ?_ ?_); (focus (first | exact Mix.wanted_no rfl rfl rfl rfl | exact Mix.wanted_void rfl rfl rfl)); go_frame)
        | ((with_reducible refine Mix.go_skipL ?_ ?_); (focus (first | exact Mix.wanted_no rfl rfl rfl rfl | exact Mix.wanted_void rfl rfl rfl)); go_frame)
        | (refine Mix.go_move (by first | exact Mix.wanted_none rfl | exact Mix.wanted_yes rfl rfl rfl) _ rfl _ (by first | (go_simp; done) | (go_simp; rfl)) ?_; go_frame)
        | (refine Mix.go_assign (by first | exact Mix.wanted_none rfl | exact Mix.wanted_yes rfl rfl rfl) _ rfl _ (by first | (go_simp; done) | (go_simp; rfl)) ?_; go_frame)
        | (refine Mix.go_sureW (by first | exact Mix.wanted_none rfl | exact Mix.wanted_yes rfl rfl rfl) _ (by rfl) (by rfl) _ (fun w' hC' => by go_wp2_with fail; refine Mix.stays ?_; go_frame; rfl) ?_; go_frame)
        | (refine Mix.go_lookW (by first | exact Mix.wanted_none rfl | exact Mix.wanted_yes rfl rfl rfl) _ (by rfl) (by rfl) _ (by go_wp2_with fail; refine Mix.stays ?_; go_frame; rfl) ?_; go_frame))
      refine Mix.go_end ?_
      clear d0 d1
      go_wp2
      go_roundg (N - (i + 1))
      case measure => omega
      case rel => exact ⟨i + 1, A1, C1, by simp, rfl, by omega, by omega, HO1, HF1⟩
    · obtain rfl : i = N := by omega
      have HE : Hid (PairsIs wr (.slice Ab i Cb) l) := Lib.hid (by
        have h := pairs_own HO.out (by rw [List.length_take, HN.out, Nat.min_self])
        rw [List.take_of_length_le (by rw [HN.out]; exact Nat.le_refl _)] at h
        exact h)
      go_wp2
      go_ret
      exact ⟨_, _, rfl, HE.out, HF.out⟩
theorem eq_sm (a b c d : Int) (wx : World) : (Op.equalIn 10000 80 (.agg #[.int .i64 a, .int .i64 b]) (.agg #[.int .i64 c, .int .i64 d])).run Try.prog wx = .ok (a == c && b == d) wx := by
  have hu : Try.prog.underlying 80 = some (.struct (Try.prog.fieldsOf 80)) := by simp [Program.fieldsOf, Try.underlying80]
  rw [run_equalIn_struct wx 9999 80 _ _ hu (by kernel_rfl)]
  simp only [Program.fieldsOf, Try.underlying80]
  have p0 := fun x y => part_cell (P := Try.prog) 2 _ Try.underlying2 rfl #[.int .i64 x, .int .i64 y] 0 _ rfl wx
  have p1 := fun x y => part_cell (P := Try.prog) 2 _ Try.underlying2 rfl #[.int .i64 x, .int .i64 y] 1 _ rfl wx
  have q0 := fun x y => run_equalIn_int (P := Try.prog) wx 9998 2 .i64 .i64 x y Try.underlying2
  simp [Op.eqFields, p0, p1, q0]
  by_cases h1 : a = c <;> by_cases h2 : b = d <;> simp [h1, h2]
theorem eq_sm_yes (a b : Int) (wx : World) : (Op.equalIn 10000 80 (.agg #[.int .i64 a, .int .i64 b]) (.agg #[.int .i64 a, .int .i64 b])).run Try.prog wx = .ok true wx := by
  rw [eq_sm]; simp
set_option maxRecDepth 100000 in
set_option maxHeartbeats 4000000 in
/-- two alike -/
theorem same_any (A B : Option Addr) (C D : Nat) (l : List Sm) (hl : l.length ≤ 1000000) (w : World) (hA : PairsIs w (.slice A l.length C) l) (hB : PairsIs w (.slice B l.length D) l) :
    Calls Try.prog 18 #[.slice A l.length C, .slice B l.length D] w fun e w' => e = .returned (.bool true) ∧ Fr0 w w' := by
  have HA := Lib.hid hA
  have HB := Lib.hid hB
  clear hA hB
  generalize hN : l.length = N at *
  have HN := Lib.hid hN
  clear hN
  go_enter Try.func18, Try.ntmps18
  go_wp2_with fail
  go_loopg [5] N (fun kx vi wr => ∃ i : Nat, vi = .int .i64 (i : Int) ∧ i ≤ N ∧ N - i ≤ kx ∧ Hid (Fr0 w wr))
  case atStart => exact ⟨0, rfl, Nat.zero_le _, by omega, Lib.hid (Fr.refl _ _)⟩
  case round =>
    obtain ⟨i, rfl, hi, hk, HFR⟩ := hrel
    by_cases hlt : i < N
    · obtain ⟨pb, po, rfl, hpc⟩ := pairs_at HA.out i (by have := HN.out; omega)
      obtain ⟨qb, qo, rfl, hqc⟩ := pairs_at HB.out i (by have := HN.out; omega)
      obtain ⟨p0, p1⟩ := hpc wr HFR.out
      obtain ⟨q0, q1⟩ := hqc wr HFR.out
      have i1 : (i : Int) < (N : Int) := by omega
      have i2 : 0 ≤ (i : Int) := by omega
      clear hpc hqc
      generalize (l.getD i (0, 0)).1 = x at *
      generalize (l.getD i (0, 0)).2 = y at *
      have heq := eq_sm_yes x y
      go_wp2
      go_quiet (fail)
      clear p0 p1 q0 q1 heq
      go_wp2
      have HFR2 := Lib.hid (HFR.out.drewN nq)
      generalize wr.drewN nq = w9 at *
      go_roundg (N - (i + 1))
      case measure => omega
      case rel => exact ⟨i + 1, by simp, by omega, by omega, HFR2⟩
    · go_wp2
      go_ret
      exact ⟨rfl, HFR.out⟩
end Go.Proofs.Ytbbmjkligiglmaa.StoreL
