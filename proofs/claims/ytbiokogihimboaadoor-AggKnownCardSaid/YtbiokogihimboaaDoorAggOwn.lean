/-
  The laws' own, rows, vals; two alike.
-/
import Derived.Test.YtbiokogihimboaaDoorAggGo
import Derived.Test.YtbiokogihimboaaDoorAggRefO
import Derived.Test.YtbiokogihimboaaDoorMixS
import Derived.Laws.StructEq
import Derived.Test.YtbiokogihimboaaDoorArr
namespace Go.Proofs.YtbiokogihimboaaDoor.AggL
open Go.RowKit Base _root_.Go.Proofs.YtbiokogihimboaaDoor.Series _root_.Go.Proofs.YtbiokogihimboaaDoor.Agg

set_option maxRecDepth 100000 in
set_option maxHeartbeats 4000000 in
theorem rows_any (v : Value) (l : List Sm) (hl : l.length ≤ 1000000) (w : World) (hP : PairsIs w v l) :
    Calls Tryd.prog 18 #[v] w fun e w' => ∃ A C, e = .returned (.slice A l.length C) ∧ PairsIs w' (.slice A l.length C) l ∧ Fr0 w w' := by
  obtain ⟨A, C, rfl⟩ := pairs_form hP
  have HP := Lib.hid hP
  clear hP
  generalize hN : l.length = N at *
  have HN := Lib.hid hN
  clear hN
  go_enter Tryd.func18, Tryd.ntmps18
  go_wp2_with fail
  go_loopg [3, 4] N (fun kx vr vi wr => ∃ (i : Nat) (Ab : Option Addr) (Cb : Nat), vi = .int .i64 (i : Int) ∧ vr = .slice Ab i Cb ∧ i ≤ N ∧ N - i ≤ kx ∧ Hid (wr.ownsRow w.heap.size 63 2 (.slice Ab i Cb) i (pcells (l.take i))) ∧ Hid (Fr0 w wr))
  case atStart => exact ⟨0, none, 0, rfl, rfl, Nat.zero_le _, by omega, Lib.hid (World.ownsRow_nil _ _ _ _), Lib.hid (Fr.refl _ _)⟩
  case round =>
    obtain ⟨i, Ab, Cb, rfl, rfl, hi, hk, HO, HF⟩ := hrel
    by_cases hlt : i < N
    · obtain ⟨pb, po, rfl, hc⟩ := pairs_at HP.out i (by have := HN.out; omega)
      have HC := Lib.hid hc
      have i1 : (i : Int) < (N : Int) := by omega
      have i2 : 0 ≤ (i : Int) := by omega
      have hnx : pcells (l.take (i + 1)) = pcells (l.take i) ++ [.int .i64 (l.getD i (0, 0)).1, .int .i64 (l.getD i (0, 0)).2] := by
        have hx : i < l.length := by have := HN.out; omega
        rw [List.take_add_one, List.getD_eq_getElem?_getD, List.getElem?_eq_getElem hx]
        simp only [Option.toList_some, Option.getD_some]
        rw [pcells_append]
        rfl
      have HNX := Lib.hid hnx
      clear hnx hc
      generalize (l.getD i (0, 0)).1 = x at *
      generalize (l.getD i (0, 0)).2 = y at *
      go_wp2_with fail
      refine Mix.law (fun X => True) [(.sure, 0), (.sure, 1), (.sure, 2), (.sure, 3), (.sure, 4), (.look, 5), (.sure, 6), (.sure, 7), (.sure, 8), (.sure, 9), (.look, 10), (.sure, 11), (.turn, 12), (.turn, 13), (.sure, 14)] (by kernel_rfl) (by kernel_rfl) trivial ?_
      simp only [List.map_cons, List.map_nil, Mix.nth_zero, Mix.nth_succ]
      have HD := Lib.hid (HF.out.trans' ((Fr.refl (fun _ => False) wr).drew))
      have HO := Lib.hid (ownsFr ((Fr.refl (fun _ => False) wr).drew) HO.out (fun _ _ f => f))
      generalize wr.drew = wd at *
      obtain ⟨d0, d1⟩ := HC.out wd HD.out
      repeat (first
        | ((with_reducible refine Mix.go_skipS ?_ ?_); (focus (first | exact Mix.wanted_no rfl rfl rfl rfl | exact Mix.wanted_void rfl rfl rfl)); go_frame)
        | ((with_reducible refine Mix.go_skipL ?_ ?_); (focus (first | exact Mix.wanted_no rfl rfl rfl rfl | exact Mix.wanted_void rfl rfl rfl)); go_frame)
        | (refine Mix.go_move (by first | exact Mix.wanted_none rfl | exact Mix.wanted_yes rfl rfl rfl) _ rfl _ (by first | (go_simp; done) | (go_simp; rfl)) ?_; go_frame)
        | (refine Mix.go_assign (by first | exact Mix.wanted_none rfl | exact Mix.wanted_yes rfl rfl rfl) _ rfl _ (by first | (go_simp; done) | (go_simp; rfl)) ?_; go_frame)
        | (refine Mix.go_sureW (by first | exact Mix.wanted_none rfl | exact Mix.wanted_yes rfl rfl rfl) _ (by rfl) (by rfl) _ (fun w' hC' => by go_wp2_with fail; refine Mix.stays ?_; go_frame; rfl) ?_; go_frame)
        | (refine Mix.go_lookW (by first | exact Mix.wanted_none rfl | exact Mix.wanted_yes rfl rfl rfl) _ (by rfl) (by rfl) _ (by go_wp2_with fail; refine Mix.stays ?_; go_frame; rfl) ?_; go_frame))
      refine Mix.go_turn ?_
      go_wp2
      have HFL := Lib.hid ((Fr.refl (fun _ => False) wd).alloc (.cells #[.int .i64 x, .int .i64 y] 63))
      have HOL := Lib.hid (ownsFr HFL.out HO.out (fun _ _ f => f))
      have HPL := Lib.hid (pair_lit wd x y 63)
      have HWS := Lib.hid (Nat.le_trans HD.out.size HFL.out.size)
      refine Mix.then_go trivial ?_
      refine Mix.go_turn ?_
      go_wp2_with ((refine wpList_append_valsM rfl (.tmp 11) (.tmp 23) 38 rfl (w.heap.size) 63 Tryd.underlying38 (.agg #[.int .i64 0, .int .i64 0]) 2 16 infoR rfl (by decide) _ _ i 1 (pcells (l.take i)) [.int .i64 x, .int .i64 y] rfl rfl HOL.out HPL.out (by rfl) (by intro u hu; simp at hu; rcases hu with rfl | rfl <;> rfl) (by unfold maxLen; omega) (by omega) (by exact HWS.out) ?_))
      intro v1 w2 hO1 hG1 _
      obtain ⟨A1, C1, hv1, _⟩ := owns_form hO1
      subst hv1
      have HO1 : Hid (w2.ownsRow w.heap.size 63 2 (.slice A1 (i + 1) C1) (i + 1) (pcells (l.take (i + 1)))) := Lib.hid (by rw [HNX.out]; exact hO1)
      have HF1 : Hid (Fr0 w w2) := Lib.hid ((HD.out.trans' HFL.out).trans (Fr.of_grown (S := fun j => (Value.slice Ab i Cb).ownBlock = some j) hG1 (fun k hk e => e)) (fun j hj e => by have := (HOL.out.lt j e).1; omega))
      clear hO1 hG1
      refine Mix.then_go trivial ?_
      repeat (first
        | ((with_reducible refine Mix.go_skipS ?_ ?_); (focus (first | exact Mix.wanted_no rfl rfl rfl rfl | exact Mix.wanted_void rfl rfl rfl)); go_frame)
        | ((with_reducible refine Mix.go_skipL ?_ ?_); (focus (first | exact Mix.wanted_no rfl rfl rfl rfl | exact Mix.wanted_void rfl rfl rfl)); go_frame)
        | (refine Mix.go_move (by first | exact Mix.wanted_none rfl | exact Mix.wanted_yes rfl rfl rfl) _ rfl _ (by first | (go_simp; done) | (go_simp; rfl)) ?_; go_frame)
        | (refine Mix.go_assign (by first | exact Mix.wanted_none rfl | exact Mix.wanted_yes rfl rfl rfl) _ rfl _ (by first | (go_simp; done) | (go_simp; rfl)) ?_; go_frame)
        | (refine Mix.go_sureW (by first | exact Mix.wanted_none rfl | exact Mix.wanted_yes rfl rfl rfl) _ (by rfl) (by rfl) _ (fun w' hC' => by go_wp2_with fail; refine Mix.stays ?_; go_frame; rfl) ?_; go_frame)
        | (refine Mix.go_lookW (by first | exact Mix.wanted_none rfl | exact Mix.wanted_yes rfl rfl rfl) _ (by rfl) (by rfl) _ (by go_wp2_with fail; refine Mix.stays ?_; go_frame; rfl) ?_; go_frame))
      refine Mix.go_end ?_
      clear d0 d1
      go_wp2
      go_roundg (N - (i + 1))
      case measure => omega
      case rel => exact ⟨i + 1, A1, C1, by simp, rfl, by omega, by omega, HO1, HF1⟩
    · obtain rfl : i = N := by omega
      have HE : Hid (PairsIs wr (.slice Ab i Cb) l) := Lib.hid (by
        have h := pairs_own HO.out (by rw [List.length_take, HN.out, Nat.min_self])
        rw [List.take_of_length_le (by rw [HN.out]; exact Nat.le_refl _)] at h
        exact h)
      go_wp2
      go_ret
      exact ⟨_, _, rfl, HE.out, HF.out⟩
set_option maxHeartbeats 1000000 in
theorem eq_ref (p : Ag) (wx : World) : (Op.equalIn 10000 35 (.agg #[.int .i64 p.c, .int .i64 p.s, .int .i64 p.n, .int .i64 p.x, .int .i64 p.l, .bool p.o]) (.agg #[.int .i64 p.c, .int .i64 p.s, .int .i64 p.n, .int .i64 p.x, .int .i64 p.l, .bool p.o])).run Tryd.prog wx = .ok true wx := by
  have hu : Tryd.prog.underlying 35 = some (.struct (Tryd.prog.fieldsOf 35)) := by simp [Program.fieldsOf, Tryd.underlying35]
  rw [run_equalIn_struct wx 9999 35 _ _ hu (by kernel_rfl)]
  simp only [Program.fieldsOf, Tryd.underlying35]
  have p0 := part_cell (P := Tryd.prog) 3 _ Tryd.underlying3 rfl #[.int .i64 p.c, .int .i64 p.s, .int .i64 p.n, .int .i64 p.x, .int .i64 p.l, .bool p.o] 0 _ rfl wx
  have p1 := part_cell (P := Tryd.prog) 2 _ Tryd.underlying2 rfl #[.int .i64 p.c, .int .i64 p.s, .int .i64 p.n, .int .i64 p.x, .int .i64 p.l, .bool p.o] 1 _ rfl wx
  have p2 := part_cell (P := Tryd.prog) 2 _ Tryd.underlying2 rfl #[.int .i64 p.c, .int .i64 p.s, .int .i64 p.n, .int .i64 p.x, .int .i64 p.l, .bool p.o] 2 _ rfl wx
  have p3 := part_cell (P := Tryd.prog) 2 _ Tryd.underlying2 rfl #[.int .i64 p.c, .int .i64 p.s, .int .i64 p.n, .int .i64 p.x, .int .i64 p.l, .bool p.o] 3 _ rfl wx
  have p4 := part_cell (P := Tryd.prog) 2 _ Tryd.underlying2 rfl #[.int .i64 p.c, .int .i64 p.s, .int .i64 p.n, .int .i64 p.x, .int .i64 p.l, .bool p.o] 4 _ rfl wx
  have p5 := part_cell (P := Tryd.prog) 4 _ Tryd.underlying4 rfl #[.int .i64 p.c, .int .i64 p.s, .int .i64 p.n, .int .i64 p.x, .int .i64 p.l, .bool p.o] 5 _ rfl wx
  have q0 := fun x => run_equalIn_int (P := Tryd.prog) wx 9998 3 .i64 .i64 x x Tryd.underlying3
  have q1 := fun x => run_equalIn_int (P := Tryd.prog) wx 9998 2 .i64 .i64 x x Tryd.underlying2
  have q5 := fun x => run_equalIn_bool (P := Tryd.prog) wx 9998 4 x x Tryd.underlying4
  simp [Op.eqFields, p0, p1, p2, p3, p4, p5, q0, q1, q5]
set_option maxHeartbeats 1000000 in
theorem eq_go (p : Ag) (wx : World) : (Op.equalIn 10000 24 (.agg #[.int .i64 p.c, .int .i64 p.s, .int .i64 p.n, .int .i64 p.x, .int .i64 p.l, .bool p.o]) (.agg #[.int .i64 p.c, .int .i64 p.s, .int .i64 p.n, .int .i64 p.x, .int .i64 p.l, .bool p.o])).run Tryd.prog wx = .ok true wx := by
  have hu : Tryd.prog.underlying 24 = some (.struct (Tryd.prog.fieldsOf 24)) := by simp [Program.fieldsOf, Tryd.underlying24]
  rw [run_equalIn_struct wx 9999 24 _ _ hu (by kernel_rfl)]
  simp only [Program.fieldsOf, Tryd.underlying24]
  have p0 := part_cell (P := Tryd.prog) 3 _ Tryd.underlying3 rfl #[.int .i64 p.c, .int .i64 p.s, .int .i64 p.n, .int .i64 p.x, .int .i64 p.l, .bool p.o] 0 _ rfl wx
  have p1 := part_cell (P := Tryd.prog) 2 _ Tryd.underlying2 rfl #[.int .i64 p.c, .int .i64 p.s, .int .i64 p.n, .int .i64 p.x, .int .i64 p.l, .bool p.o] 1 _ rfl wx
  have p2 := part_cell (P := Tryd.prog) 2 _ Tryd.underlying2 rfl #[.int .i64 p.c, .int .i64 p.s, .int .i64 p.n, .int .i64 p.x, .int .i64 p.l, .bool p.o] 2 _ rfl wx
  have p3 := part_cell (P := Tryd.prog) 2 _ Tryd.underlying2 rfl #[.int .i64 p.c, .int .i64 p.s, .int .i64 p.n, .int .i64 p.x, .int .i64 p.l, .bool p.o] 3 _ rfl wx
  have p4 := part_cell (P := Tryd.prog) 2 _ Tryd.underlying2 rfl #[.int .i64 p.c, .int .i64 p.s, .int .i64 p.n, .int .i64 p.x, .int .i64 p.l, .bool p.o] 4 _ rfl wx
  have p5 := part_cell (P := Tryd.prog) 4 _ Tryd.underlying4 rfl #[.int .i64 p.c, .int .i64 p.s, .int .i64 p.n, .int .i64 p.x, .int .i64 p.l, .bool p.o] 5 _ rfl wx
  have q0 := fun x => run_equalIn_int (P := Tryd.prog) wx 9998 3 .i64 .i64 x x Tryd.underlying3
  have q1 := fun x => run_equalIn_int (P := Tryd.prog) wx 9998 2 .i64 .i64 x x Tryd.underlying2
  have q5 := fun x => run_equalIn_bool (P := Tryd.prog) wx 9998 4 x x Tryd.underlying4
  simp [Op.eqFields, p0, p1, p2, p3, p4, p5, q0, q1, q5]
set_option maxHeartbeats 2000000 in
theorem own_any (q : Ag) (w : World) :
    Calls Tryd.prog 16 #[.agg (a6 q)] w fun e w' => e = .returned (.agg (a6 q)) ∧ Fr0 w w' := by
  have hb : Bx 35 ((w.alloc (.cells #[.int .i64 q.c, .int .i64 q.s, .int .i64 q.n, .int .i64 q.x, .int .i64 q.l, .bool q.o] 24)).alloc (.cells #[.int .i64 q.c, .int .i64 q.s, .int .i64 q.n, .int .i64 q.x, .int .i64 q.l, .bool q.o] 35)) (w.heap.size + 1) q := by
    have h := Bx.new 35 (w.alloc (.cells #[.int .i64 q.c, .int .i64 q.s, .int .i64 q.n, .int .i64 q.x, .int .i64 q.l, .bool q.o] 24)) q
    rw [World.size_alloc] at h
    exact h
  have HB := Lib.hid hb
  clear hb
  rw [show a6 q = #[.int .i64 q.c, .int .i64 q.s, .int .i64 q.n, .int .i64 q.x, .int .i64 q.l, .bool q.o] from rfl]
  go_enter Tryd.func16, Tryd.ntmps16
  go_wp2
  exact bodyPost_ret (res1 rfl Tryd.underlying35 rfl infoA _ rfl HB.out) rfl ⟨rfl, ((Fr.refl _ _).alloc _).alloc _⟩
/-- samples of some numbers -/
def valsOf (xs : List Int) : List Sm := (List.range xs.length).map fun (i : Nat) => ((i : Int), xs.getD i 0)
theorem vals_length (xs : List Int) : (valsOf xs).length = xs.length := by simp [valsOf]
theorem vals_next (xs : List Int) (i : Nat) (hi : i < xs.length) : (valsOf xs).take (i + 1) = (valsOf xs).take i ++ [((i : Int), xs.getD i 0)] := by
  rw [List.take_add_one, List.getElem?_eq_getElem (by rw [vals_length]; exact hi)]
  simp [valsOf]
theorem vs_vals (xs : List Int) : vsOf (valsOf xs) = xs := by
  unfold vsOf valsOf
  rw [List.map_map]
  refine List.ext_getElem (by simp) (fun i h1 h2 => ?_)
  simp [h2]
theorem agOf_vals (xs : List Int) : agOf (valsOf xs) = ofV xs := by
  unfold agOf
  rw [vs_vals]
theorem vals_sized {xs : List Int} (h : ∀ x ∈ xs, Fit x) (hl : xs.length ≤ 1000000) : SizedS (valsOf xs) := fun q hq => by
  unfold valsOf at hq
  obtain ⟨i, hi, rfl⟩ := List.mem_map.1 hq
  have hi := List.mem_range.1 hi
  refine ⟨⟨by show -9223372036854775808 ≤ (i : Int); omega, by show (i : Int) ≤ 9223372036854775807; omega⟩, ?_⟩
  show Fit (xs.getD i 0)
  rw [List.getD_eq_getElem?_getD, List.getElem?_eq_getElem hi]
  exact h _ (List.getElem_mem hi)
set_option maxRecDepth 100000 in
set_option maxHeartbeats 4000000 in
theorem vals_any (v : Value) (xs : List Int) (hl : xs.length ≤ 1000000) (w : World) (hP : IntsIs w v xs) :
    Calls Tryd.prog 11 #[v] w fun e w' => ∃ A C, e = .returned (.slice A xs.length C) ∧ PairsIs w' (.slice A xs.length C) (valsOf xs) ∧ Fr0 w w' := by
  obtain ⟨A, C, rfl⟩ : ∃ A C, v = .slice A xs.length C := by obtain ⟨a, c, _, _, hv, _⟩ := hP; exact ⟨a, c, hv⟩
  have HP := Lib.hid hP
  have HNX : Hid (∀ i, i < xs.length → pcells ((valsOf xs).take (i + 1)) = pcells ((valsOf xs).take i) ++ [.int .i64 (i : Int), .int .i64 (xs.getD i 0)]) := Lib.hid (fun i hi => by
    rw [vals_next xs i hi, pcells_append]
    rfl)
  have HVL := Lib.hid (vals_length xs)
  clear hP
  generalize valsOf xs = l at *
  generalize hN : xs.length = N at *
  have HN := Lib.hid hN
  clear hN
  go_enter Tryd.func11, Tryd.ntmps11
  go_wp2_with fail
  go_loopg [3, 4] N (fun kx vr vi wr => ∃ (i : Nat) (Ab : Option Addr) (Cb : Nat), vi = .int .i64 (i : Int) ∧ vr = .slice Ab i Cb ∧ i ≤ N ∧ N - i ≤ kx ∧ Hid (wr.ownsRow w.heap.size 44 2 (.slice Ab i Cb) i (pcells (l.take i))) ∧ Hid (Fr0 w wr))
  case atStart => exact ⟨0, none, 0, rfl, rfl, Nat.zero_le _, by omega, Lib.hid (World.ownsRow_nil _ _ _ _), Lib.hid (Fr.refl _ _)⟩
  case round =>
    obtain ⟨i, Ab, Cb, rfl, rfl, hi, hk, HO, HF⟩ := hrel
    by_cases hlt : i < N
    · obtain ⟨pb, po, rfl, hc⟩ := ints_at' HP.out i (by have := HN.out; omega)
      have d0 := hc wr HF.out
      have i1 : (i : Int) < (N : Int) := by omega
      have i2 : 0 ≤ (i : Int) := by omega
      have HNI := Lib.hid (HNX.out i hlt)
      clear hc
      generalize xs.getD i 0 = x at *
      have HFL := Lib.hid ((Fr.refl (fun _ => False) wr).alloc (.cells #[.int .i64 (i : Int), .int .i64 x] 44))
      have HOL := Lib.hid (ownsFr HFL.out HO.out (fun _ _ f => f))
      have HPL := Lib.hid (pair_lit wr (i : Int) x 44)
      have HWS := Lib.hid (Nat.le_trans HF.out.size HFL.out.size)
      have HFW := Lib.hid (HF.out.trans' HFL.out)
      go_wp2_with (refine wpList_append_valsM rfl (.tmp 11) (.tmp 18) 26 rfl (w.heap.size) 44 Tryd.underlying26 (.agg #[.int .i64 0, .int .i64 0]) 2 16 infoS rfl (by decide) _ _ i 1 (pcells (l.take i)) [.int .i64 (i : Int), .int .i64 x] rfl rfl HOL.out HPL.out (by rfl) (by intro u hu; simp at hu; rcases hu with rfl | rfl <;> rfl) (by unfold maxLen; omega) (by omega) (by exact HWS.out) ?_)
      intro v1 w2 hO1 hG1 _
      obtain ⟨A1, C1, hv1, _⟩ := owns_form hO1
      subst hv1
      have HO1 : Hid (w2.ownsRow w.heap.size 44 2 (.slice A1 (i + 1) C1) (i + 1) (pcells (l.take (i + 1)))) := Lib.hid (by rw [HNI.out]; exact hO1)
      have HF1 : Hid (Fr0 w w2) := Lib.hid (HFW.out.trans (Fr.of_grown (S := fun j => (Value.slice Ab i Cb).ownBlock = some j) hG1 (fun k hk e => e)) (fun j hj e => by have := (HOL.out.lt j e).1; omega))
      clear hO1 hG1 d0
      go_wp2
      go_roundg (N - (i + 1))
      case measure => omega
      case rel => exact ⟨i + 1, A1, C1, by simp, rfl, by omega, by omega, HO1, HF1⟩
    · obtain rfl : i = N := by omega
      have HE : Hid (PairsIs wr (.slice Ab i Cb) l) := Lib.hid (by
        have h := pairs_own HO.out (by rw [List.length_take, HVL.out, Nat.min_self])
        rw [List.take_of_length_le (by rw [HVL.out]; exact Nat.le_refl _)] at h
        exact h)
      go_wp2
      go_ret
      exact ⟨_, _, rfl, HE.out, HF.out⟩
end Go.Proofs.YtbiokogihimboaaDoor.AggL
