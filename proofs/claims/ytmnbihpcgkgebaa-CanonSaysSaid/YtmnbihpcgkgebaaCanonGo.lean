/-
  The program's Of, Key, Same.
-/
import Derived.Test.YtmnbihpcgkgebaaCanonSpec
import Derived.Test.YtmnbihpcgkgebaaAskPut
import Derived.Test.YtmnbihpcgkgebaaAskRefGet
import Derived.Test.YtmnbihpcgkgebaaStrClone
import Derived.Test.YtmnbihpcgkgebaaMixS
import Derived.BigQuiet
namespace Go.Proofs.Ytmnbihpcgkgebaa.Canon
open Go.RowKit Base Pack _root_.Go.Proofs.Ytmnbihpcgkgebaa.Ask

theorem infoQ : (Try.prog.info? 27).map (·.size) = some 6 := by kernel_rfl
theorem results_q {fn : Func} {p u : Tmp} (h : fn.results = #[.cell p 27, .tmp u]) (tmps : Array Value) (w : World) (g : Nat) (cs : Array Value) (hp : tmps.getD p undef = .pointer (some ⟨g, 0, none⟩)) (v : Value) (hu' : tmps.getD u undef = v) (hg : w.heap[g]? = some (.cells cs 27 (0, 0))) (hi : (Try.prog.info? 27).map (·.size) = some cs.size) :
    (results fn tmps).run Try.prog w = .ok (.tuple #[.agg cs, v]) w := by
  have hp' : tmps[p]?.getD undef = .pointer (some ⟨g, 0, none⟩) := by simpa using hp
  have hq' : tmps[u]?.getD undef = v := by simpa using hu'
  simp [results, h, hp', hq', asAddr, run_loadVar_row w g 27 27 cs (0, 0) _ hg Try.underlying27 rfl hi]
/-- where a request lies once it is boxed -/
structure BoxQ (W : World) (g : Nat) (sv : Value) (a : Rq) : Prop where
  heap : W.heap[g]? = some (.cells #[.int .i64 a.k, .string ⟨a.n.toArray⟩, sv, .int .i64 a.f, .int .i64 a.t, .int .i64 a.wn] 27 (0, 0))
  row : W.rowIs g 27 6 (ask6 a.k ⟨a.n.toArray⟩ sv a.f a.t a.wn)
theorem BoxQ.fr {S : Nat → Prop} {W W' : World} {g : Nat} {sv : Value} {a : Rq} (h : BoxQ W g sv a) (hf : Fr S W W') (hs : ¬ S g) : BoxQ W' g sv a := ⟨hf.heap h.heap hs, hf.row h.row hs⟩
theorem BoxQ.fr0 {W W' : World} {g : Nat} {sv : Value} {a : Rq} (h : BoxQ W g sv a) (hf : Fr0 W W') : BoxQ W' g sv a := h.fr hf (fun f => f)
theorem BoxQ.of_row {W : World} {g : Nat} {sv : Value} {a : Rq} (h : W.rowIs g 27 6 (ask6 a.k ⟨a.n.toArray⟩ sv a.f a.t a.wn)) : BoxQ W g sv a := ⟨row_cells h, h⟩
theorem BoxQ.of_heap {W : World} {g : Nat} {sv : Value} {a : Rq} (h : W.heap[g]? = some (.cells #[.int .i64 a.k, .string ⟨a.n.toArray⟩, sv, .int .i64 a.f, .int .i64 a.t, .int .i64 a.wn] 27 (0, 0))) : BoxQ W g sv a :=
  ⟨h, rowIs_of_cells h rfl (fun i hi => by
    match i, hi with
    | 0, _ => rfl
    | 1, _ => rfl
    | 2, _ => rfl
    | 3, _ => rfl
    | 4, _ => rfl
    | 5, _ => rfl)⟩
theorem BoxQ.new (w : World) (sv : Value) (a : Rq) : BoxQ (w.alloc (.cells #[.int .i64 a.k, .string ⟨a.n.toArray⟩, sv, .int .i64 a.f, .int .i64 a.t, .int .i64 a.wn] 27)) w.heap.size sv a := .of_heap (heap_alloc_new w _)
theorem BoxQ.cells {W : World} {g : Nat} {sv : Value} {a : Rq} (h : BoxQ W g sv a) : W.cell? ⟨g, 0, none⟩ = some (.int .i64 a.k) ∧ W.cell? ⟨g, 1, none⟩ = some (.string ⟨a.n.toArray⟩) ∧ W.cell? ⟨g, 2, none⟩ = some sv ∧ W.cell? ⟨g, 3, none⟩ = some (.int .i64 a.f) ∧ W.cell? ⟨g, 4, none⟩ = some (.int .i64 a.t) ∧ W.cell? ⟨g, 5, none⟩ = some (.int .i64 a.wn) :=
  ⟨h.row.cell (i := 0) (by decide), h.row.cell (i := 1) (by decide), h.row.cell (i := 2) (by decide), h.row.cell (i := 3) (by decide), h.row.cell (i := 4) (by decide), h.row.cell (i := 5) (by decide)⟩
theorem isQ_no {a : Rq} (h : ¬ (good a = true ∧ a.k = 2)) : isQ a = false := by
  rw [Bool.eq_false_iff]
  exact fun e => h (isQ_iff.1 e)
theorem ofOut_s (a : Rq) : (ofOut a).s = [] := by
  unfold ofOut
  by_cases h : isQ a = true
  · rw [if_pos h, (one_same a).2.2.1]
    obtain ⟨h1, h2⟩ := isQ_iff.1 h
    rcases good_kind h1 with h3 | h3
    · omega
    · exact h3.2.1
  · rw [if_neg h]
    rfl
set_option maxRecDepth 100000 in
set_option maxHeartbeats 4000000 in
theorem of_any (A : Option Addr) (C : Nat) (a : Rq) (hn : a.n.length ≤ 9223372036854775807) (w : World) :
    Calls Try.prog 7 #[.agg (rv (.slice A a.s.length C) a)] w fun e w' => e = .returned (.tuple #[.agg (rv (.slice none 0 0) (ofOut a)), .int .i64 (ofErr a)]) ∧ Fr0 w w' := by
  obtain ⟨o, ho⟩ : ∃ o, o = ofOut a := ⟨_, rfl⟩
  obtain ⟨er, her⟩ : ∃ er, er = ofErr a := ⟨_, rfl⟩
  rw [← ho, ← her]
  have HN0 : Hid (isQ a = false → o = zero ∧ er = 1) := Lib.hid (fun h => by rw [ho, her]; exact ⟨(ofOut_no h).1, (ofOut_no h).2.1⟩)
  have HY0 : Hid (isQ a = true → o = one a ∧ er = 0) := Lib.hid (fun h => by rw [ho, her]; exact ⟨(ofOut_isQ h).1, (ofOut_isQ h).2.1⟩)
  clear ho her
  obtain ⟨W1, hW1⟩ : ∃ W1, W1 = (w.alloc (.cells #[.int .i64 a.k, .string ⟨a.n.toArray⟩, .slice A a.s.length C, .int .i64 a.f, .int .i64 a.t, .int .i64 a.wn] 27)).alloc (.cells #[.int .i64 0, .string ⟨#[]⟩, .slice none 0 0, .int .i64 0, .int .i64 0, .int .i64 0] 27) := ⟨_, rfl⟩
  have hb1 : BoxQ W1 w.heap.size (.slice A a.s.length C) a := by
    rw [hW1]
    exact (BoxQ.new w (.slice A a.s.length C) a).fr0 ((Fr.refl _ _).alloc _)
  have hr1 : W1.heap[w.heap.size + 1]? = some (.cells #[.int .i64 0, .string ⟨#[]⟩, .slice none 0 0, .int .i64 0, .int .i64 0, .int .i64 0] 27 (0, 0)) := by
    have h := heap_alloc_new (w.alloc (.cells #[.int .i64 a.k, .string ⟨a.n.toArray⟩, .slice A a.s.length C, .int .i64 a.f, .int .i64 a.t, .int .i64 a.wn] 27)) (.cells #[.int .i64 0, .string ⟨#[]⟩, .slice none 0 0, .int .i64 0, .int .i64 0, .int .i64 0] 27)
    rw [show (w.alloc (.cells #[.int .i64 a.k, .string ⟨a.n.toArray⟩, .slice A a.s.length C, .int .i64 a.f, .int .i64 a.t, .int .i64 a.wn] 27)).heap.size = w.heap.size + 1 by simp] at h
    rw [hW1]
    exact h
  have HF1 : Hid (Fr0 w W1) := Lib.hid (by rw [hW1]; exact ((Fr.refl _ _).alloc _).alloc _)
  have HB1 := Lib.hid hb1
  have HR1 := Lib.hid hr1
  have HW1 := Lib.hid hW1
  clear hW1 hb1 hr1
  have c0 := HB1.out.cells.1
  have hh1 := HB1.out.heap
  have hr1 := HR1.out
  rw [HW1.out] at c0 hh1 hr1
  have HH1 := Lib.hid hh1
  have HQ1 := Lib.hid hr1
  clear hh1 hr1
  unfold rv
  by_cases hk : a.k = 2
  · have zk : (a.k == 2) = true := beq_iff_eq.2 hk
    have yk : (a.k != 2) = false := by rw [hk]; rfl
    have hgd := pgood_any A C a hn W1
    have HK := Lib.hid hk
    clear hk
    go_enter Try.func7, Try.ntmps7
    go_wp2_with (refine wpList_load_row rfl 27 _ rfl w.heap.size rfl 27 _ (0, 0) _ HH1.out Try.underlying27 rfl (by kernel_rfl) ?_)
    rw [← HW1.out]
    refine hgd.mono ?_
    clear hgd c0 zk yk HH1 HQ1
    rintro e W2 ⟨rfl, hF2⟩
    have HF2 := Lib.hid (HF1.out.trans' hF2)
    have HB2 := Lib.hid (HB1.out.fr0 hF2)
    have HR2 := Lib.hid (hF2.heap HR1.out (fun f => f))
    clear hF2 HW1
    cases hg : good a with
    | false =>
      have HNO := Lib.hid (HN0.out (isQ_no (fun h => by rw [hg] at h; cases h.1)))
      clear hg HY0 HN0
      go_wp2_with (refine wpList_store_row rfl 27 _ _ rfl (w.heap.size + 1) #[.int .i64 0, .string ⟨#[]⟩, .slice none 0 0, .int .i64 0, .int .i64 0, .int .i64 0] rfl rfl 27 _ HR2.out infoQ rfl (ask_one _ _ _ _ _ _ rfl) ?_)
      have hz2 := setRow_heap W2 (w.heap.size + 1) _ #[.int .i64 0, .string ⟨#[]⟩, .slice none 0 0, .int .i64 0, .int .i64 0, .int .i64 0] _ _ HR2.out
      have hfe : Fr0 w (W2.setRow (w.heap.size + 1) #[.int .i64 0, .string ⟨#[]⟩, .slice none 0 0, .int .i64 0, .int .i64 0, .int .i64 0]) := Fr.setRow HF2.out (fun h => absurd h (by omega)) _
      (try simp only [Exit.inBlock, Exit.then])
      exact bodyPost_ret (results_q rfl _ _ (w.heap.size + 1) _ rfl _ rfl hz2 infoQ) rfl ⟨by rw [HNO.out.1, HNO.out.2]; rfl, hfe⟩
    | true =>
      have hq : isQ a = true := isQ_iff.2 ⟨hg, HK.out⟩
      have HYES := Lib.hid (HY0.out hq)
      have hnl := good_name hg
      have HS : Hid (a.s = []) := Lib.hid (by
        rcases good_kind hg with h3 | h3
        · have := HK.out; omega
        · exact h3.2.1)
      have hcl := fun W => str_clone ⟨a.n.toArray⟩ W (by rw [size_str]; omega)
      have HCL := Lib.hid hcl
      obtain ⟨_, _, _, c3, c4, _⟩ := HB2.out.cells
      clear hg hq hcl HN0 HY0
      go_wp2
      go_quiet (fail)
      have HF3 := Lib.hid (HF2.out.drewN nq)
      have HB3 := Lib.hid (HB2.out.fr0 ((Fr.refl _ W2).drewN nq))
      have HR3 := Lib.hid (((Fr.refl (fun _ => False) W2).drewN nq).heap HR2.out (fun f => f))
      generalize W2.drewN nq = w3 at *
      clear c3 c4
      by_cases hft : a.t < a.f
      · have hgt : (a.f > a.t) := hft
        have HO : Hid (o = ⟨2, a.n, [], 1, 0, a.wn⟩ ∧ er = 0) := Lib.hid ⟨by rw [HYES.out.1]; unfold one; rw [if_pos hft, HK.out, HS.out], HYES.out.2⟩
        clear hft
        go_wp2
        refine Mix.law (fun X => X.cell? ⟨w.heap.size, 1, none⟩ = some (.string ⟨a.n.toArray⟩) ∧ X.cell? ⟨w.heap.size, 5, none⟩ = some (.int .i64 a.wn)) [(.sure, 0), (.sure, 1), (.sure, 3), (.sure, 4), (.sure, 5), (.sure, 6), (.turn, 2), (.sure, 7), (.turn, 8), (.sure, 9)] (by kernel_rfl) (by kernel_rfl) ⟨HB3.out.cells.2.1, HB3.out.cells.2.2.2.2.2⟩ ?_
        simp only [List.map_cons, List.map_nil, Mix.nth_zero, Mix.nth_succ]
        have HF4 := Lib.hid (HF3.out.drew)
        have HB4 := Lib.hid (HB3.out.fr0 (Fr.refl _ _).drew)
        have HR4 := Lib.hid ((Fr.refl (fun _ => False) w3).drew.heap HR3.out (fun f => f))
        generalize w3.drew = w4 at *
        repeat (first
          | (refine Mix.go_skipS (by exact Mix.wanted_no rfl rfl rfl rfl) ?_; go_frame)
          | (refine Mix.go_skipL (by exact Mix.wanted_no rfl rfl rfl rfl) ?_; go_frame)
          | (refine Mix.go_move (by first | exact Mix.wanted_none rfl | exact Mix.wanted_yes rfl rfl rfl) _ rfl _ (by first | (go_simp; done) | (go_simp; rfl)) ?_; go_frame)
          | (refine Mix.go_assign (by first | exact Mix.wanted_none rfl | exact Mix.wanted_yes rfl rfl rfl) _ rfl _ (by first | (go_simp; done) | (go_simp; rfl)) ?_; go_frame)
          | (refine Mix.go_sureW (by first | exact Mix.wanted_none rfl | exact Mix.wanted_yes rfl rfl rfl) _ (by rfl) (by rfl) _ (fun w' ⟨hC1, hC2⟩ => by go_wp2_with fail; refine Mix.stays ?_; go_frame; rfl) ?_; go_frame)
          | (refine Mix.go_lookW (by first | exact Mix.wanted_none rfl | exact Mix.wanted_yes rfl rfl rfl) _ (by rfl) (by rfl) _ (by go_wp2_with fail; refine Mix.stays ?_; go_frame; rfl) ?_; go_frame))
        refine Mix.go_turn ?_
        go_wp2_with fail
        refine (HCL.out w4).mono ?_
        rintro e w5 ⟨rfl, hF5⟩
        have HF5 := Lib.hid (HF4.out.trans' hF5)
        have HB5 := Lib.hid (HB4.out.fr0 hF5)
        have HR5 := Lib.hid (hF5.heap HR4.out (fun f => f))
        clear hF5
        go_wp2
        refine Mix.then_go ⟨HB5.out.cells.2.1, HB5.out.cells.2.2.2.2.2⟩ ?_
        repeat (first
          | (refine Mix.go_skipS (by exact Mix.wanted_no rfl rfl rfl rfl) ?_; go_frame)
          | (refine Mix.go_skipL (by exact Mix.wanted_no rfl rfl rfl rfl) ?_; go_frame)
          | (refine Mix.go_move (by first | exact Mix.wanted_none rfl | exact Mix.wanted_yes rfl rfl rfl) _ rfl _ (by first | (go_simp; done) | (go_simp; rfl)) ?_; go_frame)
          | (refine Mix.go_assign (by first | exact Mix.wanted_none rfl | exact Mix.wanted_yes rfl rfl rfl) _ rfl _ (by first | (go_simp; done) | (go_simp; rfl)) ?_; go_frame)
          | (refine Mix.go_sureW (by first | exact Mix.wanted_none rfl | exact Mix.wanted_yes rfl rfl rfl) _ (by rfl) (by rfl) _ (fun w' ⟨hC1, hC2⟩ => by go_wp2_with fail; refine Mix.stays ?_; go_frame; rfl) ?_; go_frame)
          | (refine Mix.go_lookW (by first | exact Mix.wanted_none rfl | exact Mix.wanted_yes rfl rfl rfl) _ (by rfl) (by rfl) _ (by go_wp2_with fail; refine Mix.stays ?_; go_frame; rfl) ?_; go_frame))
        refine Mix.go_turn ?_
        go_wp2_with (refine wpList_store_row rfl 27 _ _ rfl (w.heap.size + 1) #[.int .i64 2, .string ⟨a.n.toArray⟩, .slice none 0 0, .int .i64 1, .int .i64 0, .int .i64 a.wn] rfl rfl 27 _ HR5.out infoQ rfl (ask_one _ _ _ _ _ _ rfl) ?_)
        have hz2 := setRow_heap w5 (w.heap.size + 1) _ #[.int .i64 2, .string ⟨a.n.toArray⟩, .slice none 0 0, .int .i64 1, .int .i64 0, .int .i64 a.wn] _ _ HR5.out
        have hfe : Fr0 w (w5.setRow (w.heap.size + 1) #[.int .i64 2, .string ⟨a.n.toArray⟩, .slice none 0 0, .int .i64 1, .int .i64 0, .int .i64 a.wn]) := Fr.setRow HF5.out (fun h => absurd h (by omega)) _
        have hb6 := HB5.out.fr (W' := w5.setRow (w.heap.size + 1) #[.int .i64 2, .string ⟨a.n.toArray⟩, .slice none 0 0, .int .i64 1, .int .i64 0, .int .i64 a.wn]) (Fr.setRow (S := fun j => j = w.heap.size + 1) (Fr.refl _ _) (fun _ => rfl) _) (fun e => by have e' : w.heap.size = w.heap.size + 1 := e; omega)
        have HB6 := Lib.hid hb6
        have HZ2 := Lib.hid hz2
        have HFE := Lib.hid hfe
        clear hz2 hfe hb6
        generalize w5.setRow (w.heap.size + 1) #[.int .i64 2, .string ⟨a.n.toArray⟩, .slice none 0 0, .int .i64 1, .int .i64 0, .int .i64 a.wn] = w6 at *
        refine Mix.then_go ⟨HB6.out.cells.2.1, HB6.out.cells.2.2.2.2.2⟩ ?_
        repeat (first
          | (refine Mix.go_skipS (by exact Mix.wanted_no rfl rfl rfl rfl) ?_; go_frame)
          | (refine Mix.go_skipL (by exact Mix.wanted_no rfl rfl rfl rfl) ?_; go_frame)
          | (refine Mix.go_move (by first | exact Mix.wanted_none rfl | exact Mix.wanted_yes rfl rfl rfl) _ rfl _ (by first | (go_simp; done) | (go_simp; rfl)) ?_; go_frame)
          | (refine Mix.go_assign (by first | exact Mix.wanted_none rfl | exact Mix.wanted_yes rfl rfl rfl) _ rfl _ (by first | (go_simp; done) | (go_simp; rfl)) ?_; go_frame)
          | (refine Mix.go_sureW (by first | exact Mix.wanted_none rfl | exact Mix.wanted_yes rfl rfl rfl) _ (by rfl) (by rfl) _ (fun w' hC' => by go_wp2_with fail; refine Mix.stays ?_; go_frame; rfl) ?_; go_frame)
          | (refine Mix.go_lookW (by first | exact Mix.wanted_none rfl | exact Mix.wanted_yes rfl rfl rfl) _ (by rfl) (by rfl) _ (by go_wp2_with fail; refine Mix.stays ?_; go_frame; rfl) ?_; go_frame))
        refine Mix.go_end ?_
        go_wp2_with fail
        (try simp only [Exit.inBlock, Exit.then])
        exact bodyPost_ret (results_q rfl _ _ (w.heap.size + 1) _ rfl _ rfl HZ2.out infoQ) rfl ⟨by rw [HO.out.1, HO.out.2]; rfl, HFE.out⟩
      · have hgt : ¬ (a.f > a.t) := hft
        have HO : Hid (o = ⟨2, a.n, [], a.f, a.t, a.wn⟩ ∧ er = 0) := Lib.hid ⟨by
          have hk := HK.out
          have hs := HS.out
          rw [HYES.out.1]
          unfold one
          rw [if_neg hft]
          cases a
          simp only at hk hs
          subst hk hs
          rfl, HYES.out.2⟩
        go_wp2
        refine Mix.law (fun X => X.cell? ⟨w.heap.size, 1, none⟩ = some (.string ⟨a.n.toArray⟩) ∧ X.cell? ⟨w.heap.size, 5, none⟩ = some (.int .i64 a.wn)) [(.sure, 0), (.sure, 1), (.sure, 3), (.sure, 4), (.sure, 5), (.sure, 6), (.turn, 2), (.sure, 7), (.turn, 8), (.sure, 9)] (by kernel_rfl) (by kernel_rfl) ⟨HB3.out.cells.2.1, HB3.out.cells.2.2.2.2.2⟩ ?_
        simp only [List.map_cons, List.map_nil, Mix.nth_zero, Mix.nth_succ]
        have HF4 := Lib.hid (HF3.out.drew)
        have HB4 := Lib.hid (HB3.out.fr0 (Fr.refl _ _).drew)
        have HR4 := Lib.hid ((Fr.refl (fun _ => False) w3).drew.heap HR3.out (fun f => f))
        generalize w3.drew = w4 at *
        repeat (first
          | (refine Mix.go_skipS (by exact Mix.wanted_no rfl rfl rfl rfl) ?_; go_frame)
          | (refine Mix.go_skipL (by exact Mix.wanted_no rfl rfl rfl rfl) ?_; go_frame)
          | (refine Mix.go_move (by first | exact Mix.wanted_none rfl | exact Mix.wanted_yes rfl rfl rfl) _ rfl _ (by first | (go_simp; done) | (go_simp; rfl)) ?_; go_frame)
          | (refine Mix.go_assign (by first | exact Mix.wanted_none rfl | exact Mix.wanted_yes rfl rfl rfl) _ rfl _ (by first | (go_simp; done) | (go_simp; rfl)) ?_; go_frame)
          | (refine Mix.go_sureW (by first | exact Mix.wanted_none rfl | exact Mix.wanted_yes rfl rfl rfl) _ (by rfl) (by rfl) _ (fun w' ⟨hC1, hC2⟩ => by go_wp2_with fail; refine Mix.stays ?_; go_frame; rfl) ?_; go_frame)
          | (refine Mix.go_lookW (by first | exact Mix.wanted_none rfl | exact Mix.wanted_yes rfl rfl rfl) _ (by rfl) (by rfl) _ (by go_wp2_with fail; refine Mix.stays ?_; go_frame; rfl) ?_; go_frame))
        refine Mix.go_turn ?_
        go_wp2_with fail
        refine (HCL.out w4).mono ?_
        rintro e w5 ⟨rfl, hF5⟩
        have HF5 := Lib.hid (HF4.out.trans' hF5)
        have HB5 := Lib.hid (HB4.out.fr0 hF5)
        have HR5 := Lib.hid (hF5.heap HR4.out (fun f => f))
        clear hF5
        go_wp2
        refine Mix.then_go ⟨HB5.out.cells.2.1, HB5.out.cells.2.2.2.2.2⟩ ?_
        repeat (first
          | (refine Mix.go_skipS (by exact Mix.wanted_no rfl rfl rfl rfl) ?_; go_frame)
          | (refine Mix.go_skipL (by exact Mix.wanted_no rfl rfl rfl rfl) ?_; go_frame)
          | (refine Mix.go_move (by first | exact Mix.wanted_none rfl | exact Mix.wanted_yes rfl rfl rfl) _ rfl _ (by first | (go_simp; done) | (go_simp; rfl)) ?_; go_frame)
          | (refine Mix.go_assign (by first | exact Mix.wanted_none rfl | exact Mix.wanted_yes rfl rfl rfl) _ rfl _ (by first | (go_simp; done) | (go_simp; rfl)) ?_; go_frame)
          | (refine Mix.go_sureW (by first | exact Mix.wanted_none rfl | exact Mix.wanted_yes rfl rfl rfl) _ (by rfl) (by rfl) _ (fun w' ⟨hC1, hC2⟩ => by go_wp2_with fail; refine Mix.stays ?_; go_frame; rfl) ?_; go_frame)
          | (refine Mix.go_lookW (by first | exact Mix.wanted_none rfl | exact Mix.wanted_yes rfl rfl rfl) _ (by rfl) (by rfl) _ (by go_wp2_with fail; refine Mix.stays ?_; go_frame; rfl) ?_; go_frame))
        refine Mix.go_turn ?_
        go_wp2_with (refine wpList_store_row rfl 27 _ _ rfl (w.heap.size + 1) #[.int .i64 2, .string ⟨a.n.toArray⟩, .slice none 0 0, .int .i64 a.f, .int .i64 a.t, .int .i64 a.wn] rfl rfl 27 _ HR5.out infoQ rfl (ask_one _ _ _ _ _ _ rfl) ?_)
        have hz2 := setRow_heap w5 (w.heap.size + 1) _ #[.int .i64 2, .string ⟨a.n.toArray⟩, .slice none 0 0, .int .i64 a.f, .int .i64 a.t, .int .i64 a.wn] _ _ HR5.out
        have hfe : Fr0 w (w5.setRow (w.heap.size + 1) #[.int .i64 2, .string ⟨a.n.toArray⟩, .slice none 0 0, .int .i64 a.f, .int .i64 a.t, .int .i64 a.wn]) := Fr.setRow HF5.out (fun h => absurd h (by omega)) _
        have hb6 := HB5.out.fr (W' := w5.setRow (w.heap.size + 1) #[.int .i64 2, .string ⟨a.n.toArray⟩, .slice none 0 0, .int .i64 a.f, .int .i64 a.t, .int .i64 a.wn]) (Fr.setRow (S := fun j => j = w.heap.size + 1) (Fr.refl _ _) (fun _ => rfl) _) (fun e => by have e' : w.heap.size = w.heap.size + 1 := e; omega)
        have HB6 := Lib.hid hb6
        have HZ2 := Lib.hid hz2
        have HFE := Lib.hid hfe
        clear hz2 hfe hb6
        generalize w5.setRow (w.heap.size + 1) #[.int .i64 2, .string ⟨a.n.toArray⟩, .slice none 0 0, .int .i64 a.f, .int .i64 a.t, .int .i64 a.wn] = w6 at *
        refine Mix.then_go ⟨HB6.out.cells.2.1, HB6.out.cells.2.2.2.2.2⟩ ?_
        repeat (first
          | (refine Mix.go_skipS (by exact Mix.wanted_no rfl rfl rfl rfl) ?_; go_frame)
          | (refine Mix.go_skipL (by exact Mix.wanted_no rfl rfl rfl rfl) ?_; go_frame)
          | (refine Mix.go_move (by first | exact Mix.wanted_none rfl | exact Mix.wanted_yes rfl rfl rfl) _ rfl _ (by first | (go_simp; done) | (go_simp; rfl)) ?_; go_frame)
          | (refine Mix.go_assign (by first | exact Mix.wanted_none rfl | exact Mix.wanted_yes rfl rfl rfl) _ rfl _ (by first | (go_simp; done) | (go_simp; rfl)) ?_; go_frame)
          | (refine Mix.go_sureW (by first | exact Mix.wanted_none rfl | exact Mix.wanted_yes rfl rfl rfl) _ (by rfl) (by rfl) _ (fun w' hC' => by go_wp2_with fail; refine Mix.stays ?_; go_frame; rfl) ?_; go_frame)
          | (refine Mix.go_lookW (by first | exact Mix.wanted_none rfl | exact Mix.wanted_yes rfl rfl rfl) _ (by rfl) (by rfl) _ (by go_wp2_with fail; refine Mix.stays ?_; go_frame; rfl) ?_; go_frame))
        refine Mix.go_end ?_
        go_wp2_with fail
        (try simp only [Exit.inBlock, Exit.then])
        exact bodyPost_ret (results_q rfl _ _ (w.heap.size + 1) _ rfl _ rfl HZ2.out infoQ) rfl ⟨by rw [HO.out.1, HO.out.2]; rfl, HFE.out⟩
  · have zk : (a.k == 2) = false := beq_eq_false_iff_ne.2 hk
    have yk : (a.k != 2) = true := bne_iff_ne.2 hk
    have HNO := Lib.hid (HN0.out (isQ_no (fun h => hk h.2)))
    clear hk HN0 HY0
    go_enter Try.func7, Try.ntmps7
    go_wp2_with (refine wpList_store_row rfl 27 _ _ rfl (w.heap.size + 1) #[.int .i64 0, .string ⟨#[]⟩, .slice none 0 0, .int .i64 0, .int .i64 0, .int .i64 0] rfl rfl 27 _ HQ1.out infoQ rfl (ask_one _ _ _ _ _ _ rfl) ?_; rw [← HW1.out])
    have hz2 := setRow_heap W1 (w.heap.size + 1) _ #[.int .i64 0, .string ⟨#[]⟩, .slice none 0 0, .int .i64 0, .int .i64 0, .int .i64 0] _ _ HR1.out
    have hfe : Fr0 w (W1.setRow (w.heap.size + 1) #[.int .i64 0, .string ⟨#[]⟩, .slice none 0 0, .int .i64 0, .int .i64 0, .int .i64 0]) := Fr.setRow HF1.out (fun h => absurd h (by omega)) _
    (try simp only [Exit.inBlock, Exit.then])
    exact bodyPost_ret (results_q rfl _ _ (w.heap.size + 1) _ rfl _ rfl hz2 infoQ) rfl ⟨by rw [HNO.out.1, HNO.out.2]; rfl, hfe⟩
end Go.Proofs.Ytmnbihpcgkgebaa.Canon
