/-
  The reference's Canon, Key.
-/
import Derived.Test.YtmnbihpcgkgebaaCanonSpec
import Derived.Test.YtmnbihpcgkgebaaAskRefGet
import Derived.Test.YtmnbihpcgkgebaaAskRefPut
import Derived.Test.YtmnbihpcgkgebaaMixS
namespace Go.Proofs.Ytmnbihpcgkgebaa.Canon
open Go.RowKit Base Pack _root_.Go.Proofs.Ytmnbihpcgkgebaa.Ask

/-- an empty slice stays one -/
theorem pairs_none {w : World} {A : Option Addr} {C : Nat} (h : PairsIs w (.slice A ([] : List (Int × Int)).length C) []) (w' : World) : PairsIs w' (.slice A ([] : List (Int × Int)).length C) [] := by
  obtain ⟨A', C', pb, po, hv, hc, ha, _⟩ := h
  exact ⟨A', C', pb, po, hv, hc, fun h => absurd h (by simp), fun j hj => absurd hj (by simp)⟩
theorem s_none {a : Rq} (h : isQ a = true) : a.s = [] := by
  obtain ⟨h1, h2⟩ := isQ_iff.1 h
  rcases good_kind h1 with h3 | h3
  · omega
  · exact h3.2.1
/-- where a request lies once it is boxed -/
structure BoxR (W : World) (g : Nat) (sv : Value) (a : Rq) : Prop where
  heap : W.heap[g]? = some (.cells #[.int .i64 a.k, .string ⟨a.n.toArray⟩, sv, .int .i64 a.f, .int .i64 a.t, .int .i64 a.wn] 39 (0, 0))
  row : W.rowIs g 39 6 (ask6 a.k ⟨a.n.toArray⟩ sv a.f a.t a.wn)
theorem BoxR.fr {S : Nat → Prop} {W W' : World} {g : Nat} {sv : Value} {a : Rq} (h : BoxR W g sv a) (hf : Fr S W W') (hs : ¬ S g) : BoxR W' g sv a := ⟨hf.heap h.heap hs, hf.row h.row hs⟩
theorem BoxR.fr0 {W W' : World} {g : Nat} {sv : Value} {a : Rq} (h : BoxR W g sv a) (hf : Fr0 W W') : BoxR W' g sv a := h.fr hf (fun f => f)
theorem BoxR.of_row {W : World} {g : Nat} {sv : Value} {a : Rq} (h : W.rowIs g 39 6 (ask6 a.k ⟨a.n.toArray⟩ sv a.f a.t a.wn)) : BoxR W g sv a := ⟨row_cells h, h⟩
theorem BoxR.of_heap {W : World} {g : Nat} {sv : Value} {a : Rq} (h : W.heap[g]? = some (.cells #[.int .i64 a.k, .string ⟨a.n.toArray⟩, sv, .int .i64 a.f, .int .i64 a.t, .int .i64 a.wn] 39 (0, 0))) : BoxR W g sv a :=
  ⟨h, rowIs_of_cells h rfl (fun i hi => by
    match i, hi with
    | 0, _ => rfl
    | 1, _ => rfl
    | 2, _ => rfl
    | 3, _ => rfl
    | 4, _ => rfl
    | 5, _ => rfl)⟩
theorem BoxR.new (w : World) (sv : Value) (a : Rq) : BoxR (w.alloc (.cells #[.int .i64 a.k, .string ⟨a.n.toArray⟩, sv, .int .i64 a.f, .int .i64 a.t, .int .i64 a.wn] 39)) w.heap.size sv a := .of_heap (heap_alloc_new w _)
theorem BoxR.cells {W : World} {g : Nat} {sv : Value} {a : Rq} (h : BoxR W g sv a) : W.cell? ⟨g, 0, none⟩ = some (.int .i64 a.k) ∧ W.cell? ⟨g, 1, none⟩ = some (.string ⟨a.n.toArray⟩) ∧ W.cell? ⟨g, 2, none⟩ = some sv ∧ W.cell? ⟨g, 3, none⟩ = some (.int .i64 a.f) ∧ W.cell? ⟨g, 4, none⟩ = some (.int .i64 a.t) ∧ W.cell? ⟨g, 5, none⟩ = some (.int .i64 a.wn) :=
  ⟨h.row.cell (i := 0) (by decide), h.row.cell (i := 1) (by decide), h.row.cell (i := 2) (by decide), h.row.cell (i := 3) (by decide), h.row.cell (i := 4) (by decide), h.row.cell (i := 5) (by decide)⟩
theorem isQ_nor {a : Rq} (h : ¬ (good a = true ∧ a.k = 2)) : isQ a = false := by
  rw [Bool.eq_false_iff]
  exact fun e => h (isQ_iff.1 e)
def CanonPost (a : Rq) (w : World) (e : Ending) (w' : World) : Prop := ∃ A C, e = .returned (.tuple #[.agg (rv (.slice A (ofOut a).s.length C) (ofOut a)), .int .i64 (ofErr a)]) ∧ PairsIs w' (.slice A (ofOut a).s.length C) (ofOut a).s ∧ Fr0 w w'
set_option maxRecDepth 100000 in
set_option maxHeartbeats 4000000 in
theorem rcanon_any (A : Option Addr) (C : Nat) (a : Rq) (hn : a.n.length ≤ 9223372036854775807) (w : World) (hS : PairsIs w (.slice A a.s.length C) a.s) :
    Calls Try.prog 11 #[.agg (rv (.slice A a.s.length C) a)] w (CanonPost a w) := by
  have HP := Lib.hid hS
  have HN0 : Hid (isQ a = false → ofOut a = zero ∧ ofErr a = 1) := Lib.hid (fun h => ⟨(ofOut_no h).1, (ofOut_no h).2.1⟩)
  have HY0 : Hid (isQ a = true → ofOut a = one a ∧ ofErr a = 0) := Lib.hid (fun h => ⟨(ofOut_isQ h).1, (ofOut_isQ h).2.1⟩)
  obtain ⟨W1, hW1⟩ : ∃ W1, W1 = (w.alloc (.cells #[.int .i64 a.k, .string ⟨a.n.toArray⟩, .slice A a.s.length C, .int .i64 a.f, .int .i64 a.t, .int .i64 a.wn] 39)).alloc (.cells #[.int .i64 0, .string ⟨#[]⟩, .slice none 0 0, .int .i64 0, .int .i64 0, .int .i64 0] 39) := ⟨_, rfl⟩
  have hb1 : BoxR W1 w.heap.size (.slice A a.s.length C) a := by
    rw [hW1]
    exact (BoxR.new w (.slice A a.s.length C) a).fr0 ((Fr.refl _ _).alloc _)
  have hr1 : W1.heap[w.heap.size + 1]? = some (.cells #[.int .i64 0, .string ⟨#[]⟩, .slice none 0 0, .int .i64 0, .int .i64 0, .int .i64 0] 39 (0, 0)) := by
    have h := heap_alloc_new (w.alloc (.cells #[.int .i64 a.k, .string ⟨a.n.toArray⟩, .slice A a.s.length C, .int .i64 a.f, .int .i64 a.t, .int .i64 a.wn] 39)) (.cells #[.int .i64 0, .string ⟨#[]⟩, .slice none 0 0, .int .i64 0, .int .i64 0, .int .i64 0] 39)
    rw [show (w.alloc (.cells #[.int .i64 a.k, .string ⟨a.n.toArray⟩, .slice A a.s.length C, .int .i64 a.f, .int .i64 a.t, .int .i64 a.wn] 39)).heap.size = w.heap.size + 1 by simp] at h
    rw [hW1]
    exact h
  have HF1 : Hid (Fr0 w W1) := Lib.hid (by rw [hW1]; exact ((Fr.refl _ _).alloc _).alloc _)
  have HB1 := Lib.hid hb1
  have HR1 := Lib.hid hr1
  have HW1 := Lib.hid hW1
  clear hW1 hb1 hr1 hS
  have hh1 := HB1.out.heap
  rw [HW1.out] at hh1
  have HH1 := Lib.hid hh1
  have hgd := rgood_any A C a hn W1
  clear hh1
  unfold rv
  go_enter Try.func11, Try.ntmps11
  go_wp2_with (refine wpList_load_row rfl 39 _ rfl (w.heap.size) rfl 39 _ (0, 0) _ HH1.out Try.underlying39 rfl (by kernel_rfl) ?_)
  rw [← HW1.out]
  refine hgd.mono ?_
  clear hgd HH1
  rintro e W2 ⟨rfl, hF2⟩
  have HF2 := Lib.hid (HF1.out.trans' hF2)
  have HB2 := Lib.hid (HB1.out.fr0 hF2)
  have HR2 := Lib.hid (hF2.heap HR1.out (fun f => f))
  clear hF2 HW1
  cases hg : good a with
  | false =>
    have HNO := Lib.hid (HN0.out (isQ_nor (fun h => by rw [hg] at h; cases h.1)))
    clear hg HY0 HN0
    go_wp2_with (refine wpList_store_row rfl 39 _ _ rfl (w.heap.size + 1) #[.int .i64 0, .string ⟨#[]⟩, .slice none 0 0, .int .i64 0, .int .i64 0, .int .i64 0] rfl rfl 39 _ HR2.out infoAsk rfl (ask_one _ _ _ _ _ _ rfl) ?_)
    have hz2 := setRow_heap W2 (w.heap.size + 1) _ #[.int .i64 0, .string ⟨#[]⟩, .slice none 0 0, .int .i64 0, .int .i64 0, .int .i64 0] _ _ HR2.out
    have hfe : Fr0 w (W2.setRow (w.heap.size + 1) #[.int .i64 0, .string ⟨#[]⟩, .slice none 0 0, .int .i64 0, .int .i64 0, .int .i64 0]) := Fr.setRow HF2.out (fun h => absurd h (by omega)) _
    have hfs : Fr (fun j => j = w.heap.size + 1) W2 (W2.setRow (w.heap.size + 1) #[.int .i64 0, .string ⟨#[]⟩, .slice none 0 0, .int .i64 0, .int .i64 0, .int .i64 0]) := Fr.setRow (S := fun j => j = w.heap.size + 1) (Fr.refl _ _) (fun _ => rfl) _
    (try simp only [Exit.inBlock, Exit.then])
    refine bodyPost_ret (results_ask rfl _ _ (w.heap.size + 1) _ rfl _ rfl hz2 infoAsk) rfl ⟨none, 0, ?_, ?_, hfe⟩
    · rw [HNO.out.1, HNO.out.2]; rfl
    · rw [HNO.out.1]; exact pairs_nil _
  | true =>
    have HG := Lib.hid hg
    have c0 := HB2.out.cells.1
    by_cases hk : a.k = 2
    · have zk : (a.k == 2) = true := beq_iff_eq.2 hk
      have yk : (a.k != 2) = false := by rw [hk]; rfl
      have hq : isQ a = true := isQ_iff.2 ⟨hg, hk⟩
      have HYES := Lib.hid (HY0.out hq)
      have HS := Lib.hid (s_none hq)
      have c3 := HB2.out.cells.2.2.2.1
      have c4 := HB2.out.cells.2.2.2.2.1
      clear hg hk HY0 HN0 hq
      by_cases hft : a.t < a.f
      · have hgt : a.f > a.t := hft
        have t3 := HB2.out.row.frozen 3
        have t4 := HB2.out.row.frozen 4
        obtain ⟨W3, hW3⟩ : ∃ W3, W3 = (W2.setCell ⟨w.heap.size, 3, none⟩ (.int .i64 1)).setCell ⟨w.heap.size, 4, none⟩ (.int .i64 0) := ⟨_, rfl⟩
        have hf3 : Fr (fun j => j = w.heap.size) W2 W3 := by
          rw [hW3]
          exact Fr.setCell (S := fun j => j = w.heap.size) (p := ⟨w.heap.size, 4, none⟩) (Fr.setCell (S := fun j => j = w.heap.size) (p := ⟨w.heap.size, 3, none⟩) (Fr.refl _ _) (fun _ => rfl) _) (fun _ => rfl) _
        have hb3 : BoxR W3 w.heap.size (.slice A a.s.length C) (one a) := .of_row (by
          rw [hW3]
          unfold one
          rw [if_pos hft]
          exact ((HB2.out.row.set 3 (.int .i64 1)).set 4 (.int .i64 0)).congr (fun j hj => by
            match j, hj with
            | 0, _ => rfl
            | 1, _ => rfl
            | 2, _ => rfl
            | 3, _ => rfl
            | 4, _ => rfl
            | 5, _ => rfl))
        have HB3 := Lib.hid hb3
        have HR3 := Lib.hid (hf3.heap HR2.out (fun e => by have e' : w.heap.size + 1 = w.heap.size := e; omega))
        have HF3 := Lib.hid (HF2.out.trans hf3 (fun j hj e => by have e' : j = w.heap.size := e; omega))
        have hhs := hb3.heap
        rw [hW3] at hhs
        have HHS := Lib.hid hhs
        have HW3 := Lib.hid hW3
        clear hW3 hb3 hf3 hft hhs
        go_wp2_with (first | ((refine wpList_load_row rfl 39 _ rfl (w.heap.size) rfl 39 _ (0, 0) _ HHS.out Try.underlying39 rfl (by kernel_rfl) ?_); rw [← HW3.out]) | (refine wpList_store_row rfl 39 _ _ rfl (w.heap.size + 1) #[.int .i64 (one a).k, .string ⟨(one a).n.toArray⟩, .slice A a.s.length C, .int .i64 (one a).f, .int .i64 (one a).t, .int .i64 (one a).wn] rfl rfl 39 _ HR3.out infoAsk rfl (ask_one _ _ _ _ _ _ rfl) ?_))
        have hz2 := setRow_heap W3 (w.heap.size + 1) _ #[.int .i64 (one a).k, .string ⟨(one a).n.toArray⟩, .slice A a.s.length C, .int .i64 (one a).f, .int .i64 (one a).t, .int .i64 (one a).wn] _ _ HR3.out
        have hfe : Fr0 w (W3.setRow (w.heap.size + 1) #[.int .i64 (one a).k, .string ⟨(one a).n.toArray⟩, .slice A a.s.length C, .int .i64 (one a).f, .int .i64 (one a).t, .int .i64 (one a).wn]) := Fr.setRow HF3.out (fun h => absurd h (by omega)) _
        have hfs : Fr (fun j => j = w.heap.size + 1) W3 (W3.setRow (w.heap.size + 1) #[.int .i64 (one a).k, .string ⟨(one a).n.toArray⟩, .slice A a.s.length C, .int .i64 (one a).f, .int .i64 (one a).t, .int .i64 (one a).wn]) := Fr.setRow (S := fun j => j = w.heap.size + 1) (Fr.refl _ _) (fun _ => rfl) _
        (try simp only [Exit.inBlock, Exit.then])
        refine bodyPost_ret (results_ask rfl _ _ (w.heap.size + 1) _ rfl _ rfl hz2 infoAsk) rfl ⟨A, C, ?_, ?_, hfe⟩
        · rw [HYES.out.1, HYES.out.2, (one_same a).2.2.1]; rfl
        · rw [HYES.out.1, (one_same a).2.2.1, HS.out]
          have h := HP.out
          rw [HS.out] at h
          exact pairs_none h _
      · have hgt : ¬ (a.f > a.t) := hft
        have HO : Hid (one a = a) := Lib.hid (by unfold one; rw [if_neg hft])
        clear hft
        go_wp2_with (first | (refine wpList_load_row rfl 39 _ rfl (w.heap.size) rfl 39 _ (0, 0) _ HB2.out.heap Try.underlying39 rfl (by kernel_rfl) ?_) | (refine wpList_store_row rfl 39 _ _ rfl (w.heap.size + 1) #[.int .i64 a.k, .string ⟨a.n.toArray⟩, .slice A a.s.length C, .int .i64 a.f, .int .i64 a.t, .int .i64 a.wn] rfl rfl 39 _ HR2.out infoAsk rfl (ask_one _ _ _ _ _ _ rfl) ?_))
        have hz2 := setRow_heap W2 (w.heap.size + 1) _ #[.int .i64 a.k, .string ⟨a.n.toArray⟩, .slice A a.s.length C, .int .i64 a.f, .int .i64 a.t, .int .i64 a.wn] _ _ HR2.out
        have hfe : Fr0 w (W2.setRow (w.heap.size + 1) #[.int .i64 a.k, .string ⟨a.n.toArray⟩, .slice A a.s.length C, .int .i64 a.f, .int .i64 a.t, .int .i64 a.wn]) := Fr.setRow HF2.out (fun h => absurd h (by omega)) _
        have hfs : Fr (fun j => j = w.heap.size + 1) W2 (W2.setRow (w.heap.size + 1) #[.int .i64 a.k, .string ⟨a.n.toArray⟩, .slice A a.s.length C, .int .i64 a.f, .int .i64 a.t, .int .i64 a.wn]) := Fr.setRow (S := fun j => j = w.heap.size + 1) (Fr.refl _ _) (fun _ => rfl) _
        (try simp only [Exit.inBlock, Exit.then])
        refine bodyPost_ret (results_ask rfl _ _ (w.heap.size + 1) _ rfl _ rfl hz2 infoAsk) rfl ⟨A, C, ?_, ?_, hfe⟩
        · rw [HYES.out.1, HYES.out.2, HO.out]; rfl
        · rw [HYES.out.1, HO.out, HS.out]
          have h := HP.out
          rw [HS.out] at h
          exact pairs_none h _
    · have zk : (a.k == 2) = false := beq_eq_false_iff_ne.2 hk
      have yk : (a.k != 2) = true := bne_iff_ne.2 hk
      have HNO := Lib.hid (HN0.out (isQ_nor (fun h => hk h.2)))
      clear hk hg HN0 HY0
      go_wp2_with (refine wpList_store_row rfl 39 _ _ rfl (w.heap.size + 1) #[.int .i64 0, .string ⟨#[]⟩, .slice none 0 0, .int .i64 0, .int .i64 0, .int .i64 0] rfl rfl 39 _ HR2.out infoAsk rfl (ask_one _ _ _ _ _ _ rfl) ?_)
      have hz2 := setRow_heap W2 (w.heap.size + 1) _ #[.int .i64 0, .string ⟨#[]⟩, .slice none 0 0, .int .i64 0, .int .i64 0, .int .i64 0] _ _ HR2.out
      have hfe : Fr0 w (W2.setRow (w.heap.size + 1) #[.int .i64 0, .string ⟨#[]⟩, .slice none 0 0, .int .i64 0, .int .i64 0, .int .i64 0]) := Fr.setRow HF2.out (fun h => absurd h (by omega)) _
      have hfs : Fr (fun j => j = w.heap.size + 1) W2 (W2.setRow (w.heap.size + 1) #[.int .i64 0, .string ⟨#[]⟩, .slice none 0 0, .int .i64 0, .int .i64 0, .int .i64 0]) := Fr.setRow (S := fun j => j = w.heap.size + 1) (Fr.refl _ _) (fun _ => rfl) _
      (try simp only [Exit.inBlock, Exit.then])
      refine bodyPost_ret (results_ask rfl _ _ (w.heap.size + 1) _ rfl _ rfl hz2 infoAsk) rfl ⟨none, 0, ?_, ?_, hfe⟩
      · rw [HNO.out.1, HNO.out.2]; rfl
      · rw [HNO.out.1]; exact pairs_nil _
end Go.Proofs.Ytmnbihpcgkgebaa.Canon
