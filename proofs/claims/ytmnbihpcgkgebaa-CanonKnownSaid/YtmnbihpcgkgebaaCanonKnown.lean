/-
  CanonKnown walked.
-/
import Derived.Test.YtmnbihpcgkgebaaCanonAwake
import Derived.Test.YtmnbihpcgkgebaaMixT
import Derived.Deep.DeepCutAuto
import Derived.BigRegion
namespace Go.Proofs.Ytmnbihpcgkgebaa.Canon
open Go.RowKit Base Pack _root_.Go.Proofs.Ytmnbihpcgkgebaa.Ask

def kP : Rq := ⟨1, [97], [(0, 0)], 0, 0, 0⟩
def kQ : Rq := ⟨2, [97], [], 3, 3, 5⟩
def kR : Rq := ⟨2, [97], [], 3, 3, 4⟩
def kS : Rq := ⟨2, [97], [], 3, 4, 5⟩
def kT : Rq := ⟨2, [98], [], 3, 3, 5⟩
theorem kP_of : ofOut kP = zero ∧ ofErr kP = 1 ∧ keyOut kP = [] := ofOut_no (by decide)
theorem k0_of : ofOut zero = zero ∧ ofErr zero = 1 := ⟨(ofOut_no (by decide)).1, (ofOut_no (by decide)).2.1⟩
theorem kQ_key : ofErr kQ = 0 ∧ keyOut kQ = putB kQ ∧ good kQ = true := by
  have h : isQ kQ = true := by decide
  refine ⟨(ofOut_isQ h).2.1, ?_, by decide⟩
  rw [(ofOut_isQ h).2.2]
  rfl
theorem kSame : sameK kQ kQ = true ∧ sameK kQ kR = false ∧ sameK kQ kS = false ∧ sameK kQ kT = false ∧ sameK kP kP = false := by decide +kernel
theorem put_kQ (w : World) : Calls Try.prog 9 #[.agg (rv (.slice none 0 0) kQ)] w fun e w' => ∃ v, e = .returned (.tuple #[v, .int .i64 0]) ∧ BytesIs w' v (keyOut kQ) ∧ Fr0 w w' := by
  refine (pput_any none 0 kQ (by decide) w (pairs_nil w)).mono ?_
  rintro e w' ⟨v, rfl, hB, hF⟩
  have he : putErr kQ = 0 := by unfold putErr; rw [if_pos kQ_key.2.2]
  have ho : putOut kQ = putB kQ := by unfold putOut; rw [if_pos kQ_key.2.2]
  exact ⟨v, by rw [he], by rw [kQ_key.2.1, ← ho]; exact hB, hF⟩
theorem three (W : World) (n : Nat) (hn : W.heap.size = n) : BoxQ (((W.alloc (.cells #[.int .i64 2, .string ⟨#[97]⟩, .slice none 0 0, .int .i64 3, .int .i64 3, .int .i64 5] 27)).alloc (.cells #[.int .i64 2, .string ⟨#[97]⟩, .slice none 0 0, .int .i64 3, .int .i64 3, .int .i64 5] 27)).alloc (.cells #[.int .i64 2, .string ⟨#[97]⟩, .slice none 0 0, .int .i64 3, .int .i64 3, .int .i64 5] 27)).drew n (.slice none 0 0) kQ ∧ BoxQ (((W.alloc (.cells #[.int .i64 2, .string ⟨#[97]⟩, .slice none 0 0, .int .i64 3, .int .i64 3, .int .i64 5] 27)).alloc (.cells #[.int .i64 2, .string ⟨#[97]⟩, .slice none 0 0, .int .i64 3, .int .i64 3, .int .i64 5] 27)).alloc (.cells #[.int .i64 2, .string ⟨#[97]⟩, .slice none 0 0, .int .i64 3, .int .i64 3, .int .i64 5] 27)).drew (n + 1) (.slice none 0 0) kQ ∧
    BoxQ (((W.alloc (.cells #[.int .i64 2, .string ⟨#[97]⟩, .slice none 0 0, .int .i64 3, .int .i64 3, .int .i64 5] 27)).alloc (.cells #[.int .i64 2, .string ⟨#[97]⟩, .slice none 0 0, .int .i64 3, .int .i64 3, .int .i64 5] 27)).alloc (.cells #[.int .i64 2, .string ⟨#[97]⟩, .slice none 0 0, .int .i64 3, .int .i64 3, .int .i64 5] 27)).drew (n + 1 + 1) (.slice none 0 0) kQ ∧ Fr0 W (((W.alloc (.cells #[.int .i64 2, .string ⟨#[97]⟩, .slice none 0 0, .int .i64 3, .int .i64 3, .int .i64 5] 27)).alloc (.cells #[.int .i64 2, .string ⟨#[97]⟩, .slice none 0 0, .int .i64 3, .int .i64 3, .int .i64 5] 27)).alloc (.cells #[.int .i64 2, .string ⟨#[97]⟩, .slice none 0 0, .int .i64 3, .int .i64 3, .int .i64 5] 27)).drew := by
  subst hn
  have h1 := BoxQ.new W (.slice none 0 0) kQ
  have h2 := BoxQ.new (W.alloc (.cells #[.int .i64 2, .string ⟨#[97]⟩, .slice none 0 0, .int .i64 3, .int .i64 3, .int .i64 5] 27)) (.slice none 0 0) kQ
  have h3 := BoxQ.new ((W.alloc (.cells #[.int .i64 2, .string ⟨#[97]⟩, .slice none 0 0, .int .i64 3, .int .i64 3, .int .i64 5] 27)).alloc (.cells #[.int .i64 2, .string ⟨#[97]⟩, .slice none 0 0, .int .i64 3, .int .i64 3, .int .i64 5] 27)) (.slice none 0 0) kQ
  rw [show (W.alloc (.cells #[.int .i64 2, .string ⟨#[97]⟩, .slice none 0 0, .int .i64 3, .int .i64 3, .int .i64 5] 27)).heap.size = W.heap.size + 1 by simp] at h2
  rw [show ((W.alloc (.cells #[.int .i64 2, .string ⟨#[97]⟩, .slice none 0 0, .int .i64 3, .int .i64 3, .int .i64 5] 27)).alloc (.cells #[.int .i64 2, .string ⟨#[97]⟩, .slice none 0 0, .int .i64 3, .int .i64 3, .int .i64 5] 27)).heap.size = W.heap.size + 1 + 1 by simp] at h3
  exact ⟨h1.fr0 (((Fr.refl _ _).alloc _).alloc _).drew, h2.fr0 ((Fr.refl _ _).alloc _).drew, h3.fr0 (Fr.refl _ _).drew, ((((Fr.refl _ _).alloc _).alloc _).alloc _).drew⟩
set_option maxRecDepth 100000 in
set_option maxHeartbeats 8000000 in
theorem canonKnown_walk (w : World) : Calls Try.prog 3 #[] w fun e w' => e = .returned (.bool true) ∧ Fr0 w w' := by
  go_enter Try.func3, Try.ntmps3
  go_wp2_with fail
  refine (awake_any _).mono ?_
  rintro e W1 ⟨rfl, hF1⟩
  have HF1 := Lib.hid hF1
  clear hF1
  -- p
  obtain ⟨W2, hW2⟩ : ∃ W', W' = W1.alloc (.cells #[.int .i64 0, .int .i64 0] 24) := ⟨_, rfl⟩
  have hs2 : W2.heap.size = W1.heap.size + 1 := by rw [hW2]; simp
  have hg2 := heap_alloc_new W2 (.cells #[.int .i64 0, .string ⟨#[]⟩, .slice none 0 0, .int .i64 0, .int .i64 0, .int .i64 0] 27)
  rw [hs2] at hg2
  obtain ⟨W3, hW3⟩ : ∃ W', W' = (W2.alloc (.cells #[.int .i64 0, .string ⟨#[]⟩, .slice none 0 0, .int .i64 0, .int .i64 0, .int .i64 0] 27)).setRow (W1.heap.size + 1) #[.int .i64 1, .string ⟨#[97]⟩, .slice (some ⟨W1.heap.size, 0, none⟩) 1 1, .int .i64 0, .int .i64 0, .int .i64 0] := ⟨_, rfl⟩
  have hr3 := setRow_heap _ (W1.heap.size + 1) _ #[.int .i64 1, .string ⟨#[97]⟩, .slice (some ⟨W1.heap.size, 0, none⟩) 1 1, .int .i64 0, .int .i64 0, .int .i64 0] _ _ hg2
  rw [← hW3] at hr3
  have hf2 : Fr0 W1 W2 := by rw [hW2]; exact (Fr.refl _ _).alloc _
  have hf3 : Fr0 W2 W3 := by rw [hW3]; exact Fr.setRow ((Fr.refl _ _).alloc _) (fun h => absurd h (by omega)) _
  have hs3 : W3.heap.size = W1.heap.size + 2 := by rw [hW3]; simp [hs2]
  -- q
  have hg3 := heap_alloc_new W3 (.cells #[.int .i64 0, .string ⟨#[]⟩, .slice none 0 0, .int .i64 0, .int .i64 0, .int .i64 0] 27)
  rw [hs3] at hg3
  obtain ⟨W4, hW4⟩ : ∃ W', W' = (W3.alloc (.cells #[.int .i64 0, .string ⟨#[]⟩, .slice none 0 0, .int .i64 0, .int .i64 0, .int .i64 0] 27)).setRow (W1.heap.size + 2) #[.int .i64 2, .string ⟨#[97]⟩, .slice none 0 0, .int .i64 3, .int .i64 3, .int .i64 5] := ⟨_, rfl⟩
  have hr4 := setRow_heap _ (W1.heap.size + 2) _ #[.int .i64 2, .string ⟨#[97]⟩, .slice none 0 0, .int .i64 3, .int .i64 3, .int .i64 5] _ _ hg3
  rw [← hW4] at hr4
  have hf4 : Fr0 W3 W4 := by rw [hW4]; exact Fr.setRow ((Fr.refl _ _).alloc _) (fun h => absurd h (by omega)) _
  have hs4 : W4.heap.size = W1.heap.size + 3 := by rw [hW4]; simp [hs3]
  have HP4 : Hid (BoxQ W4 (W1.heap.size + 1) (.slice (some ⟨W1.heap.size, 0, none⟩) 1 1) kP) := Lib.hid (BoxQ.of_heap (hf4.heap hr3 (fun f => f)))
  have HQ4 : Hid (BoxQ W4 (W1.heap.size + 2) (.slice none 0 0) kQ) := Lib.hid (BoxQ.of_heap hr4)
  have HF4 : Hid (Fr0 w W4) := Lib.hid (((HF1.out.trans' hf2).trans' hf3).trans' hf4)
  have hgg := hg2
  rw [hW2] at hgg
  have HG2 := Lib.hid hgg
  have HW3 : Hid (W3 = ((W1.alloc (.cells #[.int .i64 0, .int .i64 0] 24)).alloc (.cells #[.int .i64 0, .string ⟨#[]⟩, .slice none 0 0, .int .i64 0, .int .i64 0, .int .i64 0] 27)).setRow (W1.heap.size + 1) #[.int .i64 1, .string ⟨#[97]⟩, .slice (some ⟨W1.heap.size, 0, none⟩) 1 1, .int .i64 0, .int .i64 0, .int .i64 0]) := Lib.hid (by rw [hW3, hW2])
  have HG3 := Lib.hid hg3
  have HW4 := Lib.hid hW4
  have HS3 := Lib.hid hs3
  clear hW2 hs2 hg2 hW3 hr3 hf2 hf3 hg3 hW4 hr4 hf4 hgg hs3
  go_upto_region 5 with (first | (refine wpList_store_row rfl 27 _ _ rfl (W1.heap.size + 1) #[.int .i64 1, .string ⟨#[97]⟩, .slice (some ⟨W1.heap.size, 0, none⟩) 1 1, .int .i64 0, .int .i64 0, .int .i64 0] rfl rfl 27 _ HG2.out infoQ rfl (ask_one _ _ _ _ _ _ rfl) ?_; rw [← HW3.out]) | (rw [HS3.out]; refine wpList_store_row rfl 27 _ _ rfl (W1.heap.size + 2) #[.int .i64 2, .string ⟨#[97]⟩, .slice none 0 0, .int .i64 3, .int .i64 3, .int .i64 5] rfl rfl 27 _ HG3.out infoQ rfl (ask_one _ _ _ _ _ _ rfl) ?_; rw [← HW4.out]))
  clear HG2 HW3 HG3 HW4 HS3
  go_frame
  go_cut [3, 4, 5] (fun s3 s4 s5 wx => ∃ g3 g4 g5 : Nat, s3 = .pointer (some ⟨g3, 0, none⟩) ∧ s4 = .pointer (some ⟨g4, 0, none⟩) ∧ s5 = .pointer (some ⟨g5, 0, none⟩) ∧ (W4.heap.size ≤ g3 ∧ W4.heap.size ≤ g4 ∧ W4.heap.size ≤ g5) ∧ (g3 ≠ g4 ∧ g3 ≠ g5 ∧ g4 ≠ g5) ∧ Hid (BoxQ wx g3 (.slice none 0 0) kQ) ∧ Hid (BoxQ wx g4 (.slice none 0 0) kQ) ∧ Hid (BoxQ wx g5 (.slice none 0 0) kQ) ∧ Hid (Fr0 W4 wx))
  case first =>
    have c0 : W4.cell? ⟨W1.heap.size + 2, 0, none⟩ = some (.int .i64 2) := HQ4.out.cells.1
    have c1 : W4.cell? ⟨W1.heap.size + 2, 1, none⟩ = some (.string ⟨#[97]⟩) := HQ4.out.cells.2.1
    have c2 : W4.cell? ⟨W1.heap.size + 2, 2, none⟩ = some (.slice none 0 0) := HQ4.out.cells.2.2.1
    have c3 : W4.cell? ⟨W1.heap.size + 2, 3, none⟩ = some (.int .i64 3) := HQ4.out.cells.2.2.2.1
    have c4 : W4.cell? ⟨W1.heap.size + 2, 4, none⟩ = some (.int .i64 3) := HQ4.out.cells.2.2.2.2.1
    have c5 : W4.cell? ⟨W1.heap.size + 2, 5, none⟩ = some (.int .i64 5) := HQ4.out.cells.2.2.2.2.2
    go_big_region
    all_goals go_wp2_with fail
    all_goals go_meet
    all_goals (
      have hv := three W4 _ hs4
      refine ⟨_, _, _, rfl, rfl, rfl, ⟨by omega, by omega, by omega⟩, ⟨by omega, by omega, by omega⟩, ?_, ?_, ?_, Lib.hid hv.2.2.2⟩ <;> first | exact Lib.hid hv.1 | exact Lib.hid hv.2.1 | exact Lib.hid hv.2.2.1)
  case rest =>
    obtain ⟨g3, g4, g5, rfl, rfl, rfl, ⟨b3, b4, b5⟩, ⟨n34, n35, n45⟩, HRc, HSc, HTc, HFc⟩ := hcut
    have t3 := HRc.out.row.frozen 5
    have t4 := HSc.out.row.frozen 4
    have t5 := HTc.out.row.frozen 1
    have x3 := HRc.out.cells.2.2.2.2.2
    have x4 := HSc.out.cells.2.2.2.2.1
    have x5 := HTc.out.cells.2.1
    obtain ⟨W5, hW5⟩ : ∃ W', W' = ((wc.setCell ⟨g3, 5, none⟩ (.int .i64 4)).setCell ⟨g4, 4, none⟩ (.int .i64 4)).setCell ⟨g5, 1, none⟩ (.string ⟨#[98]⟩) := ⟨_, rfl⟩
    have hfa : Fr (fun j => j = g3) wc (wc.setCell ⟨g3, 5, none⟩ (.int .i64 4)) := Fr.setCell (S := fun j => j = g3) (p := ⟨g3, 5, none⟩) (Fr.refl _ _) (fun _ => rfl) _
    have hfb : Fr (fun j => j = g4) (wc.setCell ⟨g3, 5, none⟩ (.int .i64 4)) ((wc.setCell ⟨g3, 5, none⟩ (.int .i64 4)).setCell ⟨g4, 4, none⟩ (.int .i64 4)) := Fr.setCell (S := fun j => j = g4) (p := ⟨g4, 4, none⟩) (Fr.refl _ _) (fun _ => rfl) _
    have hfc : Fr (fun j => j = g5) ((wc.setCell ⟨g3, 5, none⟩ (.int .i64 4)).setCell ⟨g4, 4, none⟩ (.int .i64 4)) W5 := by rw [hW5]; exact Fr.setCell (S := fun j => j = g5) (p := ⟨g5, 1, none⟩) (Fr.refl _ _) (fun _ => rfl) _
    have hr3 : BoxQ (wc.setCell ⟨g3, 5, none⟩ (.int .i64 4)) g3 (.slice none 0 0) kR := .of_row ((HRc.out.row.set 5 (.int .i64 4)).congr (fun j hj => by
      match j, hj with
      | 0, _ => rfl
      | 1, _ => rfl
      | 2, _ => rfl
      | 3, _ => rfl
      | 4, _ => rfl
      | 5, _ => rfl))
    have hs4' : BoxQ ((wc.setCell ⟨g3, 5, none⟩ (.int .i64 4)).setCell ⟨g4, 4, none⟩ (.int .i64 4)) g4 (.slice none 0 0) kS := .of_row (((HSc.out.fr hfa (fun e => n34 e.symm)).row.set 4 (.int .i64 4)).congr (fun j hj => by
      match j, hj with
      | 0, _ => rfl
      | 1, _ => rfl
      | 2, _ => rfl
      | 3, _ => rfl
      | 4, _ => rfl
      | 5, _ => rfl))
    have ht5 : BoxQ W5 g5 (.slice none 0 0) kT := .of_row (by
      rw [hW5]
      exact ((((HTc.out.fr hfa (fun e => n35 e.symm)).fr hfb (fun e => n45 e.symm)).row.set 1 (.string ⟨#[98]⟩)).congr (fun j hj => by
        match j, hj with
        | 0, _ => rfl
        | 1, _ => rfl
        | 2, _ => rfl
        | 3, _ => rfl
        | 4, _ => rfl
        | 5, _ => rfl)))
    have HR5 := Lib.hid ((hr3.fr hfb n34).fr hfc n35)
    have HS5 := Lib.hid (hs4'.fr hfc n45)
    have HT5 := Lib.hid ht5
    have HP5 := Lib.hid ((((HP4.out.fr0 HFc.out).fr hfa (fun e => by have e' : W1.heap.size + 1 = g3 := e; omega)).fr hfb (fun e => by have e' : W1.heap.size + 1 = g4 := e; omega)).fr hfc (fun e => by have e' : W1.heap.size + 1 = g5 := e; omega))
    have HQ5 := Lib.hid ((((HQ4.out.fr0 HFc.out).fr hfa (fun e => by have e' : W1.heap.size + 2 = g3 := e; omega)).fr hfb (fun e => by have e' : W1.heap.size + 2 = g4 := e; omega)).fr hfc (fun e => by have e' : W1.heap.size + 2 = g5 := e; omega))
    have hw4 : w.heap.size ≤ W4.heap.size := HF4.out.size
    have HF5 : Hid (Fr0 w W5) := Lib.hid ((((HF4.out.trans' HFc.out).trans hfa (fun j hj e => by have e' : j = g3 := e; omega)).trans hfb (fun j hj e => by have e' : j = g4 := e; omega)).trans hfc (fun j hj e => by have e' : j = g5 := e; omega))
    have HW5 := Lib.hid hW5
    clear hW5 hfa hfb hfc hr3 hs4' ht5 HRc HSc HTc HFc HP4 HQ4 HF4 n34 n35 n45 b3 b4 b5 hw4 hs4
    go_upto_region 7 with fail
    rw [← HW5.out]
    clear HW5 t3 t4 t5 x3 x4 x5
    have hop := of_any (some ⟨W1.heap.size, 0, none⟩) 1 kP (by decide) W5
    rw [kP_of.1, kP_of.2.1] at hop
    have hkp := fun w => key_any (some ⟨W1.heap.size, 0, none⟩) 1 kP (by decide) w
    rw [kP_of.2.1, kP_of.2.2] at hkp
    have ho0 := fun w => of_any none 0 zero (by decide) w
    rw [k0_of.1, k0_of.2] at ho0
    have hkq := fun w => key_any none 0 kQ (by decide) w
    rw [kQ_key.1] at hkq
    have HKP := Lib.hid hkp
    have HO0 := Lib.hid ho0
    have HKQ := Lib.hid hkq
    have HPQ := Lib.hid (fun w => put_kQ w)
    have hqq := fun w => same_go none none 0 0 kQ kQ (by decide) (by decide) w
    have hqr := fun w => same_go none none 0 0 kQ kR (by decide) (by decide) w
    have hqs := fun w => same_go none none 0 0 kQ kS (by decide) (by decide) w
    have hqt := fun w => same_go none none 0 0 kQ kT (by decide) (by decide) w
    have hpp := fun w => same_go (some ⟨W1.heap.size, 0, none⟩) (some ⟨W1.heap.size, 0, none⟩) 1 1 kP kP (by decide) (by decide) w
    rw [kSame.1] at hqq
    rw [kSame.2.1] at hqr
    rw [kSame.2.2.1] at hqs
    rw [kSame.2.2.2.1] at hqt
    rw [kSame.2.2.2.2] at hpp
    have HQQ := Lib.hid hqq
    have HQR := Lib.hid hqr
    have HQS := Lib.hid hqs
    have HQT := Lib.hid hqt
    have HPP := Lib.hid hpp
    clear hkp ho0 hkq hqq hqr hqs hqt hpp
    unfold rv at *
    generalize keyOut kQ = key at *
    go_wp2_with (refine wpList_load_row rfl 27 _ rfl (W1.heap.size + 1) rfl 27 _ (0, 0) _ HP5.out.heap Try.underlying27 rfl (by kernel_rfl) ?_)
    refine hop.mono ?_
    clear hop
    rintro e W6 ⟨rfl, hF6⟩
    have HP6 := Lib.hid (HP5.out.fr0 hF6)
    have HQ6 := Lib.hid (HQ5.out.fr0 hF6)
    have HR6 := Lib.hid (HR5.out.fr0 hF6)
    have HS6 := Lib.hid (HS5.out.fr0 hF6)
    have HT6 := Lib.hid (HT5.out.fr0 hF6)
    have HF6 := Lib.hid (HF5.out.trans' hF6)
    clear hF6 HP5 HQ5 HR5 HS5 HT5 HF5
    have hg7 := heap_alloc_new W6 (.cells #[.int .i64 0, .string ⟨#[]⟩, .slice none 0 0, .int .i64 0, .int .i64 0, .int .i64 0] 27)
    obtain ⟨W7, hW7⟩ : ∃ W', W' = (W6.alloc (.cells #[.int .i64 0, .string ⟨#[]⟩, .slice none 0 0, .int .i64 0, .int .i64 0, .int .i64 0] 27)).setRow W6.heap.size #[.int .i64 zero.k, .string ⟨zero.n.toArray⟩, .slice none 0 0, .int .i64 zero.f, .int .i64 zero.t, .int .i64 zero.wn] := ⟨_, rfl⟩
    have hF7 : Fr0 W6 W7 := by rw [hW7]; exact Fr.setRow ((Fr.refl _ _).alloc _) (fun h => absurd h (Nat.lt_irrefl _)) _
    have HKW7 := Lib.hid hW7
    have HKG7 := Lib.hid hg7
    clear hg7 hW7
    have HP7 := Lib.hid (HP6.out.fr0 hF7)
    have HQ7 := Lib.hid (HQ6.out.fr0 hF7)
    have HR7 := Lib.hid (HR6.out.fr0 hF7)
    have HS7 := Lib.hid (HS6.out.fr0 hF7)
    have HT7 := Lib.hid (HT6.out.fr0 hF7)
    have HF7 := Lib.hid (HF6.out.trans' hF7)
    clear hF7 HP6 HQ6 HR6 HS6 HT6 HF6
    go_wp2_with (first | (refine wpList_store_row rfl 27 _ _ rfl W6.heap.size #[.int .i64 zero.k, .string ⟨zero.n.toArray⟩, .slice none 0 0, .int .i64 zero.f, .int .i64 zero.t, .int .i64 zero.wn] rfl rfl 27 _ HKG7.out infoQ rfl (ask_one _ _ _ _ _ _ rfl) ?_; rw [← HKW7.out]) | (refine wpList_load_row rfl 27 _ rfl (W1.heap.size + 1) rfl 27 _ (0, 0) _ HP7.out.heap Try.underlying27 rfl (by kernel_rfl) ?_))
    refine (HKP.out W7).mono ?_
    rintro e W8 ⟨rfl, hF8⟩
    have HP8 := Lib.hid (HP7.out.fr0 hF8)
    have HQ8 := Lib.hid (HQ7.out.fr0 hF8)
    have HR8 := Lib.hid (HR7.out.fr0 hF8)
    have HS8 := Lib.hid (HS7.out.fr0 hF8)
    have HT8 := Lib.hid (HT7.out.fr0 hF8)
    have HF8 := Lib.hid (HF7.out.trans' hF8)
    clear hF8 HP7 HQ7 HR7 HS7 HT7 HF7
    go_wp2_with fail
    refine (HO0.out W8).mono ?_
    rintro e W9 ⟨rfl, hF9⟩
    have HP9 := Lib.hid (HP8.out.fr0 hF9)
    have HQ9 := Lib.hid (HQ8.out.fr0 hF9)
    have HR9 := Lib.hid (HR8.out.fr0 hF9)
    have HS9 := Lib.hid (HS8.out.fr0 hF9)
    have HT9 := Lib.hid (HT8.out.fr0 hF9)
    have HF9 := Lib.hid (HF8.out.trans' hF9)
    clear hF9 HP8 HQ8 HR8 HS8 HT8 HF8
    have hg10 := heap_alloc_new W9 (.cells #[.int .i64 0, .string ⟨#[]⟩, .slice none 0 0, .int .i64 0, .int .i64 0, .int .i64 0] 27)
    obtain ⟨W10, hW10⟩ : ∃ W', W' = (W9.alloc (.cells #[.int .i64 0, .string ⟨#[]⟩, .slice none 0 0, .int .i64 0, .int .i64 0, .int .i64 0] 27)).setRow W9.heap.size #[.int .i64 zero.k, .string ⟨zero.n.toArray⟩, .slice none 0 0, .int .i64 zero.f, .int .i64 zero.t, .int .i64 zero.wn] := ⟨_, rfl⟩
    have hF10 : Fr0 W9 W10 := by rw [hW10]; exact Fr.setRow ((Fr.refl _ _).alloc _) (fun h => absurd h (Nat.lt_irrefl _)) _
    have HKW10 := Lib.hid hW10
    have HKG10 := Lib.hid hg10
    clear hg10 hW10
    have HP10 := Lib.hid (HP9.out.fr0 hF10)
    have HQ10 := Lib.hid (HQ9.out.fr0 hF10)
    have HR10 := Lib.hid (HR9.out.fr0 hF10)
    have HS10 := Lib.hid (HS9.out.fr0 hF10)
    have HT10 := Lib.hid (HT9.out.fr0 hF10)
    have HF10 := Lib.hid (HF9.out.trans' hF10)
    clear hF10 HP9 HQ9 HR9 HS9 HT9 HF9
    go_wp2_with (first | (refine wpList_store_row rfl 27 _ _ rfl W9.heap.size #[.int .i64 zero.k, .string ⟨zero.n.toArray⟩, .slice none 0 0, .int .i64 zero.f, .int .i64 zero.t, .int .i64 zero.wn] rfl rfl 27 _ HKG10.out infoQ rfl (ask_one _ _ _ _ _ _ rfl) ?_; rw [← HKW10.out]) | (refine wpList_load_row rfl 27 _ rfl (W1.heap.size + 2) rfl 27 _ (0, 0) _ HQ10.out.heap Try.underlying27 rfl (by kernel_rfl) ?_))
    refine (HKQ.out W10).mono ?_
    rintro e W11 ⟨rfl, hF11⟩
    have HP11 := Lib.hid (HP10.out.fr0 hF11)
    have HQ11 := Lib.hid (HQ10.out.fr0 hF11)
    have HR11 := Lib.hid (HR10.out.fr0 hF11)
    have HS11 := Lib.hid (HS10.out.fr0 hF11)
    have HT11 := Lib.hid (HT10.out.fr0 hF11)
    have HF11 := Lib.hid (HF10.out.trans' hF11)
    clear hF11 HP10 HQ10 HR10 HS10 HT10 HF10
    go_wp2_with (refine wpList_load_row rfl 27 _ rfl (W1.heap.size + 2) rfl 27 _ (0, 0) _ HQ11.out.heap Try.underlying27 rfl (by kernel_rfl) ?_)
    refine (HPQ.out W11).mono ?_
    rintro e W12 ⟨v, rfl, hB12, hF12⟩
    have HP12 := Lib.hid (HP11.out.fr0 hF12)
    have HQ12 := Lib.hid (HQ11.out.fr0 hF12)
    have HR12 := Lib.hid (HR11.out.fr0 hF12)
    have HS12 := Lib.hid (HS11.out.fr0 hF12)
    have HT12 := Lib.hid (HT11.out.fr0 hF12)
    have HF12 := Lib.hid (HF11.out.trans' hF12)
    clear hF12 HP11 HQ11 HR11 HS11 HT11 HF11
    have hcv := hB12.convert (P := Try.prog) 33 9 5 Try.underlying33 Try.underlying5 Try.underlying9
    obtain ⟨A12, C12, rfl⟩ := hB12.form
    obtain ⟨q0_12, q1_12, q2_12, q3_12, q4_12, q5_12⟩ := HQ12.out.cells
    go_wp2_with fail
    refine (HQQ.out W12).mono ?_
    clear q0_12 q1_12 q2_12 q3_12 q4_12 q5_12 hcv hB12
    rintro e W13 ⟨rfl, hF13⟩
    have HP13 := Lib.hid (HP12.out.fr0 hF13)
    have HQ13 := Lib.hid (HQ12.out.fr0 hF13)
    have HR13 := Lib.hid (HR12.out.fr0 hF13)
    have HS13 := Lib.hid (HS12.out.fr0 hF13)
    have HT13 := Lib.hid (HT12.out.fr0 hF13)
    have HF13 := Lib.hid (HF12.out.trans' hF13)
    clear hF13 HP12 HQ12 HR12 HS12 HT12 HF12
    obtain ⟨q0_13, q1_13, q2_13, q3_13, q4_13, q5_13⟩ := HQ13.out.cells
    obtain ⟨r0_13, r1_13, r2_13, r3_13, r4_13, r5_13⟩ := HR13.out.cells
    go_wp2_with fail
    refine (HQR.out W13).mono ?_
    clear q0_13 q1_13 q2_13 q3_13 q4_13 q5_13 r0_13 r1_13 r2_13 r3_13 r4_13 r5_13
    rintro e W14 ⟨rfl, hF14⟩
    have HP14 := Lib.hid (HP13.out.fr0 hF14)
    have HQ14 := Lib.hid (HQ13.out.fr0 hF14)
    have HR14 := Lib.hid (HR13.out.fr0 hF14)
    have HS14 := Lib.hid (HS13.out.fr0 hF14)
    have HT14 := Lib.hid (HT13.out.fr0 hF14)
    have HF14 := Lib.hid (HF13.out.trans' hF14)
    clear hF14 HP13 HQ13 HR13 HS13 HT13 HF13
    obtain ⟨q0_14, q1_14, q2_14, q3_14, q4_14, q5_14⟩ := HQ14.out.cells
    obtain ⟨s0_14, s1_14, s2_14, s3_14, s4_14, s5_14⟩ := HS14.out.cells
    go_wp2_with fail
    refine (HQS.out W14).mono ?_
    clear q0_14 q1_14 q2_14 q3_14 q4_14 q5_14 s0_14 s1_14 s2_14 s3_14 s4_14 s5_14
    rintro e W15 ⟨rfl, hF15⟩
    have HP15 := Lib.hid (HP14.out.fr0 hF15)
    have HQ15 := Lib.hid (HQ14.out.fr0 hF15)
    have HR15 := Lib.hid (HR14.out.fr0 hF15)
    have HS15 := Lib.hid (HS14.out.fr0 hF15)
    have HT15 := Lib.hid (HT14.out.fr0 hF15)
    have HF15 := Lib.hid (HF14.out.trans' hF15)
    clear hF15 HP14 HQ14 HR14 HS14 HT14 HF14
    obtain ⟨q0_15, q1_15, q2_15, q3_15, q4_15, q5_15⟩ := HQ15.out.cells
    obtain ⟨t0_15, t1_15, t2_15, t3_15, t4_15, t5_15⟩ := HT15.out.cells
    go_wp2_with fail
    refine (HQT.out W15).mono ?_
    clear q0_15 q1_15 q2_15 q3_15 q4_15 q5_15 t0_15 t1_15 t2_15 t3_15 t4_15 t5_15
    rintro e W16 ⟨rfl, hF16⟩
    have HP16 := Lib.hid (HP15.out.fr0 hF16)
    have HQ16 := Lib.hid (HQ15.out.fr0 hF16)
    have HR16 := Lib.hid (HR15.out.fr0 hF16)
    have HS16 := Lib.hid (HS15.out.fr0 hF16)
    have HT16 := Lib.hid (HT15.out.fr0 hF16)
    have HF16 := Lib.hid (HF15.out.trans' hF16)
    clear hF16 HP15 HQ15 HR15 HS15 HT15 HF15
    obtain ⟨p0_16, p1_16, p2_16, p3_16, p4_16, p5_16⟩ := HP16.out.cells
    go_wp2_with fail
    refine (HPP.out W16).mono ?_
    clear p0_16 p1_16 p2_16 p3_16 p4_16 p5_16
    rintro e W17 ⟨rfl, hF17⟩
    have HP17 := Lib.hid (HP16.out.fr0 hF17)
    have HQ17 := Lib.hid (HQ16.out.fr0 hF17)
    have HR17 := Lib.hid (HR16.out.fr0 hF17)
    have HS17 := Lib.hid (HS16.out.fr0 hF17)
    have HT17 := Lib.hid (HT16.out.fr0 hF17)
    have HF17 := Lib.hid (HF16.out.trans' hF17)
    clear hF17 HP16 HQ16 HR16 HS16 HT16 HF16
    go_wp2
    go_ret
    exact ⟨rfl, HF17.out⟩
end Go.Proofs.Ytmnbihpcgkgebaa.Canon
