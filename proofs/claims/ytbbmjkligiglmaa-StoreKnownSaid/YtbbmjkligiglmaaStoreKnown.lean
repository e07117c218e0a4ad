/-
  StoreKnown walked.
-/
import Derived.Test.YtbbmjkligiglmaaStoreTwice
namespace Go.Proofs.Ytbbmjkligiglmaa.StoreL
open Go.RowKit Base _root_.Go.Proofs.Ytbbmjkligiglmaa.Tenant _root_.Go.Proofs.Ytbbmjkligiglmaa.Series _root_.Go.Proofs.Ytbbmjkligiglmaa.Agg _root_.Go.Proofs.Ytbbmjkligiglmaa.Store
open _root_.Go.Proofs.Ytbbmjkligiglmaa.Ord (Grown ptr Ent)

theorem kp0 : pushErr 2 2 ⟨#[98]⟩ [(2, 0), (1, 0)] [] = 5 ∧ pushSt 2 2 ⟨#[98]⟩ [(2, 0), (1, 0)] [] = [] := by decide +kernel
theorem kz0 : SizedS [(2, 0), (1, 0)] := fun q hq => by
  simp only [List.mem_cons, List.not_mem_nil, or_false] at hq
  rcases hq with rfl | rfl <;> exact ⟨⟨by decide, by decide⟩, ⟨by decide, by decide⟩⟩
theorem kp1 : pushErr 2 2 ⟨#[98]⟩ [(1, 1), (2, 2), (3, 3)] [] = 0 ∧ pushSt 2 2 ⟨#[98]⟩ [(1, 1), (2, 2), (3, 3)] [] = [(⟨#[98]⟩, [(2, 2), (3, 3)])] := by decide +kernel
theorem kz1 : SizedS [(1, 1), (2, 2), (3, 3)] := fun q hq => by
  simp only [List.mem_cons, List.not_mem_nil, or_false] at hq
  rcases hq with rfl | rfl | rfl <;> exact ⟨⟨by decide, by decide⟩, ⟨by decide, by decide⟩⟩
theorem kp2 : pushErr 2 2 ⟨#[97]⟩ [] [(⟨#[98]⟩, [(2, 2), (3, 3)])] = 0 ∧ pushSt 2 2 ⟨#[97]⟩ [] [(⟨#[98]⟩, [(2, 2), (3, 3)])] = [(⟨#[97]⟩, []), (⟨#[98]⟩, [(2, 2), (3, 3)])] := by decide +kernel
theorem kp3 : pushErr 2 2 ⟨#[99]⟩ [] [(⟨#[97]⟩, []), (⟨#[98]⟩, [(2, 2), (3, 3)])] = 6 ∧ pushSt 2 2 ⟨#[99]⟩ [] [(⟨#[97]⟩, []), (⟨#[98]⟩, [(2, 2), (3, 3)])] = [(⟨#[97]⟩, []), (⟨#[98]⟩, [(2, 2), (3, 3)])] := by decide +kernel
theorem kp4 : pushErr 2 2 ⟨#[98]⟩ [(4, 4), (4, 5)] [(⟨#[97]⟩, []), (⟨#[98]⟩, [(2, 2), (3, 3)])] = 5 ∧ pushSt 2 2 ⟨#[98]⟩ [(4, 4), (4, 5)] [(⟨#[97]⟩, []), (⟨#[98]⟩, [(2, 2), (3, 3)])] = [(⟨#[97]⟩, []), (⟨#[98]⟩, [(2, 2), (3, 3)])] := by decide +kernel
theorem kz4 : SizedS [(4, 4), (4, 5)] := fun q hq => by
  simp only [List.mem_cons, List.not_mem_nil, or_false] at hq
  rcases hq with rfl | rfl <;> exact ⟨⟨by decide, by decide⟩, ⟨by decide, by decide⟩⟩
theorem kq0 : queryErr ⟨#[98]⟩ [(⟨#[97]⟩, []), (⟨#[98]⟩, [(2, 2), (3, 3)])] = 0 ∧ queryOut ⟨#[98]⟩ 1 9 [(⟨#[97]⟩, []), (⟨#[98]⟩, [(2, 2), (3, 3)])] = ⟨2, 5, 2, 3, 3, false⟩ := ⟨by decide +kernel, by kernel_rfl⟩
theorem kq1 : queryErr ⟨#[97]⟩ [(⟨#[97]⟩, []), (⟨#[98]⟩, [(2, 2), (3, 3)])] = 0 ∧ queryOut ⟨#[97]⟩ 0 9 [(⟨#[97]⟩, []), (⟨#[98]⟩, [(2, 2), (3, 3)])] = ⟨0, 0, 0, 0, 0, false⟩ := ⟨by decide +kernel, by kernel_rfl⟩
theorem kq2 : queryErr ⟨#[99]⟩ [(⟨#[97]⟩, []), (⟨#[98]⟩, [(2, 2), (3, 3)])] = 8 ∧ queryOut ⟨#[99]⟩ 0 9 [(⟨#[97]⟩, []), (⟨#[98]⟩, [(2, 2), (3, 3)])] = ⟨0, 0, 0, 0, 0, false⟩ := ⟨by decide +kernel, by kernel_rfl⟩
set_option maxRecDepth 100000 in
set_option maxHeartbeats 8000000 in
theorem storeKnown_walk (w : World) : Calls Try.prog 3 #[] w fun e w' => e = .returned (.bool true) ∧ Fr0 w w' := by
  go_enter Try.func3, Try.ntmps3
  go_wp2_with fail
  refine (awake_any w).mono ?_
  rintro e u0 ⟨rfl, hF⟩
  have HG0 := Lib.hid hF
  clear hF
  go_wp2_with fail
  refine (pnew_bad 0 9 u0 ⟨by decide, by decide⟩ ⟨by decide, by decide⟩ (by decide)).mono ?_
  rintro e u1 ⟨rfl, hF⟩
  have HG1 := Lib.hid (HG0.out.trans' hF)
  clear hF HG0
  go_wp2_with fail
  refine (pnew_bad 17 9 u1 ⟨by decide, by decide⟩ ⟨by decide, by decide⟩ (by decide)).mono ?_
  rintro e u2 ⟨rfl, hF⟩
  have HG2 := Lib.hid (HG1.out.trans' hF)
  clear hF HG1
  go_wp2_with fail
  refine (pnew_bad 2 65 u2 ⟨by decide, by decide⟩ ⟨by decide, by decide⟩ (by decide)).mono ?_
  rintro e u3 ⟨rfl, hF⟩
  have HG3 := Lib.hid (HG2.out.trans' hF)
  clear hF HG2
  go_wp2_with fail
  refine (pnew_ok 2 2 u3 ⟨by decide, by decide⟩ ⟨by decide, by decide⟩).mono ?_
  rintro e v0 ⟨g, rfl, hP, hF⟩
  have HF0 := Lib.hid (HG3.out.trans' hF)
  have HP0 := Lib.hid hP
  have HO0 := Lib.hid (fun k (hk : u3.heap.size ≤ k ∧ k < v0.heap.size) => Nat.le_trans HG3.out.size hk.1)
  obtain ⟨O0, HP0, HO0⟩ : ∃ O0 : Nat → Prop, Hid (PAt O0 v0 g 2 2 []) ∧ Hid (∀ k, O0 k → w.heap.size ≤ k) := ⟨_, HP0, HO0⟩
  clear hP hF HG3
  have hl := pairs_lit v0 [(2, 0), (1, 0)] #[.int .i64 2, .int .i64 0, .int .i64 1, .int .i64 0] rfl 2 rfl 30 _ rfl
  have hfa : Fr0 v0 (v0.alloc (.cells #[.int .i64 2, .int .i64 0, .int .i64 1, .int .i64 0] 30)) := (Fr.refl _ _).alloc _
  have HFA := Lib.hid (HF0.out.trans' hfa)
  have hpush := ppush_any _ g 2 2 [] ⟨#[98]⟩ [(2, 0), (1, 0)] _ _ (HP0.out.fr hfa (fun _ _ _ f => f)) (by decide) (by decide) kz0 hl
  rw [kp0.1, kp0.2] at hpush
  clear hl hfa
  unfold ptr at *
  go_wp2_with fail
  refine hpush.mono ?_
  clear hpush
  rintro e v1 ⟨rfl, hF, hP⟩
  have HF1 : Hid (Fr0 w v1) := Lib.hid (grown_of HO0.out HFA.out hF)
  have HP1 := Lib.hid hP
  have HO1 := Lib.hid (fun k (hk : Grown O0 _ v1 k) => (by
    rcases hk with hk | ⟨hk, _⟩
    · exact HO0.out k hk
    · exact Nat.le_trans HFA.out.size hk : w.heap.size ≤ k))
  generalize Grown O0 _ v1 = O1 at *
  clear hF hP HF0 HP0 HO0 HFA
  have hl := pairs_lit v1 [(1, 1), (2, 2), (3, 3)] #[.int .i64 1, .int .i64 1, .int .i64 2, .int .i64 2, .int .i64 3, .int .i64 3] rfl 3 rfl 30 _ rfl
  have hfa : Fr0 v1 (v1.alloc (.cells #[.int .i64 1, .int .i64 1, .int .i64 2, .int .i64 2, .int .i64 3, .int .i64 3] 30)) := (Fr.refl _ _).alloc _
  have HFA := Lib.hid (HF1.out.trans' hfa)
  have hpush := ppush_any _ g 2 2 [] ⟨#[98]⟩ [(1, 1), (2, 2), (3, 3)] _ _ (HP1.out.fr hfa (fun _ _ _ f => f)) (by decide) (by decide) kz1 hl
  rw [kp1.1, kp1.2] at hpush
  clear hl hfa
  unfold ptr at *
  go_wp2_with fail
  refine hpush.mono ?_
  clear hpush
  rintro e v2 ⟨rfl, hF, hP⟩
  have HF2 : Hid (Fr0 w v2) := Lib.hid (grown_of HO1.out HFA.out hF)
  have HP2 := Lib.hid hP
  have HO2 := Lib.hid (fun k (hk : Grown O1 _ v2 k) => (by
    rcases hk with hk | ⟨hk, _⟩
    · exact HO1.out k hk
    · exact Nat.le_trans HFA.out.size hk : w.heap.size ≤ k))
  generalize Grown O1 _ v2 = O2 at *
  clear hF hP HF1 HP1 HO1 HFA
  have HFA := Lib.hid HF2.out
  have hpush := ppush_any _ g 2 2 [(⟨#[98]⟩, [(2, 2), (3, 3)])] ⟨#[97]⟩ [] (.slice none 0 0) v2 HP2.out (by decide) (by decide) sized_nil (pairs_nil _)
  rw [kp2.1, kp2.2] at hpush
  unfold ptr at *
  go_wp2_with fail
  refine hpush.mono ?_
  clear hpush
  rintro e v3 ⟨rfl, hF, hP⟩
  have HF3 : Hid (Fr0 w v3) := Lib.hid (grown_of HO2.out HFA.out hF)
  have HP3 := Lib.hid hP
  have HO3 := Lib.hid (fun k (hk : Grown O2 _ v3 k) => (by
    rcases hk with hk | ⟨hk, _⟩
    · exact HO2.out k hk
    · exact Nat.le_trans HFA.out.size hk : w.heap.size ≤ k))
  generalize Grown O2 _ v3 = O3 at *
  clear hF hP HF2 HP2 HO2 HFA
  have HFA := Lib.hid HF3.out
  have hpush := ppush_any _ g 2 2 [(⟨#[97]⟩, []), (⟨#[98]⟩, [(2, 2), (3, 3)])] ⟨#[99]⟩ [] (.slice none 0 0) v3 HP3.out (by decide) (by decide) sized_nil (pairs_nil _)
  rw [kp3.1, kp3.2] at hpush
  unfold ptr at *
  go_wp2_with fail
  refine hpush.mono ?_
  clear hpush
  rintro e v4 ⟨rfl, hF, hP⟩
  have HF4 : Hid (Fr0 w v4) := Lib.hid (grown_of HO3.out HFA.out hF)
  have HP4 := Lib.hid hP
  have HO4 := Lib.hid (fun k (hk : Grown O3 _ v4 k) => (by
    rcases hk with hk | ⟨hk, _⟩
    · exact HO3.out k hk
    · exact Nat.le_trans HFA.out.size hk : w.heap.size ≤ k))
  generalize Grown O3 _ v4 = O4 at *
  clear hF hP HF3 HP3 HO3 HFA
  have hl := pairs_lit v4 [(4, 4), (4, 5)] #[.int .i64 4, .int .i64 4, .int .i64 4, .int .i64 5] rfl 2 rfl 30 _ rfl
  have hfa : Fr0 v4 (v4.alloc (.cells #[.int .i64 4, .int .i64 4, .int .i64 4, .int .i64 5] 30)) := (Fr.refl _ _).alloc _
  have HFA := Lib.hid (HF4.out.trans' hfa)
  have hpush := ppush_any _ g 2 2 [(⟨#[97]⟩, []), (⟨#[98]⟩, [(2, 2), (3, 3)])] ⟨#[98]⟩ [(4, 4), (4, 5)] _ _ (HP4.out.fr hfa (fun _ _ _ f => f)) (by decide) (by decide) kz4 hl
  rw [kp4.1, kp4.2] at hpush
  clear hl hfa
  unfold ptr at *
  go_wp2_with fail
  refine hpush.mono ?_
  clear hpush
  rintro e v5 ⟨rfl, hF, hP⟩
  have HF5 : Hid (Fr0 w v5) := Lib.hid (grown_of HO4.out HFA.out hF)
  have HP5 := Lib.hid hP
  have HO5 := Lib.hid (fun k (hk : Grown O4 _ v5 k) => (by
    rcases hk with hk | ⟨hk, _⟩
    · exact HO4.out k hk
    · exact Nat.le_trans HFA.out.size hk : w.heap.size ≤ k))
  generalize Grown O4 _ v5 = O5 at *
  clear hF hP HF4 HP4 HO4 HFA
  have hq := pquery_any _ g 2 2 [(⟨#[97]⟩, []), (⟨#[98]⟩, [(2, 2), (3, 3)])] ⟨#[98]⟩ 1 9 _ HP5.out ⟨by decide, by decide⟩ ⟨by decide, by decide⟩
  rw [kq0.1, kq0.2, show a6 ⟨2, 5, 2, 3, 3, false⟩ = #[.int .i64 2, .int .i64 5, .int .i64 2, .int .i64 3, .int .i64 3, .bool false] from rfl] at hq
  unfold ptr at *
  go_wp2_with fail
  refine hq.mono ?_
  clear hq
  rintro e q0 ⟨rfl, hF⟩
  have hfa : Fr0 q0 (q0.alloc (.cells #[.int .i64 2, .int .i64 5, .int .i64 2, .int .i64 3, .int .i64 3, .bool false] 33)) := (Fr.refl _ _).alloc _
  have HFQ0 := Lib.hid (HF5.out.trans' (hF.trans' hfa))
  have HPQ0 := Lib.hid ((HP5.out.fr hF (fun _ _ _ f => f)).fr hfa (fun _ _ _ f => f))
  have HB0 := Lib.hid (Bx.new 33 q0 ⟨2, 5, 2, 3, 3, false⟩)
  clear hF hfa HF5 HP5
  have hq := pquery_any _ g 2 2 [(⟨#[97]⟩, []), (⟨#[98]⟩, [(2, 2), (3, 3)])] ⟨#[97]⟩ 0 9 _ HPQ0.out ⟨by decide, by decide⟩ ⟨by decide, by decide⟩
  rw [kq1.1, kq1.2, show a6 ⟨0, 0, 0, 0, 0, false⟩ = #[.int .i64 0, .int .i64 0, .int .i64 0, .int .i64 0, .int .i64 0, .bool false] from rfl] at hq
  unfold ptr at *
  go_wp2_with fail
  refine hq.mono ?_
  clear hq
  rintro e q1 ⟨rfl, hF⟩
  have hfa : Fr0 q1 (q1.alloc (.cells #[.int .i64 0, .int .i64 0, .int .i64 0, .int .i64 0, .int .i64 0, .bool false] 33)) := (Fr.refl _ _).alloc _
  have HFQ1 := Lib.hid (HFQ0.out.trans' (hF.trans' hfa))
  have HPQ1 := Lib.hid ((HPQ0.out.fr hF (fun _ _ _ f => f)).fr hfa (fun _ _ _ f => f))
  have HB1 := Lib.hid (Bx.new 33 q1 ⟨0, 0, 0, 0, 0, false⟩)
  have HB0 := Lib.hid (HB0.out.fr0 (hF.trans' hfa))
  clear hF hfa HFQ0 HPQ0
  have hq := pquery_any _ g 2 2 [(⟨#[97]⟩, []), (⟨#[98]⟩, [(2, 2), (3, 3)])] ⟨#[99]⟩ 0 9 _ HPQ1.out ⟨by decide, by decide⟩ ⟨by decide, by decide⟩
  rw [kq2.1, kq2.2, show a6 ⟨0, 0, 0, 0, 0, false⟩ = #[.int .i64 0, .int .i64 0, .int .i64 0, .int .i64 0, .int .i64 0, .bool false] from rfl] at hq
  unfold ptr at *
  go_wp2_with fail
  refine hq.mono ?_
  clear hq
  rintro e q2 ⟨rfl, hF⟩
  have hfa : Fr0 q2 (q2.alloc (.cells #[.int .i64 0, .int .i64 0, .int .i64 0, .int .i64 0, .int .i64 0, .bool false] 33)) := (Fr.refl _ _).alloc _
  have HFQ2 := Lib.hid (HFQ1.out.trans' (hF.trans' hfa))
  have HPQ2 := Lib.hid ((HPQ1.out.fr hF (fun _ _ _ f => f)).fr hfa (fun _ _ _ f => f))
  have HB2 := Lib.hid (Bx.new 33 q2 ⟨0, 0, 0, 0, 0, false⟩)
  have HB0 := Lib.hid (HB0.out.fr0 (hF.trans' hfa))
  have HB1 := Lib.hid (HB1.out.fr0 (hF.trans' hfa))
  clear hF hfa HFQ1 HPQ1
  have hn := pnames_any _ g 2 2 [(⟨#[97]⟩, []), (⟨#[98]⟩, [(2, 2), (3, 3)])] _ HPQ2.out
  unfold ptr at *
  go_wp2_with fail
  generalize q0.heap.size = g0 at *
  generalize q1.heap.size = g1 at *
  generalize q2.heap.size = g2 at *
  refine hn.mono ?_
  clear hn
  rintro e z0 ⟨v, rfl, hs, hF⟩
  obtain ⟨na, nc, nb, no, rfl, hle, hna, hnc⟩ := hs
  have hna := hna (by decide)
  subst hna
  have y0 : z0.cell? ⟨nb, no, none⟩ = some (.string ⟨#[97]⟩) := hnc 0 (by decide)
  have HFZ := Lib.hid (HFQ2.out.trans' hF)
  have HPZ := Lib.hid (HPQ2.out.fr hF (fun _ _ _ f => f))
  obtain ⟨x0, -, x2, -, -, -⟩ := (HB0.out.fr0 hF).cells
  have HB1 := Lib.hid (HB1.out.fr0 hF)
  have heq := fun w => eq_go ⟨0, 0, 0, 0, 0, false⟩ w
  have hsb := psamples_any _ g 2 2 [(⟨#[97]⟩, []), (⟨#[98]⟩, [(2, 2), (3, 3)])] ⟨#[98]⟩ _ HPZ.out
  rw [show wasS ⟨#[98]⟩ [(⟨#[97]⟩, []), (⟨#[98]⟩, [(2, 2), (3, 3)])] = [(2, 2), (3, 3)] by decide +kernel] at hsb
  clear hF hle hnc HB0 HB2 HFQ2 HPQ2
  unfold ptr at *
  simp only [List.map_cons, List.map_nil, List.length_cons, List.length_nil, Nat.zero_add, Nat.reduceAdd]
  go_wp2_with (first
    | (refine wpList_load_row_g rfl 33 (.tmp 16) rfl g1 rfl 33 _ (0, 0) _ HB1.out.heap Try.underlying33 rfl infoG ?_))
  refine hsb.mono ?_
  clear hsb
  rintro e z1 ⟨vb, rfl, hp, hF⟩
  obtain ⟨Ab, Cb, rfl⟩ := pairs_form hp
  have HFY := Lib.hid (HFZ.out.trans' hF)
  have HPY := Lib.hid (HPZ.out.fr hF (fun _ _ _ f => f))
  have hsz := psamples_any _ g 2 2 [(⟨#[97]⟩, []), (⟨#[98]⟩, [(2, 2), (3, 3)])] ⟨#[122, 122]⟩ _ HPY.out
  rw [show wasS ⟨#[122, 122]⟩ [(⟨#[97]⟩, []), (⟨#[98]⟩, [(2, 2), (3, 3)])] = [] by decide +kernel] at hsz
  clear hp hF y0 x0 x2 HB1 heq HFZ HPZ
  unfold ptr at *
  simp only [List.length_cons, List.length_nil, Nat.zero_add, Nat.reduceAdd]
  go_wp2_with fail
  refine hsz.mono ?_
  clear hsz
  rintro e z2 ⟨vz, rfl, hp, hF⟩
  obtain ⟨Az, Cz, rfl⟩ := pairs_form hp
  have HFX := Lib.hid (HFY.out.trans' hF)
  have HPX := Lib.hid (HPY.out.fr hF (fun _ _ _ f => f))
  have hlen := plen_any _ g 2 2 [(⟨#[97]⟩, []), (⟨#[98]⟩, [(2, 2), (3, 3)])] _ HPX.out
  rw [show lenS [(⟨#[97]⟩, []), (⟨#[98]⟩, [(2, 2), (3, 3)])] = 2 by decide +kernel] at hlen
  clear hp hF HFY HPY
  unfold ptr at *
  simp only [List.length_cons, List.length_nil, Nat.zero_add, Nat.reduceAdd]
  go_wp2_with fail
  refine hlen.mono ?_
  clear hlen
  rintro e z3 ⟨rfl, hF⟩
  have HFV := Lib.hid (HFX.out.trans' hF)
  clear hF HFX HPX
  go_wp2
  go_ret
  exact ⟨rfl, HFV.out⟩
end Go.Proofs.Ytbbmjkligiglmaa.StoreL
