/-
  awake.
-/
import Derived.Test.YtbbmjkligiglmaaStoreGo
import Derived.Test.YtbbmjkligiglmaaStoreOwn
import Derived.Test.YtbbmjkligiglmaaAggRefO
namespace Go.Proofs.Ytbbmjkligiglmaa.StoreL
open Go.RowKit Base _root_.Go.Proofs.Ytbbmjkligiglmaa.Tenant _root_.Go.Proofs.Ytbbmjkligiglmaa.Series _root_.Go.Proofs.Ytbbmjkligiglmaa.Agg _root_.Go.Proofs.Ytbbmjkligiglmaa.Store
open _root_.Go.Proofs.Ytbbmjkligiglmaa.Ord (Grown ptr Ent)

theorem infoG : (Try.prog.info? 33).map (·.size) = some 6 := by kernel_rfl
theorem infoG1 : (Try.prog.info? 33).map (fun i => (i.zero, i.size)) = some (some (.agg #[.int .i64 0, .int .i64 0, .int .i64 0, .int .i64 0, .int .i64 0, .bool false]), 6) := by kernel_rfl
/-- nothing of one's own has been turned, nor has anything else that was there -/
theorem grown_of {w w1 : World} {O : Nat → Prop} (hO : ∀ k, O k → w.heap.size ≤ k) {w2 : World} (h : Fr0 w w1) (k : Fr O w1 w2) : Fr0 w w2 := Fr.trans h k (fun i hi hx => by have := hO i hx; omega)
theorem a_push : pushErr 2 9 ⟨#[97]⟩ [(1, 5)] [] = 0 ∧ pushSt 2 9 ⟨#[97]⟩ [(1, 5)] [] = [(⟨#[97]⟩, [(1, 5)])] := by decide +kernel
theorem a_query : queryErr ⟨#[97]⟩ [(⟨#[97]⟩, [(1, 5)])] = 0 ∧ queryOut ⟨#[97]⟩ 0 9 [(⟨#[97]⟩, [(1, 5)])] = ⟨1, 5, 5, 5, 5, false⟩ := ⟨by decide +kernel, by kernel_rfl⟩
set_option maxRecDepth 100000 in
set_option maxHeartbeats 8000000 in
theorem awake_any (w : World) : Calls Try.prog 7 #[] w fun e w' => e = .returned (.bool true) ∧ Fr0 w w' := by
  have HN := Lib.hid (pnew_ok 2 9 w ⟨by decide, by decide⟩ ⟨by decide, by decide⟩)
  go_enter Try.func7, Try.ntmps7
  go_wp2_with fail
  refine HN.out.mono ?_
  rintro e w1 ⟨g, rfl, hP, hF1⟩
  have HF1 := Lib.hid hF1
  have HA1 : Hid (Fr0 w (w1.alloc (.cells #[.int .i64 1, .int .i64 5] 30))) := Lib.hid (hF1.alloc _)
  have hl := pairs_lit w1 [(1, 5)] #[.int .i64 1, .int .i64 5] rfl 1 rfl 30 _ rfl
  have hpush := ppush_any _ g 2 9 [] ⟨#[97]⟩ [(1, 5)] _ _ (hP.fr ((Fr.refl (fun _ => False) w1).alloc (.cells #[.int .i64 1, .int .i64 5] 30)) (fun _ _ _ f => f)) (by decide) (by decide) (fun q hq => by
    simp only [List.mem_singleton] at hq
    subst hq
    exact ⟨⟨by decide, by decide⟩, ⟨by decide, by decide⟩⟩) hl
  rw [a_push.1, a_push.2] at hpush
  clear HN hl hP hF1
  unfold ptr at *
  go_wp2_with fail
  refine hpush.mono ?_
  clear hpush
  rintro e w2 ⟨rfl, hF2, hP2⟩
  have HF2 : Hid (Fr0 w w2) := Lib.hid (grown_of (fun k hk => hk.1) HA1.out hF2)
  have hq := pquery_any _ g 2 9 _ ⟨#[97]⟩ 0 9 w2 hP2 ⟨by decide, by decide⟩ ⟨by decide, by decide⟩
  rw [a_query.1, a_query.2] at hq
  rw [show a6 ⟨1, 5, 5, 5, 5, false⟩ = #[.int .i64 1, .int .i64 5, .int .i64 5, .int .i64 5, .int .i64 5, .bool false] from rfl] at hq
  clear hF2 hP2 HF1 HA1
  unfold ptr at *
  go_wp2_with fail
  refine hq.mono ?_
  clear hq
  rintro e w3 ⟨rfl, hF3⟩
  have HF3 := Lib.hid (HF2.out.trans' hF3)
  clear hF3 HF2
  go_wp2
  go_ret
  exact ⟨rfl, HF3.out.alloc _⟩
end Go.Proofs.Ytbbmjkligiglmaa.StoreL
