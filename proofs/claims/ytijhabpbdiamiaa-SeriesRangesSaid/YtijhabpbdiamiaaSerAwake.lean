/-
  awake.
-/
import Derived.Test.YtijhabpbdiamiaaSerGo
import Derived.Test.YtijhabpbdiamiaaSerOwn
namespace Go.Proofs.Ytijhabpbdiamiaa.SeriesL
open Go.RowKit Base _root_.Go.Proofs.Ytijhabpbdiamiaa.Series

theorem infoP : (Try.prog.info? 24).map (fun i => (i.zero, i.size, i.bytes)) = some (some (.agg #[.int .i64 0, .int .i64 0]), 2, 16) := by kernel_rfl
theorem sized_one (a b : Int) (ha : -9223372036854775808 ≤ a ∧ a ≤ 9223372036854775807) (hb : -9223372036854775808 ≤ b ∧ b ≤ 9223372036854775807) : SizedS [(a, b)] := fun q h => by
  simp only [List.mem_singleton] at h
  subst h
  exact ⟨ha, hb⟩
theorem five : addErr [] [(5, 1)] 9 = 0 ∧ addOut [] [(5, 1)] 9 = [(5, 1)] := by decide
theorem fives : addErr [(5, 1)] [(5, 2)] 9 = 8 := by decide
set_option maxRecDepth 100000 in
set_option maxHeartbeats 8000000 in
theorem awake_any (w : World) : Calls Try.prog 8 #[] w fun e w' => e = .returned (.bool true) ∧ Fr0 w w' := by
  have HF0 : Hid (Fr0 w (w.alloc (.cells #[.int .i64 5, .int .i64 1] 24))) := Lib.hid ((Fr.refl _ _).alloc _)
  have h1 := pairs_lit w [(5, 1)] #[.int .i64 5, .int .i64 1] rfl 1 rfl 24 _ rfl
  go_enter Try.func8, Try.ntmps8
  have hk := padd_any (.slice none 0 0) _ [] [(5, 1)] 9 (by decide) (by decide) sized_nil (sized_one 5 1 (by decide) (by decide)) (by decide) _ (pairs_nil _) h1
  go_wp2_with fail
  refine hk.mono ?_
  clear hk h1
  rintro e w1 ⟨v1, rfl, hP, hF⟩
  rw [five.1, five.2] at *
  obtain ⟨A, C, rfl⟩ := pairs_form hP
  have HF1 := Lib.hid (HF0.out.trans' hF)
  have HF2 := Lib.hid (HF1.out.alloc (.cells #[.int .i64 5, .int .i64 2] 24))
  have h2 := pairs_lit w1 [(5, 2)] #[.int .i64 5, .int .i64 2] rfl 1 rfl 24 _ rfl
  have hk := padd_any _ _ [(5, 1)] [(5, 2)] 9 (by decide) (by decide) (sized_one 5 1 (by decide) (by decide)) (sized_one 5 2 (by decide) (by decide)) (by decide) _ (hP.fr0 ((Fr.refl _ _).alloc _)) h2
  simp only [List.length_cons, List.length_nil, Nat.zero_add] at hk
  clear hF hP h2
  go_wp2_with fail
  refine hk.mono ?_
  clear hk
  rintro e w2 ⟨v2, rfl, hP, hF⟩
  rw [fives] at *
  have HF3 := Lib.hid (HF2.out.trans' hF)
  obtain ⟨A2, C2, rfl⟩ := pairs_form hP
  clear hF hP
  go_wp2
  go_ret
  exact ⟨rfl, HF3.out⟩
end Go.Proofs.Ytijhabpbdiamiaa.SeriesL
