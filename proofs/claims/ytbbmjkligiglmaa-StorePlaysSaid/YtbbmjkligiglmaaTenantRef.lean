/-
  The reference's in, GoodTenant, All.
-/
import Derived.Test.YtbbmjkligiglmaaTenantMem
import Derived.Test.YtbbmjkligiglmaaChecked
import Derived.WalkKit
import Derived.KernelRfl
import Derived.BigQuiet
namespace Go.Proofs.Ytbbmjkligiglmaa.Tenant
open Go.RowKit Base

set_option maxHeartbeats 1000000 in
theorem rin_any (v lo hi : Int) (w : World) :
    Calls Try.prog 44 #[.int .i64 v, .int .i64 lo, .int .i64 hi] w fun e w' => e = .returned (.bool (inn v lo hi)) ∧ w = w' := by
  by_cases h1 : lo ≤ v
  · by_cases h2 : v ≤ hi
    · have HD : Hid (inn v lo hi = true) := Lib.hid (decide_eq_true ⟨h1, h2⟩)
      go_enter Try.func44, Try.ntmps44
      go_wp2
      go_ret
      exact ⟨by rw [HD.out]; rfl, rfl⟩
    · have HD : Hid (inn v lo hi = false) := Lib.hid (decide_eq_false (fun h => h2 h.2))
      go_enter Try.func44, Try.ntmps44
      go_wp2
      go_ret
      exact ⟨by rw [HD.out]; rfl, rfl⟩
  · have HD : Hid (inn v lo hi = false) := Lib.hid (decide_eq_false (fun h => h1 h.1))
    go_enter Try.func44, Try.ntmps44
    go_wp2
    go_ret
    exact ⟨by rw [HD.out]; rfl, rfl⟩
end Go.Proofs.Ytbbmjkligiglmaa.Tenant
