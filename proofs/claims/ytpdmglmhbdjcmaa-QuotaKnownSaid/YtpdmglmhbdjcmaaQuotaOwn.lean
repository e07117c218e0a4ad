/-
  The laws' own; two quotas alike.
-/
import Derived.Test.YtpdmglmhbdjcmaaQuotaRef
namespace Go.Proofs.Ytpdmglmhbdjcmaa.QuotaL
open Go.RowKit Base _root_.Go.Proofs.Ytpdmglmhbdjcmaa.Quota

theorem infoP : (Try.prog.info? 24).map (·.size) = some 4 := by kernel_rfl
set_option maxHeartbeats 2000000 in
theorem own_any (q : Qt) (w : World) :
    Calls Try.prog 14 #[.agg (q4 q)] w fun e w' => e = .returned (.agg (q4 q)) ∧ Fr0 w w' := by
  have hb : Bx 33 ((w.alloc (.cells #[.int .i64 q.o, .int .i64 q.e, .int .i64 q.l, .int .i64 q.a] 24)).alloc (.cells #[.int .i64 q.o, .int .i64 q.e, .int .i64 q.l, .int .i64 q.a] 33)) (w.heap.size + 1) q := by
    have h := Bx.new 33 (w.alloc (.cells #[.int .i64 q.o, .int .i64 q.e, .int .i64 q.l, .int .i64 q.a] 24)) q
    rw [World.size_alloc] at h
    exact h
  have HB := Lib.hid hb
  clear hb
  rw [show q4 q = #[.int .i64 q.o, .int .i64 q.e, .int .i64 q.l, .int .i64 q.a] from rfl]
  go_enter Try.func14, Try.ntmps14
  go_wp2
  exact bodyPost_ret (res1 rfl Try.underlying33 rfl infoR _ rfl HB.out) rfl ⟨rfl, ((Fr.refl _ _).alloc _).alloc _⟩
end Go.Proofs.Ytpdmglmhbdjcmaa.QuotaL
