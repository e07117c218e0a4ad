/-
  The walks of bits.RotateLeft32, turned and the hasher's schedule: what each call answers, and what becomes of the world.
-/
import Derived.Test.YteafnknghnhlgaaDoorProg
import Derived.Test.YteafnknghnhlgaaDoorShaSpec
import Derived.Test.YteafnknghnhlgaaDoorBase
import Derived.Deep.QuietTactic
import Derived.BigQuiet
namespace Go.Proofs.YteafnknghnhlgaaDoor.Sha
open Go.RowKit Base

set_option maxHeartbeats 400000 in
theorem rot_any (x k : Int) (m : Nat) (hx : 0 ≤ x) (hx2 : x < 4294967296) (hm : bits BinOp.and IntKind.u64 (IntKind.u64.wrap k) 31 = (m : Int)) (hm1 : m ≤ 31) (w : World) :
    Calls Tryd.prog 43 #[.int .u32 x, .int .i64 k] w fun e w' => e = .returned (.int .u32 (rl x m)) ∧ w = w' := by
  go_enter Tryd.func43, Tryd.ntmps43
  go_wp2
  go_ret
  refine ⟨?_, rfl⟩
  unfold rl
  simp

set_option maxHeartbeats 400000 in
theorem turned1 (x : Int) (hx : 0 ≤ x) (hx2 : x < 4294967296) (w : World) :
    Calls Tryd.prog 42 #[.int .u32 x, .int .i64 6, .int .i64 11, .int .i64 25] w fun e w' => e = .returned (.int .u32 (up1 x)) ∧ w = w' := by
  go_enter Tryd.func42, Tryd.ntmps42
  go_wp2_with fail
  refine (rot_any x (-6) 26 hx hx2 (by decide) (by decide) _).mono ?_
  rintro e w' ⟨rfl, rfl⟩
  go_wp2_with fail
  refine (rot_any x (-11) 21 hx hx2 (by decide) (by decide) _).mono ?_
  rintro e w' ⟨rfl, rfl⟩
  go_wp2_with fail
  refine (rot_any x (-25) 7 hx hx2 (by decide) (by decide) _).mono ?_
  rintro e w' ⟨rfl, rfl⟩
  go_wp2
  go_ret
  exact ⟨rfl, rfl⟩
set_option maxHeartbeats 400000 in
theorem turned0 (x : Int) (hx : 0 ≤ x) (hx2 : x < 4294967296) (w : World) :
    Calls Tryd.prog 42 #[.int .u32 x, .int .i64 2, .int .i64 13, .int .i64 22] w fun e w' => e = .returned (.int .u32 (up0 x)) ∧ w = w' := by
  go_enter Tryd.func42, Tryd.ntmps42
  go_wp2_with fail
  refine (rot_any x (-2) 30 hx hx2 (by decide) (by decide) _).mono ?_
  rintro e w' ⟨rfl, rfl⟩
  go_wp2_with fail
  refine (rot_any x (-13) 19 hx hx2 (by decide) (by decide) _).mono ?_
  rintro e w' ⟨rfl, rfl⟩
  go_wp2_with fail
  refine (rot_any x (-22) 10 hx hx2 (by decide) (by decide) _).mono ?_
  rintro e w' ⟨rfl, rfl⟩
  go_wp2
  go_ret
  exact ⟨rfl, rfl⟩
end Go.Proofs.YteafnknghnhlgaaDoor.Sha
