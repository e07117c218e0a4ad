/-
  The walk of hold's piece.
-/
import Derived.Test.YtkdpdbjefehmpaaProg
import Derived.Test.YtkdpdbjefehmpaaMix
import Derived.Test.YtkdpdbjefehmpaaAreIO
import Derived.Test.YtkdpdbjefehmpaaBlkGive
import Derived.Maps.RangeWalk
namespace Go.Proofs.Ytkdpdbjefehmpaa.Hold
open Go.RowKit Base

def PiecePost (size k : Nat) (w : World) (e : Ending) (w' : World) : Prop := e = .returned (.tuple #[.int .i64 ((k : Int) * 32), .int .i64 ((min 32 (size - 32 * k) : Nat) : Int)]) ∧ Fr0 w w'
set_option maxRecDepth 100000 in
set_option maxHeartbeats 2000000 in
theorem piece_any (A : Option Addr) (n c : Nat) (size k : Nat) (hs : size ≤ 65536) (hk : 32 * k ≤ size) (w : World) :
    Calls Try.prog 30 #[.agg #[.slice A n c, .int .i64 (size : Int)], .int .i64 (k : Int)] w (PiecePost size k w) := by
  have HF := Lib.hid ((Fr.refl (fun _ => False) w).alloc (.cells #[.slice A n c, .int .i64 (size : Int)] 76))
  by_cases hlt : (size : Int) - 32 * (k : Int) < 32
  · have HE : Hid (((min 32 (size - 32 * k) : Nat) : Int) = (size : Int) - (k : Int) * 32) := Lib.hid (by omega)
    go_enter Try.func30, Try.ntmps30
    go_wp2
    refine Mix.law (fun _ => True) [(.sure, 0), (.sure, 1), (.look, 2), (.sure, 3), (.sure, 4), (.sure, 5), (.sure, 6), (.sure, 7)] (by kernel_rfl) (by kernel_rfl) trivial ?_
    simp only [List.map_cons, List.map_nil, Mix.nth_zero, Mix.nth_succ]
    repeat (first
      | (refine Mix.go_skipS (by exact Mix.wanted_no rfl rfl rfl rfl) ?_; go_frame)
      | (refine Mix.go_skipL (by exact Mix.wanted_no rfl rfl rfl rfl) ?_; go_frame)
      | (refine Mix.go_move (by first | exact Mix.wanted_none rfl | exact Mix.wanted_yes rfl rfl rfl) _ rfl _ (by first | (go_simp; done) | (go_simp; rfl)) ?_; go_frame)
      | (refine Mix.go_assign (by first | exact Mix.wanted_none rfl | exact Mix.wanted_yes rfl rfl rfl) _ rfl _ (by first | (go_simp; done) | (go_simp; rfl)) ?_; go_frame)
      | (refine Mix.go_sureW (by first | exact Mix.wanted_none rfl | exact Mix.wanted_yes rfl rfl rfl) _ (by rfl) (by rfl) _ (fun w' hC' => by go_wp2_with fail; refine Mix.stays ?_; go_frame; rfl) ?_; go_frame)
      | (refine Mix.go_lookW (by first | exact Mix.wanted_none rfl | exact Mix.wanted_yes rfl rfl rfl) _ (by rfl) (by rfl) _ (by go_wp2_with fail; refine Mix.stays ?_; go_frame; rfl) ?_; go_frame))
    refine Mix.go_end ?_
    go_wp2
    go_ret2
    exact ⟨by rw [HE.out]; rfl, HF.out.drew⟩
  · have HE : Hid (((min 32 (size - 32 * k) : Nat) : Int) = 32) := Lib.hid (by omega)
    have hne : ¬ (size : Int) - 32 * (k : Int) < 32 := hlt
    go_enter Try.func30, Try.ntmps30
    go_wp2
    refine Mix.law (fun _ => True) [(.sure, 0), (.sure, 1), (.look, 2), (.sure, 3), (.sure, 4), (.sure, 5), (.sure, 6), (.sure, 7)] (by kernel_rfl) (by kernel_rfl) trivial ?_
    simp only [List.map_cons, List.map_nil, Mix.nth_zero, Mix.nth_succ]
    repeat (first
      | (refine Mix.go_skipS (by exact Mix.wanted_no rfl rfl rfl rfl) ?_; go_frame)
      | (refine Mix.go_skipL (by exact Mix.wanted_no rfl rfl rfl rfl) ?_; go_frame)
      | (refine Mix.go_move (by first | exact Mix.wanted_none rfl | exact Mix.wanted_yes rfl rfl rfl) _ rfl _ (by first | (go_simp; done) | (go_simp; rfl)) ?_; go_frame)
      | (refine Mix.go_assign (by first | exact Mix.wanted_none rfl | exact Mix.wanted_yes rfl rfl rfl) _ rfl _ (by first | (go_simp; done) | (go_simp; rfl)) ?_; go_frame)
      | (refine Mix.go_sureW (by first | exact Mix.wanted_none rfl | exact Mix.wanted_yes rfl rfl rfl) _ (by rfl) (by rfl) _ (fun w' hC' => by go_wp2_with fail; refine Mix.stays ?_; go_frame; rfl) ?_; go_frame)
      | (refine Mix.go_lookW (by first | exact Mix.wanted_none rfl | exact Mix.wanted_yes rfl rfl rfl) _ (by rfl) (by rfl) _ (by go_wp2_with fail; refine Mix.stays ?_; go_frame; rfl) ?_; go_frame))
    refine Mix.go_end ?_
    go_wp2
    go_ret2
    exact ⟨by rw [HE.out]; rfl, HF.out.drew⟩
end Go.Proofs.Ytkdpdbjefehmpaa.Hold
