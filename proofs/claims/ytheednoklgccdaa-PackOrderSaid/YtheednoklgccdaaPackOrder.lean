/-
  PackOrder: numbers are in order just as their bytes are: the walk.
-/
import Derived.Test.YtheednoklgccdaaPackOrderR
namespace Go.Proofs.Ytheednoklgccdaa.Pack
open Go.RowKit Base Ph

theorem cut_str (l : List UInt8) (n : Nat) (h : n ≤ l.length) (x : Int) (hx : x = (n : Int)) (w : World) : (Instr.sliceAt 9 (.string ⟨l.toArray⟩) (some (.int .i64 x)) none none).run Try.prog w = .ok (.string ⟨(l.drop n).toArray⟩) w := by
  subst hx
  rw [run_sliceAt_string w _ _ _ _ _ Try.underlying9, run_slice_string_l w _ _ Try.underlying9 .i64 (n : Int) (by omega) (by rw [size_str]; omega), Int.toNat_natCast, size_str, str_drop]
set_option maxHeartbeats 2000000 in
set_option maxRecDepth 100000 in
theorem packOrder_walk (x y : Nat) (hx : x < 18446744073709551616) (hy : y < 18446744073709551616) (w : World) :
    Calls Try.prog 7 #[.int .u64 (x : Int), .int .u64 (y : Int)] w fun e w' => e = .returned (.bool true) ∧ Fr0 w w' := by
  go_enter Try.func7, Try.ntmps7
  go_wp2_with fail
  refine (awake_any w).mono ?_
  rintro e w1 ⟨rfl, hF1⟩
  have HF1 := Lib.hid hF1
  clear hF1
  go_wp2
  refine pa_region (x := x) (y := y) ⟨rfl, rfl, rfl, hx, hy⟩ trivial ?_
  intro vals w2 hG2 _ hv
  have HF2 := Lib.hid (HF1.out.trans' hG2.fr)
  have h5 : vals 5 = .string ⟨(be 8 x).toArray⟩ := hv 5 (List.contains_iff_mem.1 (by kernel_rfl))
  have h6 : vals 6 = .string ⟨(be 8 y).toArray⟩ := hv 6 (List.contains_iff_mem.1 (by kernel_rfl))
  clear hv hG2
  rw [show dsts paOps = [9, 10, 11, 12, 13, 14, 5, 6] by kernel_rfl]
  simp only [frm, List.mapIdx_toArray, List.mapIdx_cons, List.mapIdx_nil, Nat.zero_add, Nat.reduceAdd, List.contains_cons, List.contains_nil, Nat.reduceBEq, Bool.or_false, Bool.false_or, Bool.or_true, Bool.true_or, Bool.or_self, Bool.false_eq_true, if_true, if_false, h5, h6]
  clear h5 h6
  have hsz : (⟨(be 8 x).toArray⟩ : ByteArray).size = 8 := by rw [size_str, be_length]
  have HD4 : Hid ((be 8 x).drop 4 = be 4 (x % 4294967296)) := Lib.hid (be_drop 4 4 x)
  have HD2 : Hid ((be 8 x).drop 6 = be 2 (x % 65536)) := Lib.hid (be_drop 6 2 x)
  have HD1 : Hid ((be 8 x).drop 7 = be 1 (x % 256)) := Lib.hid (be_drop 7 1 x)
  go_wp2
  refine po_region (x := x) (y := y) ⟨rfl, rfl, rfl, rfl, rfl, hx, hy, fun _ _ _ _ _ => rfl, cut_str _ 4 (by rw [be_length]; decide) 4 rfl, cut_str _ 6 (by rw [be_length]; decide) 6 rfl, cut_str _ 7 (by rw [be_length]; decide) 7 rfl, HD4.out, HD2.out, HD1.out⟩ trivial ?_
  intro a' w10 hG10 _ hdf h0
  have hF : Fr0 w w10 := HF2.out.trans' hG10.fr
  go_wp2
  exact bodyPost_ret (results_tmp rfl a'.tmps Try.prog w10) hdf ⟨congrArg Ending.returned h0, hF⟩
theorem packOrder_int (x : Int) (hx : 0 ≤ x ∧ x ≤ 18446744073709551615) (y : Int) (hy : 0 ≤ y ∧ y ≤ 18446744073709551615) (w : World) :
    Calls Try.prog 7 #[.int .u64 x, .int .u64 y] w fun e w' => e = .returned (.bool true) ∧ Fr0 w w' := by
  obtain ⟨x', rfl⟩ := Int.eq_ofNat_of_zero_le hx.1
  obtain ⟨y', rfl⟩ := Int.eq_ofNat_of_zero_le hy.1
  exact packOrder_walk x' y' (by omega) (by omega) w
end Go.Proofs.Ytheednoklgccdaa.Pack
