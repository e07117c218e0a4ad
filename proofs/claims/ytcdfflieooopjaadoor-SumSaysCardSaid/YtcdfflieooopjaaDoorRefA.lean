/-
  The reference's small functions: right, round, num, U.
-/
import Derived.Test.YtcdfflieooopjaaDoorShaOf
import Derived.Test.YtcdfflieooopjaaDoorAppend
import Derived.Test.YtcdfflieooopjaaDoorHeld
namespace Go.Proofs.YtcdfflieooopjaaDoor.Sha
open Go.RowKit Base

theorem bits_or_comm (a b : Int) : bits .or .u32 a b = bits .or .u32 b a := by
  unfold bits
  simp only [BitVec.or_comm]
set_option maxHeartbeats 400000 in
theorem right_any (x : Int) (n : Nat) (hx : 0 ≤ x) (hx2 : x < 4294967296) (hn : 1 ≤ n) (hn2 : n ≤ 31) (w : World) :
    Calls Tryd.prog 39 #[.int .u32 x, .int .i64 (n : Int)] w fun e w' => e = .returned (.int .u32 (rl x (32 - n))) ∧ w = w' := by
  go_enter Tryd.func39, Tryd.ntmps39
  go_wp2
  go_ret
  refine ⟨?_, rfl⟩
  unfold rl
  rw [bits_or_comm, show 32 - (32 - n) = n from by omega]
  rfl

theorem zero58i : (Tryd.prog.info? 76).map (fun i => (i.zero, i.size)) = some (some (.agg (Array.replicate 64 (.int .u32 0))), 64) := by kernel_rfl
theorem zero58 : ∀ w : World, (zeroValue 76).run Tryd.prog w = .ok (.agg (Array.replicate 64 (.int .u32 0))) w := (zero_of_info (P := Tryd.prog) zero58i).1
theorem infoU8 : (Tryd.prog.info? 5).map (fun i => (i.zero, i.size, i.bytes)) = some (some (.int .u8 0), 1, 1) := by kernel_rfl
def kArr : Array Value := (kl.map (Value.int .u32)).toArray
theorem kArr_size : kArr.size = 64 := by decide +kernel
theorem kArr_info : (Tryd.prog.info? 76).map (·.size) = some kArr.size := info58.trans (congrArg some kArr_size.symm)
theorem kArr_one : kArr.all (·.oneCell') = true := all_oneCell_toArray (by intro v hv; simp at hv; obtain ⟨u, _, rfl⟩ := hv; rfl)
theorem kArr_get (i : Nat) (h : i < 64) : kArr[i]? = some (.int .u32 (K i)) := by
  unfold kArr K
  rw [toArray_get]
  have : i < kl.length := by simpa [kl] using h
  simp [this]
set_option maxHeartbeats 1000000 in
set_option maxRecDepth 100000 in
theorem round_any (i : Nat) (hi : i < 64) (w : World) :
    Calls Tryd.prog 40 #[.int .i64 (i : Int)] w fun e w' => e = .returned (.int .u32 (K i)) ∧ Fr0 w w' := by
  have hz := zero58
  generalize hZ : Array.replicate 64 (Value.int .u32 0) = Z at hz
  have HZ := Lib.hid hZ
  clear hZ
  have hz2 : Z.size = kArr.size := by rw [kArr_size, ← HZ.out]; simp
  have hg := kArr_get i hi
  have HZ2 := Lib.hid hz2
  have HG := Lib.hid hg
  clear hz2 hg
  have hc : (w.alloc (.cells kArr 76)).cell? ⟨w.heap.size, i, none⟩ = some (.int .u32 (K i)) := by
    rw [cell_of_row _ _ _ _ _ _ (heap_alloc_new w _)]; exact HG.out
  go_enter Tryd.func40, Tryd.ntmps40
  go_wp2_with (first | (refine wpList_val (o := ⟨some 4, _, _, _, _, _⟩) (.agg kArr) rfl (by kernel_rfl) ?_) | (refine wpList_store_new rfl 76 _ _ rfl w.heap.size rfl kArr rfl rfl 76 _ kArr_info HZ2.out kArr_one ?_))

  go_ret
  exact ⟨rfl, (Fr.refl _ _).alloc _⟩

/-- bytes as a number, the highest first -/
def nv (l : List UInt8) : Nat := l.foldl (fun v b => v * 256 + b.toNat) 0
theorem nv_snoc (l : List UInt8) (b : UInt8) : nv (l ++ [b]) = nv l * 256 + b.toNat := by simp [nv]
theorem nv_lt : ∀ (n : Nat) (l : List UInt8), l.length = n → nv l < 256 ^ n
  | 0, l, h => by obtain rfl := List.eq_nil_of_length_eq_zero h; simp [nv]
  | n + 1, l, h => by
    obtain ⟨m, b, rfl⟩ : ∃ m b, l = m ++ [b] := ⟨l.dropLast, l.getLast (by intro e; simp [e] at h), (List.dropLast_concat_getLast _).symm⟩
    have := nv_lt n m (by simpa using h)
    have hb := b.toNat_lt
    rw [nv_snoc, Nat.pow_succ]
    omega
set_option maxHeartbeats 1000000 in
theorem num_any (v : Value) (l : List UInt8) (hl : l.length ≤ 8) (w : World) (hB : BytesIs w v l) :
    Calls Tryd.prog 38 #[v] w fun e w' => e = .returned (.int .u64 (nv l : Int)) ∧ w = w' := by
  obtain ⟨a, cap, pb, po, rfl, hcap, ha, hc⟩ := hB
  have HA := Lib.hid ha
  have HC := Lib.hid hc
  clear ha hc
  go_enter Tryd.func38, Tryd.ntmps38
  go_wp2_with fail
  go_loop [3, 4] (fun n i => ∃ k : Nat, k ≤ l.length ∧ i = .int .i64 k ∧ n = .int .u64 (nv (l.take k) : Int)) (fun _ i => l.length - (intOf i).toNat)
  case atStart => exact ⟨0, Nat.zero_le _, rfl, rfl⟩
  case round =>
    obtain ⟨k, hk, rfl, rfl⟩ := hrel
    by_cases hlt : k < l.length
    · obtain rfl := HA.out (by omega)
      have hcell := HC.out k hlt
      have hb := (l.getD k 0).toNat_lt
      have hn := nv_lt k (l.take k) (by simp; omega)
      have h7 : nv (l.take k) < 72057594037927936 := Nat.lt_of_lt_of_le hn (Nat.le_trans (Nat.pow_le_pow_right (by omega) (show k ≤ 7 by omega)) (by decide))
      have hs : nv (l.take (k + 1)) = nv (l.take k) * 256 + (l.getD k 0).toNat := by
        rw [List.take_add_one, ← nv_snoc]; simp [hlt]
      have HS := Lib.hid hs
      clear hs hn
      generalize (l.getD k 0).toNat = B at *
      generalize nv (l.take k) = N at *
      go_wp2
      go_round
      case rel => exact ⟨k + 1, by omega, by go_num, by rw [HS.out]; go_num⟩
      case measure => simp only [intOf]; omega
    · have hkl : k = l.length := by omega
      have HKL := Lib.hid hkl
      clear hkl
      go_wp2
      go_ret
      exact ⟨by rw [HKL.out, List.take_length]; rfl, rfl⟩
end Go.Proofs.YtcdfflieooopjaaDoor.Sha
