/-
  The document's own Crc: bit by bit.
-/
import Derived.Test.YtggdpmfghbnhcaaDoorCrcWalk
namespace Go.Proofs.YtggdpmfghbnhcaaDoor.Crc
open Go.RowKit Base

theorem refSteps_lt (v n c : Nat) (hv : v < 256) (hc : c < 4294967296) : refSteps v n c < 4294967296 := by
  rw [refSteps_eq]
  refine xor_lt _ _ (steps_lt _ _ (xor_lt _ _ hc (by omega))) ?_
  have := Nat.div_le_self v (2 ^ n)
  omega
theorem ref_bit (z y j : Nat) (hz : z < 4294967296) (hy : y < 256) : (bits BinOp.and .u32 (bits BinOp.xor .u32 (z : Int) ((y : Int) / 2 ^ j)) 1 == 1) = decide ((z ^^^ y / 2 ^ j) % 2 = 1) := by
  have h1 : y / 2 ^ j < 4294967296 := by have := Nat.div_le_self y (2 ^ j); omega
  have e : ((y : Int) / 2 ^ j) = ((y / 2 ^ j : Nat) : Int) := by simp
  rw [e, u32_xor_nat _ _ hz h1]
  have := u32_and_nat (z ^^^ y / 2 ^ j) 1 (xor_lt _ _ hz h1) (by decide)
  rw [show ((1 : Nat) : Int) = 1 from rfl] at this
  rw [this, Nat.and_one_is_mod, Bool.eq_iff_iff, beq_iff_eq, decide_eq_true_eq]
  omega
set_option maxHeartbeats 1000000 in
theorem refCrc_any (c : Nat) (hc : c < 4294967296) (v : Value) (l : List UInt8) (hl : l.length ≤ 9223372036854775807) (w : World) (hB : BytesIs w v l) :
    Calls Tryd.prog 24 #[.int .u32 (c : Int), v] w fun e w' => e = .returned (.int .u32 ((crc c l : Nat) : Int)) ∧ w = w' := by
  obtain ⟨a0, cap0, pb0, po0, rfl, hcap0, ha0, hc0⟩ := hB
  have HA0 := Lib.hid ha0
  have HC0 := Lib.hid hc0
  clear ha0 hc0
  have ht := u32_xor_nat c ones hc (by decide)
  rw [show ((ones : Nat) : Int) = 4294967295 from rfl] at ht
  go_enter Tryd.func24, Tryd.ntmps24
  go_wp2
  clear ht
  go_loop [0, 5] (fun x i => ∃ k : Nat, k ≤ l.length ∧ i = .int .i64 k ∧ x = .int .u32 ((run (c ^^^ ones) (l.take k) : Nat) : Int)) (fun _ i => l.length - (intOf i).toNat)
  case atStart => exact ⟨0, Nat.zero_le _, rfl, rfl⟩
  case round =>
    obtain ⟨k, hk, rfl, rfl⟩ := hrel
    have hx := run_lt (c ^^^ ones) (l.take k) (xor_lt _ _ hc (by decide))
    by_cases hlt : k < l.length
    · obtain rfl := HA0.out (by omega)
      have c0 := HC0.out k hlt
      have hy := (l.getD k 0).toNat_lt
      have HN : Hid (refSteps (l.getD k 0).toNat 8 (run (c ^^^ ones) (l.take k)) = run (c ^^^ ones) (l.take (k + 1))) := Lib.hid (by rw [refSteps_byte, run_next _ _ _ hlt])
      generalize (l.getD k 0).toNat = y at *
      generalize run (c ^^^ ones) (l.take k) = x at *
      go_wp2
      go_loop [0, 6] (fun u i => ∃ j : Nat, j ≤ 8 ∧ i = .int .i64 j ∧ u = .int .u32 ((refSteps y j x : Nat) : Int)) (fun _ i => 8 - (intOf i).toNat)
      case atStart => exact ⟨0, Nat.zero_le _, rfl, rfl⟩
      case round =>
        obtain ⟨j, hj, rfl, rfl⟩ := hrel
        have hz := refSteps_lt y j x hy hx
        by_cases hlt2 : j < 8
        · have HS : Hid (refSteps y (j + 1) x = refSteps y j x / 2 ^^^ (if (refSteps y j x ^^^ y / 2 ^ j) % 2 = 1 then poly else 0)) := Lib.hid rfl
          generalize refSteps y j x = z at *
          go_wp2
          all_goals
            refine ⟨⟨j + 1, by omega, by go_num, ?_⟩, by simp only [intOf]; omega⟩
            rw [HS.out]
            rename_i hbit
            rw [ref_bit z y j hz hy] at hbit
          · rw [if_pos (by simpa using hbit), ← u32_xor_nat (z / 2) poly (by omega) (by decide)]
            rfl
          · rw [if_neg (by simpa using hbit), Nat.xor_zero]
            rfl
        · obtain rfl : j = 8 := by omega
          rw [HN.out]
          obtain ⟨z, hz'⟩ : ∃ z, z = run (c ^^^ ones) (l.take (k + 1)) := ⟨_, rfl⟩
          rw [← hz']
          have HZ := Lib.hid hz'
          clear hz'
          go_wp2
          go_round
          case rel => exact ⟨k + 1, by omega, by go_num, by rw [HZ.out]⟩
          case measure => simp only [intOf]; omega
    · have hkl : k = l.length := by omega
      have HE : Hid (((run (c ^^^ ones) (l.take k) ^^^ ones : Nat) : Int) = ((crc c l : Nat) : Int)) := Lib.hid (by rw [hkl, List.take_length]; rfl)
      have ht := u32_xor_nat _ ones hx (by decide)
      rw [show ((ones : Nat) : Int) = 4294967295 from rfl] at ht
      clear hkl
      generalize run (c ^^^ ones) (l.take k) = x at *
      go_wp2
      go_ret
      exact ⟨by rw [← HE.out]; rfl, rfl⟩
end Go.Proofs.YtggdpmfghbnhcaaDoor.Crc
