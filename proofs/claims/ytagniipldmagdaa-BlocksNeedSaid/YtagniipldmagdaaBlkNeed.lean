/-
  BlocksNeed: what is needed is enough, and one less is not: the walk.
-/
import Derived.Test.YtagniipldmagdaaBlkAwake
namespace Go.Proofs.Ytagniipldmagdaa.Blocks
open Go.RowKit Base Arena

set_option maxHeartbeats 2000000 in
theorem blocksNeed_walk (bytes : Int) (hb : -9223372036854775808 ≤ bytes ∧ bytes ≤ 9223372036854775807) (w : World) :
    Calls Try.prog 7 #[.int .i64 bytes] w fun e w' => e = .returned (.bool true) ∧ Fr0 w w' := by
  have hn := fun wx : World => need_any bytes hb wx
  by_cases h0 : bytes ≤ 0
  · have HE : Hid (needs bytes = 0) := Lib.hid (if_pos h0)
    go_enter Try.func7, Try.ntmps7
    go_wp2_with fail
    refine (awake_any w).mono ?_
    rintro e w1 ⟨rfl, hF⟩
    have HF := Lib.hid hF
    clear hF
    go_wp2_with fail
    refine (hn w1).mono ?_
    rintro e w2 ⟨rfl, rfl⟩
    rw [HE.out]
    clear hn
    go_wp2
    go_ret
    exact ⟨rfl, HF.out⟩
  · have HE : Hid (needs bytes = (bytes - 1) / 32 + 1) := Lib.hid (if_neg h0)
    by_cases h1 : 1099511627776 < bytes
    · go_enter Try.func7, Try.ntmps7
      go_wp2_with fail
      refine (awake_any w).mono ?_
      rintro e w1 ⟨rfl, hF⟩
      have HF := Lib.hid hF
      clear hF
      go_wp2_with fail
      refine (hn w1).mono ?_
      rintro e w2 ⟨rfl, rfl⟩
      clear hn
      go_wp2
      go_ret
      exact ⟨rfl, HF.out⟩
    · obtain ⟨n, hnn⟩ : ∃ n, needs bytes = n := ⟨_, rfl⟩
      have h2 : bytes ≤ 32 * n := by have := HE.out; omega
      have h3 : 32 * (n - 1) < bytes := by have := HE.out; omega
      have h4 : 1 ≤ n ∧ n ≤ 1099511627776 := by have := HE.out; omega
      have HNN := Lib.hid hnn
      clear hnn
      go_enter Try.func7, Try.ntmps7
      go_wp2_with fail
      refine (awake_any w).mono ?_
      rintro e w1 ⟨rfl, hF⟩
      have HF := Lib.hid hF
      clear hF
      go_wp2_with fail
      refine (hn w1).mono ?_
      rintro e w2 ⟨rfl, rfl⟩
      rw [HNN.out]
      clear hn
      have hd : decide (bytes ≤ 32 * n) = true := decide_eq_true h2
      have hd2 : decide (32 * (n - 1) < bytes) = true := decide_eq_true h3
      go_wp2
      go_ret
      exact ⟨rfl, HF.out⟩
end Go.Proofs.Ytagniipldmagdaa.Blocks
