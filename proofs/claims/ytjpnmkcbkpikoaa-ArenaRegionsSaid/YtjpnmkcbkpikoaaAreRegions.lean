/-
  ArenaRegions: parts stand side by side, each as great as its budget: the walk.
-/
import Derived.Test.YtjpnmkcbkpikoaaAreAwake
namespace Go.Proofs.Ytjpnmkcbkpikoaa.Arena
open Go.RowKit Base

set_option maxHeartbeats 4000000 in
theorem arenaRegions_walk (size : Int) (v : Value) (L : List Int) (hL : L.length ≤ 9223372036854775807) (hb : ∀ n ∈ L, -9223372036854775808 ≤ n ∧ n ≤ 9223372036854775807) (hs : -9223372036854775808 ≤ size ∧ size ≤ 9223372036854775807) (w : World) (hI : IntsIs w v L) :
    Calls Try.prog 7 #[.int .i64 size, v] w fun e w' => e = .returned (.bool true) ∧ Fr0 w w' := by
  have HI := Lib.hid hI
  have HBD := Lib.hid hb
  obtain ⟨a, cap, pb, po, rfl, hcap, ha, hc⟩ := hI
  have HA := Lib.hid ha
  have HC := Lib.hid hc
  clear ha hc hb hcap
  by_cases h70 : 70 < L.length
  · go_enter Try.func7, Try.ntmps7
    go_wp2_with fail
    refine (awake_any w).mono ?_
    rintro e w1 ⟨rfl, hF1⟩
    have HF1 := Lib.hid hF1
    clear hF1
    go_wp2
    go_ret
    exact ⟨rfl, HF1.out⟩
  · go_enter Try.func7, Try.ntmps7
    go_wp2_with fail
    refine (awake_any w).mono ?_
    rintro e w1 ⟨rfl, hF1⟩
    have HF1 := Lib.hid hF1
    clear hF1
    go_wp2_with fail
    refine (new_any size _ L hL HBD.out hs w1 (HI.out.fr0 HF1.out)).mono ?_
    rintro e w2 ⟨hok, hbad, hf2⟩
    have HF2 := Lib.hid (HF1.out.trans' hf2)
    clear hf2
    by_cases hfit : Fits size L
    · obtain ⟨g, qb, cb, rfl, hA⟩ := hok hfit
      obtain ⟨n, rfl, hn⟩ := hfit.size
      have HAR := Lib.hid hA
      have HFT := Lib.hid hfit
      clear hok hbad hA hfit
      unfold ptr
      go_wp2
      go_loopg [7, 8] L.length (fun kx s i wr => ∃ k : Nat, i = .int .i64 k ∧ s = .int .i64 (cut L k) ∧ k ≤ L.length ∧ L.length - k ≤ kx ∧ Hid (Fr0 w2 wr))
      case atStart => exact ⟨0, rfl, by rw [cut_zero], Nat.zero_le _, by omega, Lib.hid (Fr.refl _ _)⟩
      case round =>
        obtain ⟨k, rfl, rfl, hk, hg, HF⟩ := hrel
        have HAk := Lib.hid (HAR.out.fr0 HF.out)
        by_cases hlt : k < L.length
        · obtain rfl := HA.out (by omega)
          have hfw := HF2.out.trans' HF.out
          go_wp2_with fail
          refine (region_in _ g qb cb _ _ k wr HAk.out hlt).mono ?_
          rintro e w3 ⟨rfl, hf3⟩
          have c0 : w3.cell? ⟨pb, po + k, none⟩ = some (.int .i64 (L.getD k 0)) := ((hfw.trans' hf3).cell (p := ⟨pb, po + k, none⟩) (World.block_lt_of_cell? w _ (HC.out k hlt)) (fun f => f)).trans (HC.out k hlt)
          have HF3 := Lib.hid (HF.out.trans' hf3)
          have hsu := cut_succ L k hlt
          have hz := HFT.out.zero (k := k) (by omega)
          have hle := HFT.out.le (k := k + 1) hlt
          have hx := HBD.out (L.getD k 0) (by simp [hlt])
          have i1 : (k : Int) < (L.length : Int) := by omega
          have i2 : 0 ≤ (k : Int) := by omega
          clear hfw hf3
          have hx0 := HFT.out.pos k hlt
          generalize hX : L.getD k 0 = x at *
          generalize hC0 : cut L k = c at *
          have HS := Lib.hid hsu
          rw [hsu] at hle ⊢
          clear hX hC0 hsu
          go_wp2
          go_roundg (L.length - (k + 1))
          case measure => omega
          case rel => exact ⟨k + 1, by simp, by rw [HS.out], by omega, by omega, HF3⟩
        · obtain rfl : k = L.length := by omega
          go_wp2_with fail
          refine (region_out _ g qb cb _ _ (L.length : Int) wr HAk.out (.inr (Int.le_refl _))).mono ?_
          rintro e w3 ⟨rfl, hf3⟩
          have HA3 := Lib.hid (HAk.out.fr0 hf3)
          have HF3 := Lib.hid ((HF2.out.trans' HF.out).trans' hf3)
          clear hf3 HAk HF
          go_wp2_with fail
          refine (parts_any _ g qb cb _ _ w3 HA3.out).mono ?_
          rintro e w4 ⟨rfl, rfl⟩
          go_wp2_with fail
          refine (all_any _ g qb cb _ _ w4 HA3.out).mono ?_
          rintro e w5 ⟨v5, rfl, hb5, hf5⟩
          have HF5 := Lib.hid (HF3.out.trans' hf5)
          obtain ⟨va, vc, _, _, rfl, _⟩ := hb5
          rw [show (List.replicate ((n : Int)).toNat (0 : UInt8)).length = n by simp]
          clear hf5
          go_wp2
          go_ret
          exact ⟨by simp, HF5.out⟩
    · have he := hbad hfit
      subst he
      clear hok hbad hfit
      go_wp2
      go_ret
      exact ⟨rfl, HF2.out⟩
end Go.Proofs.Ytjpnmkcbkpikoaa.Arena
