/-
  The laws' own comparison of two lists of ints (out of wip/blocks).
-/
import Derived.Test.YtilddigiljappaaWays
import Derived.Test.YtilddigiljappaaChecked
import Derived.WalkKit
import Derived.KernelRfl
import Derived.BigQuiet
import Derived.OwnWalk
import Derived.Deep.DeepCutAuto
import Derived.Deep.LoopGhost
namespace Go.Proofs.Ytilddigiljappaa.Clock
open Go.RowKit Base

set_option maxHeartbeats 2000000 in
/-- the law's own comparison of two lists -/
theorem alike_any (v1 v2 : Value) (a b : List Int) (ha : a.length ≤ 9223372036854775807) (hab : ∀ n ∈ a, -9223372036854775808 ≤ n ∧ n ≤ 9223372036854775807) (w : World) (h1 : IntsIs w v1 a) (h2 : IntsIs w v2 b) :
    Calls Try.prog 9 #[v1, v2] w fun e w' => e = .returned (.bool (decide (a = b))) ∧ Fr0 w w' := by
  obtain ⟨a1, cap1, p1, o1, rfl, _, hA1, hC1⟩ := h1
  obtain ⟨a2, cap2, p2, o2, rfl, _, hA2, hC2⟩ := h2
  have HA1 := Lib.hid hA1
  have HA2 := Lib.hid hA2
  have HC1 := Lib.hid hC1
  have HC2 := Lib.hid hC2
  clear hA1 hA2 hC1 hC2 hab
  by_cases hlen : a.length = b.length
  · have HLEN := Lib.hid hlen
    have hb : b.length ≤ 9223372036854775807 := by omega
    rw [← hlen]
    clear hlen
    go_enter Try.func9, Try.ntmps9
    go_wp2
    go_loopg [5] a.length (fun kx i wr => ∃ k : Nat, i = .int .i64 k ∧ k ≤ a.length ∧ a.length - k ≤ kx ∧ Hid (Fr0 w wr) ∧ Hid (∀ j, j < k → a.getD j 0 = b.getD j 0))
    case atStart => exact ⟨0, rfl, Nat.zero_le _, by omega, Lib.hid (Fr.refl _ _), Lib.hid (fun j hj => absurd hj (Nat.not_lt_zero _))⟩
    case round =>
      obtain ⟨k, rfl, hk, hg, HF, HS⟩ := hrel
      by_cases hlt : k < a.length
      · have hlb : k < b.length := by have := HLEN.out; omega
        obtain rfl := HA1.out (by omega)
        obtain rfl := HA2.out (by omega)
        have d1 := (HF.out.cell (p := ⟨p1, o1 + k, none⟩) (World.block_lt_of_cell? w _ (HC1.out k hlt)) (fun f => f)).trans (HC1.out k hlt)
        have d2 := (HF.out.cell (p := ⟨p2, o2 + k, none⟩) (World.block_lt_of_cell? w _ (HC2.out k hlb)) (fun f => f)).trans (HC2.out k hlb)
        have i1 : (k : Int) < (a.length : Int) := by omega
        have i2 : 0 ≤ (k : Int) := by omega
        have HNE : Hid (a.getD k 0 ≠ b.getD k 0 → ¬ a = b) := Lib.hid (fun h e => h (by rw [e]))
        generalize hX : a.getD k 0 = x at *
        generalize hY : b.getD k 0 = y at *
        have HX := Lib.hid hX
        have HY := Lib.hid hY
        clear hX hY
        by_cases hxy : x = y
        · subst hxy
          go_wp2
          go_quiet (fail)
          go_wp2
          go_roundg (a.length - (k + 1))
          case measure => omega
          case rel =>
            refine ⟨k + 1, by simp, by omega, by omega, Lib.hid (HF.out.drewN _), Lib.hid (fun j hj => ?_)⟩
            by_cases hjk : j = k
            · subst hjk; rw [HX.out, HY.out]
            · exact HS.out j (by omega)
        · have HN := Lib.hid (HNE.out hxy)
          go_wp2
          go_quiet (fail)
          go_wp2
          go_ret
          exact ⟨by rw [decide_eq_false HN.out]; rfl, HF.out.drewN _⟩
      · obtain rfl : k = a.length := by omega
        have HEQ : Hid (a = b) := Lib.hid (by
          apply List.ext_getElem?
          intro j
          by_cases hj : j < a.length
          · have := HS.out j hj
            have hjb : j < b.length := by have := HLEN.out; omega
            simp only [List.getD_eq_getElem?_getD, List.getElem?_eq_getElem hj, List.getElem?_eq_getElem hjb, Option.getD_some] at this
            rw [List.getElem?_eq_getElem hj, List.getElem?_eq_getElem hjb, this]
          · rw [List.getElem?_eq_none (by omega), List.getElem?_eq_none (by have := HLEN.out; omega)])
        go_wp2
        go_ret
        exact ⟨by rw [decide_eq_true HEQ.out]; rfl, HF.out⟩
  · have HN : Hid (¬ a = b) := Lib.hid (fun e => hlen (by rw [e]))
    have hlen' : ¬ (a.length : Int) = (b.length : Int) := by omega
    go_enter Try.func9, Try.ntmps9
    go_wp2
    go_ret
    exact ⟨by rw [decide_eq_false HN.out]; rfl, Fr.refl _ _⟩
end Go.Proofs.Ytilddigiljappaa.Clock
