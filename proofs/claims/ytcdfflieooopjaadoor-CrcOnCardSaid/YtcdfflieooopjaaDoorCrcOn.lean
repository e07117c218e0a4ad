/-
  CrcOn: going on is the same as all at once: the walk.
-/
import Derived.Test.YtcdfflieooopjaaDoorCrcAwake
namespace Go.Proofs.YtcdfflieooopjaaDoor.Crc
open Go.RowKit Base

set_option maxHeartbeats 1000000 in
theorem crcOn_walk (v : Value) (ps : List (List UInt8)) (w : World) (hv : ∃ a c, v = .slice a ps.length c) (hm : ps.length ≤ 9223372036854775807) (hp : ps.length ≤ 1152921504606846976 → PartsIs w v ps) (hlen : ∀ p ∈ ps, p.length ≤ 9223372036854775807) (hR : Rests w) :
    Calls Tryd.prog 15 #[v] w fun e w' => e = .returned (.bool true) ∧ Fr0 w w' := by
  obtain ⟨a0, cap0, rfl⟩ := hv
  have HR := Lib.hid hR
  have HP := Lib.hid hp
  have HLEN := Lib.hid hlen
  clear hR hp hlen
  by_cases h20 : 20 < ps.length
  · go_enter Tryd.func15, Tryd.ntmps15
    go_wp2_with fail
    refine (awake_any w HR.out).mono ?_
    rintro e w1 ⟨rfl, hF1⟩
    have HF1 := Lib.hid hF1
    clear hF1
    go_wp2
    go_ret
    exact ⟨rfl, HF1.out⟩
  · go_enter Tryd.func15, Tryd.ntmps15
    go_wp2_with fail
    refine (awake_any w HR.out).mono ?_
    rintro e w1 ⟨rfl, hF1⟩
    have HF1 := Lib.hid hF1
    have HR1 := Lib.hid (HR.out.fr hF1 (fun f => f))
    have hP1 := (HP.out (by omega)).fr0 hF1
    have HP1 := Lib.hid hP1
    obtain ⟨a1, c1, pb0, po0, hv1, hcap0, hn0, ha0, hc0⟩ := hP1
    simp only [Value.slice.injEq, true_and] at hv1
    obtain ⟨rfl, rfl⟩ := hv1
    have HA0 := Lib.hid ha0
    have HC0 := Lib.hid hc0
    clear hF1 HR HP ha0 hc0
    go_wp2
    go_loop [3, 4] (fun x i => ∃ k : Nat, k ≤ ps.length ∧ i = .int .i64 k ∧ x = .int .u32 ((crc 0 (ps.take k).flatten : Nat) : Int)) (fun _ i => ps.length - (intOf i).toNat)
    case atStart => exact ⟨0, Nat.zero_le _, rfl, by rw [List.take_zero, List.flatten_nil, crc_nil]; rfl⟩
    case round =>
      obtain ⟨k, hk, rfl, rfl⟩ := hrel
      have hx := crc_lt 0 (ps.take k).flatten (by decide)
      by_cases hlt : k < ps.length
      · obtain rfl := HA0.out (by omega)
        obtain ⟨pv, c0, hB⟩ := HC0.out k hlt
        have hpl := HLEN.out (ps.getD k []) (by simp [hlt])
        have HN : Hid (crc (crc 0 (ps.take k).flatten) (ps.getD k []) = crc 0 (ps.take (k + 1)).flatten) := Lib.hid (by
          have : ps.take (k + 1) = ps.take k ++ [ps.getD k []] := by rw [List.take_add_one]; simp [hlt]
          rw [this, List.flatten_append, ← crc_append]; simp)
        obtain ⟨sa, sc, rfl⟩ : ∃ sa sc, pv = .slice sa (ps.getD k []).length sc := by obtain ⟨sa, sc, _, _, h, _⟩ := hB; exact ⟨sa, sc, h⟩
        have HB := Lib.hid hB
        clear hB
        generalize ps.getD k [] = p at *
        generalize crc 0 (ps.take k).flatten = x at *
        by_cases h500 : 500 < p.length
        · go_wp2
          go_ret
          exact ⟨rfl, HF1.out⟩
        · go_wp2_with fail
          refine (on_any x hx _ p hpl w1 HB.out HR1.out).mono ?_
          rintro e w' ⟨rfl, rfl⟩
          go_wp2
          go_round
          case rel => exact ⟨k + 1, by omega, by go_num, by rw [← HN.out]⟩
          case measure => simp only [intOf]; omega
      · have hkl : k = ps.length := by omega
        have HE : Hid (crc 0 (ps.take k).flatten = crc 0 ps.flatten) := Lib.hid (by rw [hkl, List.take_length])
        clear hkl
        generalize crc 0 (ps.take k).flatten = x at *
        go_wp2_with fail
        refine (of_any _ ps w1 HP1.out HR1.out HLEN.out).mono ?_
        rintro e w' ⟨rfl, rfl⟩
        rw [← HE.out]
        go_wp2
        go_ret
        exact ⟨by simp, HF1.out⟩
end Go.Proofs.YtcdfflieooopjaaDoor.Crc
