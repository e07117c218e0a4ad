/-
  AggBounds walked.
-/
import Derived.Test.YtbiokogihimboaaDoorAggAwake
import Derived.BigQuiet
import Derived.Deep.QuietTactic
namespace Go.Proofs.YtbiokogihimboaaDoor.AggL
open Go.RowKit Base _root_.Go.Proofs.YtbiokogihimboaaDoor.Series _root_.Go.Proofs.YtbiokogihimboaaDoor.Agg

theorem tot_ge (a : Int) : ∀ v : List Int, (∀ y ∈ v, a ≤ y) → a * (v.length : Int) ≤ tot v
  | [], _ => by simp [tot]
  | x :: v, h => by
    have h1 := tot_ge a v (fun y hy => h y (List.mem_cons_of_mem _ hy))
    have h2 := h x List.mem_cons_self
    show a * ((v.length + 1 : Nat) : Int) ≤ x + tot v
    rw [show ((v.length + 1 : Nat) : Int) = (v.length : Int) + 1 by omega, Int.mul_add, Int.mul_one]
    omega
theorem tot_le (b : Int) : ∀ v : List Int, (∀ y ∈ v, y ≤ b) → tot v ≤ b * (v.length : Int)
  | [], _ => by simp [tot]
  | x :: v, h => by
    have h1 := tot_le b v (fun y hy => h y (List.mem_cons_of_mem _ hy))
    have h2 := h x List.mem_cons_self
    show x + tot v ≤ b * ((v.length + 1 : Nat) : Int)
    rw [show ((v.length + 1 : Nat) : Int) = (v.length : Int) + 1 by omega, Int.mul_add, Int.mul_one]
    omega
/-- small ones are not over, and between so many times the least and the greatest -/
theorem small_ones (v : List Int) (h0 : 0 < v.length) (hl : v.length ≤ 100) (h1 : -1125899906842624 < least v) (h2 : great v < 1125899906842624) :
    fits (tot v) = true ∧ ∃ P1 P2 : Int, wrap64 (least v * (v.length : Int)) = P1 ∧ wrap64 (great v * (v.length : Int)) = P2 ∧ P1 ≤ tot v ∧ tot v ≤ P2 := by
  obtain ⟨m1, m2⟩ := least_is h0
  obtain ⟨m3, m4⟩ := great_is h0
  have t1 := tot_ge _ v m2
  have t2 := tot_le _ v m4
  have t3 := tot_ge (-1125899906842624) v (fun y hy => by have := m2 y hy; omega)
  have t4 := tot_le 1125899906842624 v (fun y hy => by have := m4 y hy; omega)
  have u1 : -1125899906842624 * (v.length : Int) ≤ least v * (v.length : Int) := Int.mul_le_mul_of_nonneg_right (by omega) (by omega)
  have u2 : great v * (v.length : Int) ≤ 1125899906842624 * (v.length : Int) := Int.mul_le_mul_of_nonneg_right (by omega) (by omega)
  refine ⟨(fits_iff _).2 (by unfold Fit; omega), least v * (v.length : Int), great v * (v.length : Int), ?_, ?_, t1, t2⟩
  · simp only [wrap64]; omega
  · simp only [wrap64]; omega
set_option maxRecDepth 100000 in
set_option maxHeartbeats 8000000 in
theorem aggBounds_walk (v : Value) (l : List Sm) (hs : SizedS l) (w : World) (hP : PairsIs w v l) (hL : Laid w) :
    Calls Tryd.prog 7 #[v] w fun e w' => e = .returned (.bool true) ∧ Fr0 w w' := by
  obtain ⟨A, C, rfl⟩ := pairs_form hP
  have HP := Lib.hid hP
  have HL := Lib.hid hL
  have HOF0 : Hid (¬ 100 < l.length → ∀ w, PairsIs w (.slice A l.length C) l → Calls Tryd.prog 10 #[.slice A l.length C] w fun e w' => e = .returned (.agg (a6 (agOf l))) ∧ Fr0 w w') := Lib.hid (fun h w hp => pof_any _ l (by omega) hs w hp)
  have HZ : Hid (l.length = 0 → (agOf l).s = 0 ∧ (agOf l).n = 0 ∧ (agOf l).x = 0 ∧ (agOf l).l = 0 ∧ (agOf l).o = false) := Lib.hid (fun h => by rw [List.eq_nil_of_length_eq_zero h]; exact ⟨rfl, rfl, rfl, rfl, rfl⟩)
  have HOV : Hid ((agOf l).o = true → (agOf l).s = 0) := Lib.hid (fun h => (of_over h).2)
  have HSM : Hid (-1125899906842624 < (agOf l).n → (agOf l).x < 1125899906842624 → ¬ 100 < l.length ∧ ¬ l.length = 0 → (agOf l).o = false ∧ ∃ P1 P2 : Int, wrap64 ((agOf l).n * (l.length : Int)) = P1 ∧ wrap64 ((agOf l).x * (l.length : Int)) = P2 ∧ P1 ≤ (agOf l).s ∧ (agOf l).s ≤ P2) := Lib.hid (fun h1 h2 h3 => by
    obtain ⟨f, P1, P2, e1, e2, e3, e4⟩ := small_ones (vsOf l) (by rw [vs_length]; omega) (by rw [vs_length]; omega) h1 h2
    rw [vs_length] at e1 e2
    have hso : (agOf l).s = tot (vsOf l) := if_pos f
    refine ⟨by show (!fits (tot (vsOf l))) = false; rw [f]; rfl, P1, P2, e1, e2, by rw [hso]; exact e3, by rw [hso]; exact e4⟩)
  have HLB : Hid (¬ l.length = 0 → (agOf l).n ≤ (agOf l).l ∧ (agOf l).l ≤ (agOf l).x) := Lib.hid (fun h => by
    have h0 : 0 < (vsOf l).length := by rw [vs_length]; omega
    exact ⟨(least_is h0).2 _ (last_mem h0), (great_is h0).2 _ (last_mem h0)⟩)
  have HLA : Hid (¬ l.length = 0 → (l.getD (l.length - 1) (0, 0)).2 = (agOf l).l) := Lib.hid (fun h => by
    show _ = lastV (vsOf l)
    unfold lastV vsOf
    rw [List.length_map, List.getD_eq_getElem?_getD, List.getD_eq_getElem?_getD, List.getElem?_map, List.getElem?_eq_getElem (show l.length - 1 < l.length by omega)]
    rfl)
  have hc : (agOf l).c = (l.length : Int) := by
    show ((vsOf l).length : Int) = _
    rw [vs_length]
  clear hP hL hs
  generalize agOf l = a at *
  generalize hN : l.length = N at *
  have HN := Lib.hid hN
  clear hN
  obtain ⟨c, s, n, x, la, o⟩ := a
  simp only at hc
  subst hc
  simp only at HZ HOV HSM HLB HLA
  rw [show a6 ⟨(N : Int), s, n, x, la, o⟩ = #[.int .i64 ((N : Int)), .int .i64 s, .int .i64 n, .int .i64 x, .int .i64 la, .bool o] from rfl] at HOF0
  go_enter Tryd.func7, Tryd.ntmps7
  go_wp2_with fail
  refine (awake_any _ HL.out).mono ?_
  rintro e w1 ⟨rfl, hF⟩
  have HF1 := Lib.hid hF
  clear hF
  by_cases h1 : 100 < N
  · go_wp2
    go_ret
    exact ⟨rfl, HF1.out⟩
  have hx := HOF0.out h1 _ (HP.out.fr0 HF1.out)
  go_wp2_with fail
  refine hx.mono ?_
  clear hx
  rintro e w2 ⟨rfl, hF⟩
  have HF2 := Lib.hid (HF1.out.trans' hF)
  clear hF HF1
  have HBX := Lib.hid (Bx.new 24 w2 ⟨(N : Int), s, n, x, la, o⟩)
  have HFX := Lib.hid (HF2.out.alloc (.cells #[.int .i64 ((N : Int)), .int .i64 s, .int .i64 n, .int .i64 x, .int .i64 la, .bool o] 24))
  by_cases h0 : N = 0
  · obtain ⟨rfl, rfl, rfl, rfl, rfl⟩ := HZ.out h0
    subst h0
    have heq := fun w => eq_go zeroA w
    rw [show (zeroA : Ag) = ⟨0, 0, 0, 0, 0, false⟩ from rfl] at heq
    go_wp2
    go_ret
    exact ⟨rfl, HFX.out⟩
  obtain ⟨pb, po, rfl, hc⟩ := pairs_at HP.out (N - 1) (by have := HN.out; omega)
  obtain ⟨d0, d1⟩ := hc _ HFX.out
  rw [HLA.out (by omega)] at d1
  obtain ⟨ho1, ho2⟩ := HLB.out (by omega)
  have hd1 : decide (n ≤ la) = true := decide_eq_true ho1
  have hd2 : decide (la ≤ x) = true := decide_eq_true ho2
  have hd3 : (la == la) = true := beq_self_eq_true la
  generalize (l.getD (N - 1) (0, 0)).1 = lt at *
  obtain ⟨R, hR⟩ : ∃ R, R = N - 1 := ⟨_, rfl⟩
  rw [← hR] at d0 d1
  have r1 : (N : Int) - 1 = (R : Int) := by omega
  have r2 : (R : Int) < (N : Int) := by omega
  have r3 : 0 ≤ (R : Int) := by omega
  have r4 : ((N : Int) == 0) = false := beq_eq_false_iff_ne.2 (by omega)
  obtain ⟨k0, k1, k2, k3, k4, k5⟩ := HBX.out.cells
  clear hc hR HZ HOF0 HLA HLB HF2 HBX
  generalize hW3 : w2.alloc (.cells #[.int .i64 ((N : Int)), .int .i64 s, .int .i64 n, .int .i64 x, .int .i64 la, .bool o] 24) = W3 at *
  have HW3 := Lib.hid hW3
  clear hW3
  cases o with
  | true =>
    obtain rfl := HOV.out rfl
    have hns : ¬ (-1125899906842624 < n ∧ x < 1125899906842624) := fun h => by
      have := (HSM.out h.1 h.2 (by omega)).1
      cases this
    clear HOV HSM
    by_cases hsm1 : -1125899906842624 < n
    · have hsm2 : ¬ x < 1125899906842624 := fun h => hns ⟨hsm1, h⟩
      clear hns
      go_wp2_with fail
      rw [HW3.out]
      go_quiet (fail)
      have HFQ := Lib.hid (HFX.out.trans' ((Fr.refl (fun _ => False) W3).drewN nq))
      generalize W3.drewN nq = w9 at *
      clear k0 k1 k2 k3 k4 k5 d0 d1
      go_wp2
      go_ret
      exact ⟨rfl, HFQ.out⟩
    · clear hns
      go_wp2_with fail
      rw [HW3.out]
      go_quiet (fail)
      have HFQ := Lib.hid (HFX.out.trans' ((Fr.refl (fun _ => False) W3).drewN nq))
      generalize W3.drewN nq = w9 at *
      clear k0 k1 k2 k3 k4 k5 d0 d1
      go_wp2
      go_ret
      exact ⟨rfl, HFQ.out⟩
  | false =>
    clear HOV
    by_cases hsm1 : -1125899906842624 < n
    · by_cases hsm2 : x < 1125899906842624
      · obtain ⟨-, P1, P2, hp1, hp2, hp3, hp4⟩ := HSM.out hsm1 hsm2 (by omega)
        clear HSM
        go_wp2_with fail
        rw [HW3.out]
        go_quiet (fail)
        have HFQ := Lib.hid (HFX.out.trans' ((Fr.refl (fun _ => False) W3).drewN nq))
        generalize W3.drewN nq = w9 at *
        clear k0 k1 k2 k3 k4 k5 d0 d1
        go_wp2
        go_ret
        exact ⟨rfl, HFQ.out⟩
      · clear HSM
        go_wp2_with fail
        rw [HW3.out]
        go_quiet (fail)
        have HFQ := Lib.hid (HFX.out.trans' ((Fr.refl (fun _ => False) W3).drewN nq))
        generalize W3.drewN nq = w9 at *
        clear k0 k1 k2 k3 k4 k5 d0 d1
        go_wp2
        go_ret
        exact ⟨rfl, HFQ.out⟩
    · clear HSM
      go_wp2_with fail
      rw [HW3.out]
      go_quiet (fail)
      have HFQ := Lib.hid (HFX.out.trans' ((Fr.refl (fun _ => False) W3).drewN nq))
      generalize W3.drewN nq = w9 at *
      clear k0 k1 k2 k3 k4 k5 d0 d1
      go_wp2
      go_ret
      exact ⟨rfl, HFQ.out⟩
end Go.Proofs.YtbiokogihimboaaDoor.AggL
