/-
  RingOrder: whatever waits comes in the order in which it was put: the walk.
-/
import Derived.Test.YtgmfheofhpdcfaaRingAwake
import Derived.Test.YtgmfheofhpdcfaaRingPair
import Derived.Test.YtgmfheofhpdcfaaHeld
import Derived.Test.YtgmfheofhpdcfaaLaw
import Derived.Test.YtgmfheofhpdcfaaArr
namespace Go.Proofs.Ytgmfheofhpdcfaa.Ring
open Go.RowKit Go.Conc Base

/-- what is put j-th -/
def pv (l : List Int) (j : Nat) : Value := .agg #[.int .i64 (j : Int), .int .i64 (l.getD j 0)]
def pvs (l : List Int) (n : Nat) : List Value := (List.range n).map (pv l)
theorem pvs_length (l : List Int) (n : Nat) : (pvs l n).length = n := by simp [pvs]
theorem pvs_succ (l : List Int) (n : Nat) : pvs l (n + 1) = pvs l n ++ [pv l n] := by simp [pvs, List.range_succ]
theorem pvs_drop (l : List Int) (n k : Nat) (h : k < n) : (pvs l n).drop k = pv l k :: (pvs l n).drop (k + 1) := by
  rw [List.drop_eq_getElem_cons (by rw [pvs_length]; exact h)]
  simp [pvs]
theorem eq_pair (a b : Int) (wx : World) : (Op.equalIn 10000 49 (.agg #[.int .i64 a, .int .i64 b]) (.agg #[.int .i64 a, .int .i64 b])).run Try.prog wx = .ok true wx := by
  obtain ⟨i, hi, hz⟩ : ∃ i, Try.prog.info? 3 = some i ∧ i.size = 1 := by
    have h : (Try.prog.info? 3).map (·.size) = some 1 := by kernel_rfl
    obtain ⟨i, hi, hb⟩ := Option.map_eq_some_iff.1 h
    exact ⟨i, hi, hb⟩
  have hc : Try.prog.cellsOf 3 = 1 := by simp [Program.cellsOf, hi, hz]
  rw [run_equalIn_array wx 9999 _ _ Try.underlying49 hi, hc]
  have p0 := part_cell (P := Try.prog) 3 _ Try.underlying3 rfl #[.int .i64 a, .int .i64 b] 0 _ rfl wx
  have p1 := part_cell (P := Try.prog) 3 _ Try.underlying3 rfl #[.int .i64 a, .int .i64 b] 1 _ rfl wx
  have q0 := run_equalIn_int (P := Try.prog) wx 9998 3 .i64 .i64 a a Try.underlying3
  have q1 := run_equalIn_int (P := Try.prog) wx 9998 3 .i64 .i64 b b Try.underlying3
  simp [List.range, List.range.loop, Op.eqItems, p0, p1, q0, q1]
set_option maxHeartbeats 4000000 in
set_option maxRecDepth 100000 in
theorem ringOrder_walk (m n : Int) (v1 : Value) (l : List Int) (hl : l.length ≤ 9223372036854775807) (hbd : ∀ x ∈ l, -9223372036854775808 ≤ x ∧ x ≤ 9223372036854775807) (w : World) (hI : IntsIs w v1 l) :
    Calls Try.prog 5 #[.int .i64 m, v1, .int .i64 n] w fun e w' => e = .returned (.bool true) ∧ Fr0 w w' := by
  obtain ⟨a1, c1, pb, po, rfl, hcap, ha1, hc1⟩ := hI
  have HA := Lib.hid ha1
  have HC := Lib.hid hc1
  clear hbd ha1 hc1
  by_cases h100 : 100 < l.length
  · go_enter Try.func5, Try.ntmps5
    go_wp2_with fail
    refine (awake_any w).mono ?_
    rintro e w1 ⟨rfl, hF1⟩
    have HF1 := Lib.hid hF1
    clear hF1
    go_wp2
    go_ret
    exact ⟨rfl, HF1.out⟩
  · by_cases hm1 : m < 1
    · go_enter Try.func5, Try.ntmps5
      go_wp2_with fail
      refine (awake_any w).mono ?_
      rintro e w1 ⟨rfl, hF1⟩
      have HF1 := Lib.hid hF1
      clear hF1
      go_wp2
      go_ret
      exact ⟨rfl, HF1.out⟩
    · by_cases hm2 : 200 < m
      · go_enter Try.func5, Try.ntmps5
        go_wp2_with fail
        refine (awake_any w).mono ?_
        rintro e w1 ⟨rfl, hF1⟩
        have HF1 := Lib.hid hF1
        clear hF1
        go_wp2
        go_ret
        exact ⟨rfl, HF1.out⟩
      · obtain ⟨M, rfl⟩ := Int.eq_ofNat_of_zero_le (show 0 ≤ m by omega)
        have hM1 : 1 ≤ M := by omega
        have hM2 : M ≤ 200 := by omega
        have hheld : held (M : Int) = M := by unfold held; omega
        go_enter Try.func5, Try.ntmps5
        go_wp2_with fail
        refine (awake_any w).mono ?_
        rintro e w1 ⟨rfl, hF1⟩
        have HF1 := Lib.hid hF1
        clear hF1
        go_wp2_with fail
        refine (new_pair M w1).mono ?_
        rintro e w2 ⟨g, rfl, hg, c, hc, hR2, hF2⟩
        rw [hheld] at hR2
        have HCH : Hid (w.heap.size ≤ c) := Lib.hid (Nat.le_trans HF1.out.size hc)
        have HF2 := Lib.hid (HF1.out.trans' hF2)
        have HR2 := Lib.hid hR2
        clear hR2 hF2 hg hc HF1 hheld
        go_wp2
        go_loopw [8, 9] (fun ic i wr => ∃ (k : Nat) (ps : List Nat), k ≤ l.length ∧ i = .int .i64 k ∧ ic = .int .i64 ((min k M : Nat) : Int) ∧ RowAt wr g c 69 49 M ps (pvs l (min k M)) ∧ Fr0 w wr) (fun _ i _ => l.length - (intOf i).toNat)
        case atStart => exact ⟨0, [], Nat.zero_le _, rfl, by simp, by rw [Nat.zero_min]; exact HR2.out, HF2.out⟩
        case round =>
          clear HR2 HF2
          obtain ⟨k, ps, hk, rfl, rfl, hR, hF⟩ := hrel
          have HR := Lib.hid hR
          have HF := Lib.hid hF
          clear hR hF
          by_cases hlt : k < l.length
          · obtain rfl := HA.out (by omega)
            have k0 := HC.out k hlt
            have c00 : wr.cell? ⟨pb, po + k, none⟩ = some (.int .i64 (l.getD k 0)) := (HF.out.cell (p := ⟨pb, po + k, none⟩) (World.block_lt_of_cell? w _ k0) (fun f => f)).trans k0
            clear k0
            have hi1 : (k : Int) < (l.length : Int) := by omega
            have hi2 : 0 ≤ (k : Int) := by omega
            by_cases hroom : k < M
            · have hmin : min k M = k := by omega
              have hmin1 : min (k + 1) M = k + 1 := by omega
              have hpv : pv l k = .agg #[.int .i64 (k : Int), .int .i64 l[k]] := by simp [pv, hlt]
              rw [hmin] at HR ⊢
              go_wp2_with fail
              refine (put_pair_room g c _ _ _ _ _ wr HR.out (by rw [pvs_length]; exact hroom)).mono ?_
              rintro e w3 ⟨rfl, hR3, hF3⟩
              have HR3 := Lib.hid hR3
              have HF3 := Lib.hid (fr0_of_fr1 HF.out hF3 HCH.out)
              clear hR3 hF3 c00 HR HF
              go_wp2
              go_roundw
              case rel => exact ⟨k + 1, _, by omega, by go_num, by rw [hmin1]; go_num, by rw [hmin1, pvs_succ, hpv]; exact HR3.out, HF3.out⟩
              case measure => simp only [intOf]; omega
            · have hmin : min k M = M := by omega
              have hmin1 : min (k + 1) M = M := by omega
              rw [hmin] at HR ⊢
              go_wp2_with fail
              refine (put_pair_full g c _ _ _ _ _ wr HR.out (by rw [pvs_length]; omega)).mono ?_
              rintro e w3 ⟨rfl, hR3, hF3⟩
              have HR3 := Lib.hid hR3
              have HF3 := Lib.hid (HF.out.trans' hF3)
              clear hR3 hF3 c00 HR HF
              go_wp2
              go_roundw
              case rel => exact ⟨k + 1, _, by omega, by go_num, by rw [hmin1], by rw [hmin1]; exact HR3.out, HF3.out⟩
              case measure => simp only [intOf]; omega
          · obtain rfl : k = l.length := by omega
            generalize hN : min l.length M = N at *
            have hNl : N ≤ l.length := by omega
            have hNM : N ≤ M := by omega
            have HN := Lib.hid hN
            rcases Nat.lt_trichotomy M l.length with h3 | h3 | h3
            · obtain rfl : N = M := by omega
              clear hN
              go_wp2_with fail
              refine (len_pair g c _ _ _ wr HR.out).mono ?_
              rintro e w3 ⟨rfl, rfl⟩
              rw [pvs_length]
              go_wp2
              go_loopw [10] (fun i wr => ∃ (k : Nat) (ps : List Nat), k ≤ N ∧ i = .int .i64 k ∧ RowAt wr g c 69 49 N ps ((pvs l N).drop k) ∧ Fr0 w wr) (fun i _ => N - (intOf i).toNat)
              case atStart => exact ⟨0, _, Nat.zero_le _, rfl, by rw [List.drop_zero]; exact HR.out, HF.out⟩
              case round =>
                clear HR HF
                obtain ⟨k, ps2, hk2, rfl, hR, hF⟩ := hrel
                have HR := Lib.hid hR
                have HF := Lib.hid hF
                clear hR hF
                by_cases hlt2 : k < N
                · have hkl : k < l.length := by omega
                  obtain rfl := HA.out (by omega)
                  have k0 := HC.out k hkl
                  have HK0 := Lib.hid k0
                  have hR' := HR.out
                  rw [pvs_drop _ _ _ hlt2] at hR'
                  have HR' := Lib.hid hR'
                  clear hR' k0
                  go_wp2_with fail
                  refine (take_pair_some g c _ _ _ _ _ wr HR'.out).mono ?_
                  rintro e w3 ⟨rfl, hR3, hF3⟩
                  have HR3 := Lib.hid hR3
                  have HF3 := Lib.hid (fr0_of_fr1 HF.out hF3 HCH.out)
                  have k3 : w3.cell? ⟨pb, po + k, none⟩ = some (.int .i64 (l.getD k 0)) := (HF3.out.cell (p := ⟨pb, po + k, none⟩) (World.block_lt_of_cell? w _ HK0.out) (fun f => f)).trans HK0.out
                  have hi1 : (k : Int) < (l.length : Int) := by omega
                  have hi2 : 0 ≤ (k : Int) := by omega
                  clear hR3 hF3 HR HF HR' HK0
                  go_wp2_with fail
                  have x0 : (w3.alloc (.cells #[.int .i64 (k : Int), .int .i64 l[k]] 49)).cell? ⟨w3.heap.size, 0, none⟩ = some (.int .i64 (k : Int)) := by
                    rw [cell_of_row _ _ _ _ _ _ (heap_alloc_new w3 _)]; rfl
                  have x1 : (w3.alloc (.cells #[.int .i64 (k : Int), .int .i64 l[k]] 49)).cell? ⟨w3.heap.size, 1, none⟩ = some (.int .i64 l[k]) := by
                    rw [cell_of_row _ _ _ _ _ _ (heap_alloc_new w3 _)]; rfl
                  have k4 : (w3.alloc (.cells #[.int .i64 (k : Int), .int .i64 l[k]] 49)).cell? ⟨pb, po + k, none⟩ = some (.int .i64 l[k]) := by
                    rw [((Fr.refl (fun _ => False) w3).alloc _).cell (p := ⟨pb, po + k, none⟩) (World.block_lt_of_cell? w3 _ k3) (fun f => f), k3]
                    simp [hkl]
                  have HF4 := Lib.hid (HF3.out.alloc (.cells #[.int .i64 (k : Int), .int .i64 l[k]] 49))
                  have HR4 := Lib.hid (HR3.out.fr0 ((Fr.refl _ _).alloc (.cells #[.int .i64 (k : Int), .int .i64 l[k]] 49)))
                  clear HF3 HR3 k3
                  generalize w3.heap.size = X at *
                  generalize w3.alloc (.cells #[.int .i64 (k : Int), .int .i64 l[k]] 49) = w4 at *
                  generalize l[k] = y at *
                  have heq := eq_pair (k : Int) y
                  go_quiet (fail)
                  clear x0 x1 k4 heq
                  go_wp2
                  go_roundw
                  case rel => exact ⟨k + 1, _, by omega, by go_num, HR4.out.fr0 ((Fr.refl _ _).drewN _), HF4.out.drewN _⟩
                  case measure => simp only [intOf]; omega
                · have hk3 : k = N := by omega
                  have hR' := HR.out
                  rw [List.drop_eq_nil_of_le (by rw [pvs_length]; omega)] at hR'
                  have HR' := Lib.hid hR'
                  clear hR'
                  go_wp2_with fail
                  refine (take_pair_none g c _ _ wr HR'.out).mono ?_
                  rintro e w3 ⟨rfl, hF3⟩
                  have HR3 := Lib.hid (HR'.out.fr0 hF3)
                  have HF3 := Lib.hid (HF.out.trans' hF3)
                  clear hF3 HR HF HR'
                  go_wp2_with fail
                  refine (len_pair g c _ _ _ _ (HR3.out.fr0 ((Fr.refl _ _).alloc _))).mono ?_
                  rintro e w4 ⟨rfl, rfl⟩
                  go_wp2
                  go_ret
                  exact ⟨rfl, HF3.out.alloc _⟩
            · subst h3
              obtain rfl : N = l.length := by omega
              go_wp2_with fail
              refine (len_pair g c _ _ _ wr HR.out).mono ?_
              rintro e w3 ⟨rfl, rfl⟩
              rw [pvs_length]
              go_wp2
              go_loopw [10] (fun i wr => ∃ (k : Nat) (ps : List Nat), k ≤ l.length ∧ i = .int .i64 k ∧ RowAt wr g c 69 49 l.length ps ((pvs l l.length).drop k) ∧ Fr0 w wr) (fun i _ => l.length - (intOf i).toNat)
              case atStart => exact ⟨0, _, Nat.zero_le _, rfl, by rw [List.drop_zero]; exact HR.out, HF.out⟩
              case round =>
                clear HR HF
                obtain ⟨k, ps2, hk2, rfl, hR, hF⟩ := hrel
                have HR := Lib.hid hR
                have HF := Lib.hid hF
                clear hR hF
                by_cases hlt2 : k < l.length
                · have hkl : k < l.length := by omega
                  obtain rfl := HA.out (by omega)
                  have k0 := HC.out k hkl
                  have HK0 := Lib.hid k0
                  have hR' := HR.out
                  rw [pvs_drop _ _ _ hlt2] at hR'
                  have HR' := Lib.hid hR'
                  clear hR' k0
                  go_wp2_with fail
                  refine (take_pair_some g c _ _ _ _ _ wr HR'.out).mono ?_
                  rintro e w3 ⟨rfl, hR3, hF3⟩
                  have HR3 := Lib.hid hR3
                  have HF3 := Lib.hid (fr0_of_fr1 HF.out hF3 HCH.out)
                  have k3 : w3.cell? ⟨pb, po + k, none⟩ = some (.int .i64 (l.getD k 0)) := (HF3.out.cell (p := ⟨pb, po + k, none⟩) (World.block_lt_of_cell? w _ HK0.out) (fun f => f)).trans HK0.out
                  have hi1 : (k : Int) < (l.length : Int) := by omega
                  have hi2 : 0 ≤ (k : Int) := by omega
                  clear hR3 hF3 HR HF HR' HK0
                  go_wp2_with fail
                  have x0 : (w3.alloc (.cells #[.int .i64 (k : Int), .int .i64 l[k]] 49)).cell? ⟨w3.heap.size, 0, none⟩ = some (.int .i64 (k : Int)) := by
                    rw [cell_of_row _ _ _ _ _ _ (heap_alloc_new w3 _)]; rfl
                  have x1 : (w3.alloc (.cells #[.int .i64 (k : Int), .int .i64 l[k]] 49)).cell? ⟨w3.heap.size, 1, none⟩ = some (.int .i64 l[k]) := by
                    rw [cell_of_row _ _ _ _ _ _ (heap_alloc_new w3 _)]; rfl
                  have k4 : (w3.alloc (.cells #[.int .i64 (k : Int), .int .i64 l[k]] 49)).cell? ⟨pb, po + k, none⟩ = some (.int .i64 l[k]) := by
                    rw [((Fr.refl (fun _ => False) w3).alloc _).cell (p := ⟨pb, po + k, none⟩) (World.block_lt_of_cell? w3 _ k3) (fun f => f), k3]
                    simp [hkl]
                  have HF4 := Lib.hid (HF3.out.alloc (.cells #[.int .i64 (k : Int), .int .i64 l[k]] 49))
                  have HR4 := Lib.hid (HR3.out.fr0 ((Fr.refl _ _).alloc (.cells #[.int .i64 (k : Int), .int .i64 l[k]] 49)))
                  clear HF3 HR3 k3
                  generalize w3.heap.size = X at *
                  generalize w3.alloc (.cells #[.int .i64 (k : Int), .int .i64 l[k]] 49) = w4 at *
                  generalize l[k] = y at *
                  have heq := eq_pair (k : Int) y
                  go_quiet (fail)
                  clear x0 x1 k4 heq
                  go_wp2
                  go_roundw
                  case rel => exact ⟨k + 1, _, by omega, by go_num, HR4.out.fr0 ((Fr.refl _ _).drewN _), HF4.out.drewN _⟩
                  case measure => simp only [intOf]; omega
                · have hk3 : k = l.length := by omega
                  have hR' := HR.out
                  rw [List.drop_eq_nil_of_le (by rw [pvs_length]; omega)] at hR'
                  have HR' := Lib.hid hR'
                  clear hR'
                  go_wp2_with fail
                  refine (take_pair_none g c _ _ wr HR'.out).mono ?_
                  rintro e w3 ⟨rfl, hF3⟩
                  have HR3 := Lib.hid (HR'.out.fr0 hF3)
                  have HF3 := Lib.hid (HF.out.trans' hF3)
                  clear hF3 HR HF HR'
                  go_wp2_with fail
                  refine (len_pair g c _ _ _ _ (HR3.out.fr0 ((Fr.refl _ _).alloc _))).mono ?_
                  rintro e w4 ⟨rfl, rfl⟩
                  go_wp2
                  go_ret
                  exact ⟨rfl, HF3.out.alloc _⟩
            · obtain rfl : N = l.length := by omega
              clear hN
              go_wp2_with fail
              refine (len_pair g c _ _ _ wr HR.out).mono ?_
              rintro e w3 ⟨rfl, rfl⟩
              rw [pvs_length]
              go_wp2
              go_loopw [10] (fun i wr => ∃ (k : Nat) (ps : List Nat), k ≤ l.length ∧ i = .int .i64 k ∧ RowAt wr g c 69 49 M ps ((pvs l l.length).drop k) ∧ Fr0 w wr) (fun i _ => l.length - (intOf i).toNat)
              case atStart => exact ⟨0, _, Nat.zero_le _, rfl, by rw [List.drop_zero]; exact HR.out, HF.out⟩
              case round =>
                clear HR HF
                obtain ⟨k, ps2, hk2, rfl, hR, hF⟩ := hrel
                have HR := Lib.hid hR
                have HF := Lib.hid hF
                clear hR hF
                by_cases hlt2 : k < l.length
                · have hkl : k < l.length := by omega
                  obtain rfl := HA.out (by omega)
                  have k0 := HC.out k hkl
                  have HK0 := Lib.hid k0
                  have hR' := HR.out
                  rw [pvs_drop _ _ _ hlt2] at hR'
                  have HR' := Lib.hid hR'
                  clear hR' k0
                  go_wp2_with fail
                  refine (take_pair_some g c _ _ _ _ _ wr HR'.out).mono ?_
                  rintro e w3 ⟨rfl, hR3, hF3⟩
                  have HR3 := Lib.hid hR3
                  have HF3 := Lib.hid (fr0_of_fr1 HF.out hF3 HCH.out)
                  have k3 : w3.cell? ⟨pb, po + k, none⟩ = some (.int .i64 (l.getD k 0)) := (HF3.out.cell (p := ⟨pb, po + k, none⟩) (World.block_lt_of_cell? w _ HK0.out) (fun f => f)).trans HK0.out
                  have hi1 : (k : Int) < (l.length : Int) := by omega
                  have hi2 : 0 ≤ (k : Int) := by omega
                  clear hR3 hF3 HR HF HR' HK0
                  go_wp2_with fail
                  have x0 : (w3.alloc (.cells #[.int .i64 (k : Int), .int .i64 l[k]] 49)).cell? ⟨w3.heap.size, 0, none⟩ = some (.int .i64 (k : Int)) := by
                    rw [cell_of_row _ _ _ _ _ _ (heap_alloc_new w3 _)]; rfl
                  have x1 : (w3.alloc (.cells #[.int .i64 (k : Int), .int .i64 l[k]] 49)).cell? ⟨w3.heap.size, 1, none⟩ = some (.int .i64 l[k]) := by
                    rw [cell_of_row _ _ _ _ _ _ (heap_alloc_new w3 _)]; rfl
                  have k4 : (w3.alloc (.cells #[.int .i64 (k : Int), .int .i64 l[k]] 49)).cell? ⟨pb, po + k, none⟩ = some (.int .i64 l[k]) := by
                    rw [((Fr.refl (fun _ => False) w3).alloc _).cell (p := ⟨pb, po + k, none⟩) (World.block_lt_of_cell? w3 _ k3) (fun f => f), k3]
                    simp [hkl]
                  have HF4 := Lib.hid (HF3.out.alloc (.cells #[.int .i64 (k : Int), .int .i64 l[k]] 49))
                  have HR4 := Lib.hid (HR3.out.fr0 ((Fr.refl _ _).alloc (.cells #[.int .i64 (k : Int), .int .i64 l[k]] 49)))
                  clear HF3 HR3 k3
                  generalize w3.heap.size = X at *
                  generalize w3.alloc (.cells #[.int .i64 (k : Int), .int .i64 l[k]] 49) = w4 at *
                  generalize l[k] = y at *
                  have heq := eq_pair (k : Int) y
                  go_quiet (fail)
                  clear x0 x1 k4 heq
                  go_wp2
                  go_roundw
                  case rel => exact ⟨k + 1, _, by omega, by go_num, HR4.out.fr0 ((Fr.refl _ _).drewN _), HF4.out.drewN _⟩
                  case measure => simp only [intOf]; omega
                · have hk3 : k = l.length := by omega
                  have hR' := HR.out
                  rw [List.drop_eq_nil_of_le (by rw [pvs_length]; omega)] at hR'
                  have HR' := Lib.hid hR'
                  clear hR'
                  go_wp2_with fail
                  refine (take_pair_none g c _ _ wr HR'.out).mono ?_
                  rintro e w3 ⟨rfl, hF3⟩
                  have HR3 := Lib.hid (HR'.out.fr0 hF3)
                  have HF3 := Lib.hid (HF.out.trans' hF3)
                  clear hF3 HR HF HR'
                  go_wp2_with fail
                  refine (len_pair g c _ _ _ _ (HR3.out.fr0 ((Fr.refl _ _).alloc _))).mono ?_
                  rintro e w4 ⟨rfl, rfl⟩
                  go_wp2
                  go_ret
                  exact ⟨rfl, HF3.out.alloc _⟩
end Go.Proofs.Ytgmfheofhpdcfaa.Ring
