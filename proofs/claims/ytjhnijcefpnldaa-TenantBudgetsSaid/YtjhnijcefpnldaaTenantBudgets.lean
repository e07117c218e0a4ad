/-
  TenantBudgets walked.
-/
import Derived.Test.YtjhnijcefpnldaaTenantAwake
import Derived.BigQuiet
namespace Go.Proofs.Ytjhnijcefpnldaa.TenantL
open Go.RowKit Base _root_.Go.Proofs.Ytjhnijcefpnldaa.Tenant

theorem map_bu (L : List Tn) (i : Nat) (hi : i < L.length) : (L.map (·.bu)).getD i 0 = (L.getD i zero).bu := by
  rw [List.getD_eq_getElem?_getD, List.getD_eq_getElem?_getD, List.getElem?_map, List.getElem?_eq_getElem hi]
  rfl
set_option maxRecDepth 100000 in
set_option maxHeartbeats 4000000 in
theorem tenantBudgets_walk (v0 : Value) (L : List Tn) (hll : L.length ≤ 9223372036854775807) (id : Int) (hid : -9223372036854775808 ≤ id ∧ id ≤ 9223372036854775807) (w : World) (hT : Tens w v0 L) :
    Calls Try.prog 6 #[v0, .int .i64 id] w fun e w' => e = .returned (.bool true) ∧ Fr0 w w' := by
  obtain ⟨A, C, rfl⟩ := hT.form
  have HT := Lib.hid hT
  have hid' := Lib.hid hid
  clear hT hid
  generalize hN : L.length = N at *
  have HN := Lib.hid hN
  clear hN
  go_enter Try.func6, Try.ntmps6
  go_wp2_with fail
  refine (awake_any _).mono ?_
  rintro e w1 ⟨rfl, hF1⟩
  have HF1 := Lib.hid hF1
  clear hF1
  by_cases h1 : 70 < (N : Int)
  ·
    go_wp2
    go_ret
    exact ⟨rfl, HF1.out⟩
  · have hbd := pbud_any (.slice A N C) L (by rw [HN.out]; omega) w1 (HT.out.fr0 HF1.out)
    go_wp2_with fail
    refine hbd.mono ?_
    clear hbd
    rintro e w2 ⟨vb, rfl, hI, hF⟩
    have HF2 := Lib.hid (HF1.out.trans' hF)
    have HI := Lib.hid hI
    obtain ⟨ba, bc, bpb, bpo, rfl, hble, hba, hbcell⟩ := hI
    have hml : (L.map (·.bu)).length = N := by rw [List.length_map]; exact HN.out
    rw [hml] at HI hba hbcell ⊢
    have HBA := Lib.hid hba
    have HBC := Lib.hid hbcell
    have hfd := pfind_any (.slice A N C) L id hid'.out (by rw [HN.out]; omega) w2 (HT.out.fr0 HF2.out)
    clear hF hble hba hbcell
    go_wp2_with fail
    refine hfd.mono ?_
    clear hfd
    rintro e w3 ⟨k, ok, rfl, ⟨hf1, hf2⟩, hF⟩
    have HF3 := Lib.hid (HF2.out.trans' hF)
    have HBC3 : Hid (∀ i, i < N → ∀ wr, Fr0 w3 wr → wr.cell? ⟨bpb, bpo + i, none⟩ = some (.int .i64 (L.getD i zero).bu)) := Lib.hid (fun i hi wr hfr => by
      have h1 := HBC.out i hi
      rw [map_bu L i (by rw [HN.out]; exact hi)] at h1
      rw [(hF.trans' hfr).cell (p := ⟨bpb, bpo + i, none⟩) (World.block_lt_of_cell? w2 _ h1) (fun f => f)]
      exact h1)
    clear hF HBC HI
    rw [HN.out] at hf1 hf2
    cases ok with
    | true =>
      obtain ⟨q1, q2, q3⟩ := hf1 rfl
      have HQ := Lib.hid q3
      obtain ⟨pb, po, B, D, rfl, hc, _⟩ := tens_at HT.out k (by rw [HN.out]; exact q1)
      have c0 := (hc w3 HF3.out).1
      rw [q2] at c0
      have k1 : (k : Int) < (N : Int) := by omega
      have k2 : 0 ≤ (k : Int) := by omega
      have k3 : decide (N ≤ k) = false := decide_eq_false (by omega)
      have k4 : decide ((k : Int) < 0) = false := decide_eq_false (by omega)
      have k5 : ¬ (N : Int) ≤ (k : Int) := by omega
      clear hf1 hf2 hc q2 q3
      go_wp2_with fail
      go_loopg [8] N (fun kx vi wr => ∃ (i : Nat), vi = .int .i64 (i : Int) ∧ i ≤ N ∧ N - i ≤ kx ∧ Hid (Fr0 w3 wr))
      case atStart => exact ⟨0, rfl, Nat.zero_le _, by omega, Lib.hid (Fr.refl _ _)⟩
      case round =>
        clear c0
        obtain ⟨i, rfl, hi, hkx, HFR⟩ := hrel
        by_cases hlt : i < N
        · obtain ⟨pb', po', B', D', hpq, hc, _⟩ := tens_at HT.out i (by rw [HN.out]; exact hlt)
          cases hpq
          obtain rfl := HBA.out (by omega)
          have i1 : (i : Int) < (N : Int) := by omega
          have i2 : 0 ≤ (i : Int) := by omega
          obtain ⟨c0, _, _, c3, _⟩ := hc wr (HF3.out.trans' HFR.out)
          have b0 := HBC3.out i hlt wr HFR.out
          have HNE := Lib.hid (HQ.out i)
          clear hc
          generalize (L.getD i zero).bu = x at *
          generalize (L.getD i zero).id = y at *
          have zx : (x != x) = false := bne_self_eq_false _
          by_cases hy : y = id
          · have zy : (y == id) = true := beq_iff_eq.2 hy
            have hik : ¬ (i : Int) < (k : Int) := fun h => HNE.out (by omega) hy
            clear hy
            go_wp2
            go_quiet (fail)
            have HF4 := Lib.hid (HFR.out.trans' ((Fr.refl (fun _ => False) wr).drewN nq))
            generalize wr.drewN nq = w4 at *
            clear c0 c3 b0
            go_wp2
            go_roundg (N - (i + 1))
            case measure => omega
            case rel => exact ⟨i + 1, by simp, by omega, by omega, HF4⟩
          · have zy : (y == id) = false := beq_eq_false_iff_ne.2 hy
            clear hy
            go_wp2
            go_quiet (fail)
            have HF4 := Lib.hid (HFR.out.trans' ((Fr.refl (fun _ => False) wr).drewN nq))
            generalize wr.drewN nq = w4 at *
            clear c0 c3 b0
            go_wp2
            go_roundg (N - (i + 1))
            case measure => omega
            case rel => exact ⟨i + 1, by simp, by omega, by omega, HF4⟩
        · obtain rfl : i = N := by omega
          go_wp2
          go_ret
          exact ⟨rfl, HF3.out.trans' HFR.out⟩
    | false =>
      have HQ := Lib.hid (hf2 rfl)
      clear hf1 hf2
      go_wp2_with fail
      go_loopg [8] N (fun kx vi wr => ∃ (i : Nat), vi = .int .i64 (i : Int) ∧ i ≤ N ∧ N - i ≤ kx ∧ Hid (Fr0 w3 wr))
      case atStart => exact ⟨0, rfl, Nat.zero_le _, by omega, Lib.hid (Fr.refl _ _)⟩
      case round =>
        obtain ⟨i, rfl, hi, hkx, HFR⟩ := hrel
        by_cases hlt : i < N
        · obtain ⟨pb, po, B, D, rfl, hc, _⟩ := tens_at HT.out i (by rw [HN.out]; exact hlt)
          obtain rfl := HBA.out (by omega)
          have i1 : (i : Int) < (N : Int) := by omega
          have i2 : 0 ≤ (i : Int) := by omega
          obtain ⟨c0, _, _, c3, _⟩ := hc wr (HF3.out.trans' HFR.out)
          have b0 := HBC3.out i hlt wr HFR.out
          have hy := HQ.out i hlt
          clear hc
          generalize (L.getD i zero).bu = x at *
          generalize (L.getD i zero).id = y at *
          have zx : (x != x) = false := bne_self_eq_false _
          have zy : (y == id) = false := beq_eq_false_iff_ne.2 hy
          clear hy
          go_wp2
          go_quiet (fail)
          have HF4 := Lib.hid (HFR.out.trans' ((Fr.refl (fun _ => False) wr).drewN nq))
          generalize wr.drewN nq = w4 at *
          clear c0 c3 b0
          go_wp2
          go_roundg (N - (i + 1))
          case measure => omega
          case rel => exact ⟨i + 1, by simp, by omega, by omega, HF4⟩
        · obtain rfl : i = N := by omega
          go_wp2
          go_ret
          exact ⟨rfl, HF3.out.trans' HFR.out⟩
end Go.Proofs.Ytjhnijcefpnldaa.TenantL
