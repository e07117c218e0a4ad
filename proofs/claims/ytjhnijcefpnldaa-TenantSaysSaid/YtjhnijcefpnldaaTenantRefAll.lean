/-
  The reference's All.
-/
import Derived.Test.YtjhnijcefpnldaaTenantRef
import Derived.Deep.DeepCutAuto
namespace Go.Proofs.Ytjhnijcefpnldaa.Tenant
open Go.RowKit Base

set_option maxRecDepth 100000 in
set_option maxHeartbeats 8000000 in
theorem rall_any (v : Value) (L : List Tn) (pool : Int) (hp : -9223372036854775808 ≤ pool ∧ pool ≤ 9223372036854775807) (hl : L.length ≤ 9223372036854775807) (hkey : ∀ i, i < L.length → (L.getD i zero).key.length ≤ 9223372036854775807) (w : World) (hT : Tens w v L) :
    Calls Try.prog 15 #[v, .int .i64 pool] w fun e w' => e = .returned (.int .i64 (allErr L pool)) ∧ Fr0 w w' := by
  obtain ⟨A, C, rfl⟩ := hT.form
  have HT := Lib.hid hT
  have HKL := Lib.hid hkey
  have HNO : Hid (¬ Fits L pool → allErr L pool = 1) := Lib.hid all_no
  have HYES : Hid (Fits L pool → allErr L pool = 0) := Lib.hid all_yes
  have HIN := Lib.hid (rin_any pool 0 65536)
  have HNX : Hid (∀ i, sumB L (i + 1) = sumB L i + (L.getD i zero).bu) := Lib.hid (fun i => rfl)
  have HP := Lib.hid hp
  clear hT hkey hp
  generalize allErr L pool = er at *
  generalize hN : L.length = N at *
  have HN := Lib.hid hN
  clear hN
  by_cases h1 : (N : Int) < 1
  · have HE := Lib.hid (HNO.out (fun h => by have := h.1.1; rw [HN.out] at this; omega))
    go_enter Try.func15, Try.ntmps15
    go_wp2
    go_ret
    exact ⟨by rw [HE.out]; rfl, Fr.refl _ _⟩
  · by_cases h2 : 64 < (N : Int)
    · have HE := Lib.hid (HNO.out (fun h => by have := h.1.2; rw [HN.out] at this; omega))
      go_enter Try.func15, Try.ntmps15
      go_wp2
      go_ret
      exact ⟨by rw [HE.out]; rfl, Fr.refl _ _⟩
    · have hin := HIN.out w
      cases hpb : inn pool 0 65536 with
      | false =>
        have HE := Lib.hid (HNO.out (fun h => by have h3 := (inn_iff pool 0 65536).2 h.2.1; rw [hpb] at h3; cases h3))
        rw [hpb] at hin
        clear hpb
        go_enter Try.func15, Try.ntmps15
        go_wp2_with fail
        refine hin.mono ?_
        clear hin
        rintro e wq ⟨rfl, rfl⟩
        go_wp2
        go_ret
        exact ⟨by rw [HE.out]; rfl, Fr.refl _ _⟩
      | true =>
        have HPL := Lib.hid ((inn_iff pool 0 65536).1 hpb)
        rw [hpb] at hin
        clear hpb
        go_enter Try.func15, Try.ntmps15
        go_wp2_with fail
        refine hin.mono ?_
        clear hin
        rintro e wq ⟨rfl, rfl⟩
        go_wp2_with fail
        go_loopg [5, 6, 7] N (fun kx vn vi _ wr => ∃ (i : Nat), vi = .int .i64 (i : Int) ∧ vn = .int .i64 (sumB L i) ∧ i ≤ N ∧ N - i ≤ kx ∧ Hid (Each L i) ∧ Hid (Fr0 w wr))
        case atStart => exact ⟨0, rfl, rfl, Nat.zero_le _, by omega, Lib.hid (Each.start L), Lib.hid (Fr.refl _ _)⟩
        case round =>
          obtain ⟨i, rfl, rfl, hi, hk, HEA, HF⟩ := hrel
          have hsum := HEA.out.sum
          by_cases hlt : i < N
          · obtain ⟨pb, po, B, D, rfl, hc, hb⟩ := tens_at HT.out i (by have := HN.out; omega)
            have i1 : (i : Int) < (N : Int) := by omega
            have i2 : 0 ≤ (i : Int) := by omega
            have HC := Lib.hid hc
            have hgd := rgoodT_any B D (L.getD i zero) (HKL.out i hlt) wr
            obtain ⟨c0, c1, c2, c3, c4, c5, c6, c7, c8⟩ := hc wr HF.out
            have HNI := Lib.hid (HNX.out i)
            have HBG : Hid (good (L.getD i zero) = true → 0 ≤ (L.getD i zero).bu ∧ (L.getD i zero).bu ≤ 65536) := Lib.hid (fun h => ((good_iff _).1 h).2.2.2.1)
            have HEN := Lib.hid (fun h1 h2 => HEA.out.next (i := i) h1 h2)
            have HBAD : Hid (good (L.getD i zero) = false → er = 1) := Lib.hid (fun h => HNO.out (fun hf => by
              have h1 := hf.2.2.1.1 i (by rw [HN.out]; exact hlt)
              rw [h] at h1
              cases h1))
            have HDUP : Hid (∀ k, k < i → (L.getD k zero).id = (L.getD i zero).id → er = 1) := Lib.hid (fun k hk he => HNO.out (fun hf => hf.2.2.1.2 i (by rw [HN.out]; exact hlt) k hk he))
            clear hc hb
            generalize hq : L.getD i zero = q at *
            have HQ := Lib.hid hq
            clear hq
            unfold t9 at hgd
            obtain ⟨g, hg⟩ : ∃ g, g = good q := ⟨_, rfl⟩
            rw [← hg] at hgd HBG HEN HBAD
            clear hg
            generalize sumB L i = sm at *
            go_wp2_with fail
            refine hgd.mono ?_
            clear hgd c0 c1 c2 c3 c4 c5 c6 c7 c8
            rintro e w2 ⟨rfl, hF2⟩
            have HF2 := Lib.hid (HF.out.trans' hF2)
            clear hF2
            cases g with
            | false =>
              have HE := Lib.hid (HBAD.out rfl)
              go_wp2
              go_ret
              exact ⟨by rw [HE.out]; rfl, HF2.out⟩
            | true =>
              obtain ⟨b1, b2⟩ := HBG.out rfl
              go_wp2_with fail
              go_loopg [7] i (fun kx vk wr => ∃ (k : Nat), vk = .int .i64 (k : Int) ∧ k ≤ i ∧ i - k ≤ kx ∧ Hid (∀ j, j < k → (L.getD j zero).id ≠ q.id) ∧ Hid (Fr0 w wr))
              case atStart => exact ⟨0, rfl, Nat.zero_le _, by omega, Lib.hid (fun j h => absurd h (Nat.not_lt_zero j)), HF2⟩
              case round =>
                obtain ⟨k, rfl, hk1, hk2, HNE, HF3⟩ := hrel
                by_cases hlk : k < i
                · obtain ⟨pb', po', B', D', hpq, hc', _⟩ := tens_at HT.out k (by have := HN.out; omega)
                  cases hpq
                  have k1 : (k : Int) < (i : Int) := by omega
                  have k2 : 0 ≤ (k : Int) := by omega
                  have k3 : (k : Int) < (N : Int) := by omega
                  have d0 := (HC.out wr HF3.out).1
                  have e0 := (hc' wr HF3.out).1
                  have HDK := Lib.hid (HDUP.out k hlk)
                  have HNN : Hid ((L.getD k zero).id ≠ q.id → ∀ j, j < k + 1 → (L.getD j zero).id ≠ q.id) := Lib.hid (fun hne j hj => by
                    rcases Nat.lt_or_eq_of_le (Nat.le_of_lt_succ hj) with h1 | rfl
                    · exact HNE.out j h1
                    · exact hne)
                  clear hc'
                  generalize (L.getD k zero).id = x at *
                  generalize q.id = y at *
                  by_cases hxy : x = y
                  · have z : (x == y) = true := beq_iff_eq.2 hxy
                    have HE := Lib.hid (HDK.out hxy)
                    clear hxy
                    go_wp2
                    go_quiet (fail)
                    have HF4 := Lib.hid (HF3.out.trans' ((Fr.refl (fun _ => False) wr).drewN nq))
                    generalize wr.drewN nq = w4 at *
                    go_wp2
                    go_ret
                    exact ⟨by rw [HE.out]; rfl, HF4.out⟩
                  · have z : (x == y) = false := beq_eq_false_iff_ne.2 hxy
                    have HNK := Lib.hid (HNN.out hxy)
                    clear hxy
                    go_wp2
                    go_quiet (fail)
                    have HF4 := Lib.hid (HF3.out.trans' ((Fr.refl (fun _ => False) wr).drewN nq))
                    generalize wr.drewN nq = w4 at *
                    clear d0 e0
                    go_wp2
                    go_roundg (i - (k + 1))
                    case measure => omega
                    case rel => exact ⟨k + 1, by simp, by omega, by omega, HNK, HF4⟩
                · obtain rfl : k = i := by omega
                  have c3 := (HC.out wr HF3.out).2.2.2.1
                  have HEK := Lib.hid (HEN.out trivial HNE.out)
                  have hw : wrap64 (sm + q.bu) = sm + q.bu := by simp only [wrap64]; omega
                  rw [← HNI.out] at hw
                  have HSM : Hid (sumB L (k + 1) = sm + q.bu) := HNI
                  go_wp2
                  go_roundg (N - (k + 1))
                  case measure => omega
                  case rel => exact ⟨k + 1, by simp, by rw [HSM.out], by omega, by omega, HEK, HF3⟩
          · obtain rfl : i = N := by omega
            by_cases hs : pool < sumB L i
            · have HE := Lib.hid (HNO.out (fun h => by have h1 := h.2.2.2; rw [HN.out] at h1; omega))
              go_wp2
              go_ret
              exact ⟨by rw [HE.out]; rfl, HF.out⟩
            · have HE := Lib.hid (HYES.out ⟨by rw [HN.out]; omega, HPL.out, by rw [HN.out]; exact HEA.out, by rw [HN.out]; omega⟩)
              go_wp2
              go_ret
              exact ⟨by rw [HE.out]; rfl, HF.out⟩
end Go.Proofs.Ytjhnijcefpnldaa.Tenant
