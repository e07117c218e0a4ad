/-
  TenantParts walked.
-/
import Derived.Test.YtjhnijcefpnldaaTenantAwake
namespace Go.Proofs.Ytjhnijcefpnldaa.TenantL
open Go.RowKit Base _root_.Go.Proofs.Ytjhnijcefpnldaa.Tenant

def Tells (b : Bool) (P : Prop) : Prop := b = true ↔ P
def clip (b : Int) : Int := if 0 < b ∧ b < 1048576 then b else 0
def sumC (L : List Tn) : Nat → Int
  | 0 => 0
  | i + 1 => sumC L i + clip (L.getD i zero).bu
theorem clip_le (b : Int) : 0 ≤ clip b ∧ clip b ≤ 1048576 := by unfold clip; split <;> omega
theorem sumC_le (L : List Tn) : ∀ i : Nat, 0 ≤ sumC L i ∧ sumC L i ≤ 1048576 * (i : Int)
  | 0 => by simp [sumC]
  | i + 1 => by
    have h1 := sumC_le L i
    have h2 := clip_le (L.getD i zero).bu
    show 0 ≤ sumC L i + _ ∧ sumC L i + _ ≤ _
    omega
theorem Each_prev {L : List Tn} {i : Nat} (h : Each L (i + 1)) : Each L i := ⟨fun j hj => h.1 j (by omega), fun j hj => h.2 j (by omega)⟩
theorem sumC_each (L : List Tn) : ∀ i : Nat, Each L i → sumC L i = sumB L i
  | 0, _ => rfl
  | i + 1, h => by
    have h1 := sumC_each L i (Each_prev h)
    have h2 := ((good_iff _).1 (h.1 i (by omega))).2.2.2.1
    show sumC L i + clip _ = sumB L i + _
    rw [h1]
    unfold clip
    split <;> omega
/-- who is found by the ID of tenant i is i itself just if no one before has it -/
theorem found_at {L : List Tn} {i k : Nat} {ok : Bool} (hi : i < L.length) (h : FoundBy L (L.getD i zero).id k ok) : ok = true ∧ (k = i ↔ ∀ j, j < i → (L.getD j zero).id ≠ (L.getD i zero).id) := by
  obtain ⟨h1, h2⟩ := h
  cases ok with
  | false => exact absurd rfl (h2 rfl i hi)
  | true =>
    obtain ⟨q1, q2, q3⟩ := h1 rfl
    refine ⟨rfl, fun hk => by rw [← hk]; rw [hk]; rw [hk] at q3; exact q3, fun hn => ?_⟩
    rcases Nat.lt_trichotomy k i with hlt | heq | hgt
    · exact absurd q2 (hn k hlt)
    · exact heq
    · exact absurd rfl (q3 i hgt)
set_option maxRecDepth 100000 in
set_option maxHeartbeats 8000000 in
theorem tenantParts_walk (v0 : Value) (L : List Tn) (hll : L.length ≤ 9223372036854775807) (hsz : ∀ t ∈ L, SizedT t) (pool : Int) (hpo : -9223372036854775808 ≤ pool ∧ pool ≤ 9223372036854775807) (w : World) (hT : Tens w v0 L) :
    Calls Try.prog 5 #[v0, .int .i64 pool] w fun e w' => e = .returned (.bool true) ∧ Fr0 w w' := by
  obtain ⟨A, C, rfl⟩ := hT.form
  have HT := Lib.hid hT
  have HPO := Lib.hid hpo
  have HSZ : Hid (∀ i, i < L.length → SizedT (L.getD i zero)) := Lib.hid (fun i hi => hsz _ (by rw [List.getD_eq_getElem?_getD, List.getElem?_eq_getElem hi]; exact List.getElem_mem hi))
  have HNCC : Hid (∀ i, sumC L (i + 1) = sumC L i + clip (L.getD i zero).bu) := Lib.hid (fun i => rfl)
  clear hT hsz
  generalize hN : L.length = N at *
  have HN := Lib.hid hN
  clear hN
  go_enter Try.func5, Try.ntmps5
  go_wp2_with fail
  refine (awake_any _).mono ?_
  rintro e w1 ⟨rfl, hF1⟩
  have HF1 := Lib.hid hF1
  clear hF1
  by_cases h1 : (N : Int) < 1
  ·
    go_wp2
    go_ret
    exact ⟨rfl, HF1.out⟩
  · by_cases h2 : 64 < (N : Int)
    ·
      go_wp2
      go_ret
      exact ⟨rfl, HF1.out⟩
    · by_cases h3 : pool < 0
      ·
        go_wp2
        go_ret
        exact ⟨rfl, HF1.out⟩
      · by_cases h4 : 65536 < pool
        ·
          go_wp2
          go_ret
          exact ⟨rfl, HF1.out⟩
        · go_wp2_with fail
          go_loopg [5, 6, 7, 8, 9] N (fun kx vo vs vi _ _ wr => ∃ (i : Nat) (okb : Bool), vi = .int .i64 (i : Int) ∧ vo = .bool okb ∧ vs = .int .i64 (sumC L i) ∧ i ≤ N ∧ N - i ≤ kx ∧ Hid (Tells okb (Each L i)) ∧ Hid (Fr0 w wr))
          case atStart => exact ⟨0, true, rfl, rfl, rfl, Nat.zero_le _, by omega, Lib.hid ⟨fun _ => Each.start L, fun _ => rfl⟩, HF1⟩
          case round =>
            obtain ⟨i, okb, rfl, rfl, rfl, hi, hk, HE, HF⟩ := hrel
            have hsum := sumC_le L i
            by_cases hlt : i < N
            · obtain ⟨pb, po, B, D, rfl, hc, hb⟩ := tens_at HT.out i (by rw [HN.out]; exact hlt)
              have i1 : (i : Int) < (N : Int) := by omega
              have i2 : 0 ≤ (i : Int) := by omega
              have HC := Lib.hid hc
              have HNC := Lib.hid (HNCC.out i)
              have hszq := HSZ.out i hlt
              have HFA : Hid (∀ k ok, FoundBy L (L.getD i zero).id k ok → ok = true ∧ (k = i ↔ ∀ j, j < i → (L.getD j zero).id ≠ (L.getD i zero).id)) := Lib.hid (fun k ok h => found_at (by rw [HN.out]; exact hlt) h)
              have HPV : Hid (Each L (i + 1) → Each L i) := Lib.hid Each_prev
              have HLG : Hid (Each L (i + 1) → good (L.getD i zero) = true) := Lib.hid (fun h => h.1 i (by omega))
              have HLD : Hid (Each L (i + 1) → ∀ j, j < i → (L.getD j zero).id ≠ (L.getD i zero).id) := Lib.hid (fun h => h.2 i (by omega))
              have HLN : Hid (Each L i → good (L.getD i zero) = true → (∀ j, j < i → (L.getD j zero).id ≠ (L.getD i zero).id) → Each L (i + 1)) := Lib.hid (fun h => h.next)
              have hgd := pgoodT_any B D (L.getD i zero) hszq.2.1 wr
              have hidr := hszq.1
              have hbr := hszq.2.2.1
              obtain ⟨c0, c1, c2, c3, c4, c5, c6, c7, c8⟩ := hc wr HF.out
              clear hc hb hszq
              generalize L.getD i zero = q at *
              unfold t9 at hgd
              obtain ⟨G, hG⟩ : ∃ G, G = good q := ⟨_, rfl⟩
              rw [← hG] at hgd HLG HLN
              clear hG
              generalize sumC L i = sm at *
              obtain ⟨bu, hbu⟩ : ∃ b, b = q.bu := ⟨_, rfl⟩
              obtain ⟨ID, hID⟩ : ∃ b, b = q.id := ⟨_, rfl⟩
              rw [← hbu] at hbr HNC HC hgd c3
              rw [← hID] at hidr HC HFA HLD HLN hgd c0
              clear hbu hID
              cases okb with
              | false =>
                have HEI : Hid (Tells false (Each L (i + 1))) := Lib.hid ⟨(fun h => by cases h), fun h => HE.out.2 (HPV.out h)⟩
                have hfd := pfind_any (.slice (some ⟨pb, po, none⟩) N C) L ID hidr (by rw [HN.out]; omega) _ (HT.out.fr0 HF.out)
                go_wp2_with fail
                refine hfd.mono ?_
                clear hfd
                rintro e w4 ⟨k, ok, rfl, hfnd, hF4⟩
                have HF5 := Lib.hid ((HF.out).trans' hF4)
                have HFND := Lib.hid hfnd
                obtain ⟨c0, _, _, c3, _⟩ := HC.out w4 HF5.out
                clear hF4 hfnd
                by_cases hb1 : 0 < bu
                · by_cases hb2 : bu < 1048576
                  · have hw : wrap64 (sm + bu) = sm + bu := by simp only [wrap64]; omega
                    have HSM : Hid (sumC L (i + 1) = sm + bu) := Lib.hid (by rw [HNC.out]; unfold clip; rw [if_pos ⟨hb1, hb2⟩])
                    go_wp2
                    go_roundg (N - (i + 1))
                    case measure => omega
                    case rel => exact ⟨i + 1, _, by simp, rfl, by rw [HSM.out], by omega, by omega, HEI, HF5⟩
                  · have HSM : Hid (sumC L (i + 1) = sm) := Lib.hid (by rw [HNC.out]; unfold clip; rw [if_neg (fun h => hb2 h.2)]; omega)
                    go_wp2
                    go_roundg (N - (i + 1))
                    case measure => omega
                    case rel => exact ⟨i + 1, _, by simp, rfl, by rw [HSM.out], by omega, by omega, HEI, HF5⟩
                · have HSM : Hid (sumC L (i + 1) = sm) := Lib.hid (by rw [HNC.out]; unfold clip; rw [if_neg (fun h => hb1 h.1)]; omega)
                  go_wp2
                  go_roundg (N - (i + 1))
                  case measure => omega
                  case rel => exact ⟨i + 1, _, by simp, rfl, by rw [HSM.out], by omega, by omega, HEI, HF5⟩
              | true =>
                go_wp2_with fail
                refine hgd.mono ?_
                clear hgd c0 c1 c2 c3 c4 c5 c6 c7 c8
                rintro e w3 ⟨rfl, hF3⟩
                have HF3 := Lib.hid (HF.out.trans' hF3)
                clear hF3
                obtain ⟨c0, _, _, c3, _⟩ := HC.out w3 HF3.out
                cases G with
                | false =>
                  have HEI : Hid (Tells false (Each L (i + 1))) := Lib.hid ⟨(fun h => by cases h), fun h => by have := HLG.out h; cases this⟩
                  have hfd := pfind_any (.slice (some ⟨pb, po, none⟩) N C) L ID hidr (by rw [HN.out]; omega) _ (HT.out.fr0 HF3.out)
                  go_wp2_with fail
                  refine hfd.mono ?_
                  clear hfd
                  rintro e w4 ⟨k, ok, rfl, hfnd, hF4⟩
                  have HF5 := Lib.hid ((HF3.out).trans' hF4)
                  have HFND := Lib.hid hfnd
                  obtain ⟨c0, _, _, c3, _⟩ := HC.out w4 HF5.out
                  clear hF4 hfnd
                  by_cases hb1 : 0 < bu
                  · by_cases hb2 : bu < 1048576
                    · have hw : wrap64 (sm + bu) = sm + bu := by simp only [wrap64]; omega
                      have HSM : Hid (sumC L (i + 1) = sm + bu) := Lib.hid (by rw [HNC.out]; unfold clip; rw [if_pos ⟨hb1, hb2⟩])
                      go_wp2
                      go_roundg (N - (i + 1))
                      case measure => omega
                      case rel => exact ⟨i + 1, _, by simp, rfl, by rw [HSM.out], by omega, by omega, HEI, HF5⟩
                    · have HSM : Hid (sumC L (i + 1) = sm) := Lib.hid (by rw [HNC.out]; unfold clip; rw [if_neg (fun h => hb2 h.2)]; omega)
                      go_wp2
                      go_roundg (N - (i + 1))
                      case measure => omega
                      case rel => exact ⟨i + 1, _, by simp, rfl, by rw [HSM.out], by omega, by omega, HEI, HF5⟩
                  · have HSM : Hid (sumC L (i + 1) = sm) := Lib.hid (by rw [HNC.out]; unfold clip; rw [if_neg (fun h => hb1 h.1)]; omega)
                    go_wp2
                    go_roundg (N - (i + 1))
                    case measure => omega
                    case rel => exact ⟨i + 1, _, by simp, rfl, by rw [HSM.out], by omega, by omega, HEI, HF5⟩
                | true =>
                  have hfd := pfind_any (.slice (some ⟨pb, po, none⟩) N C) L ID hidr (by rw [HN.out]; omega) _ (HT.out.fr0 HF3.out)
                  go_wp2_with fail
                  refine hfd.mono ?_
                  clear hfd
                  rintro e w4 ⟨k, ok, rfl, hfnd, hF4⟩
                  have HF5 := Lib.hid ((HF3.out).trans' hF4)
                  have HFND := Lib.hid hfnd
                  obtain ⟨c0, _, _, c3, _⟩ := HC.out w4 HF5.out
                  clear hF4 hfnd
                  obtain ⟨rfl, hki⟩ := HFA.out k ok HFND.out
                  by_cases hkk : k = i
                  · have HEI : Hid (Tells true (Each L (i + 1))) := Lib.hid ⟨fun _ => HLN.out (HE.out.1 rfl) (by trivial) (hki.1 hkk), fun _ => rfl⟩
                    have zk : ((k : Int) == (i : Int)) = true := beq_iff_eq.2 (by omega)
                    clear hkk hki
                    by_cases hb1 : 0 < bu
                    · by_cases hb2 : bu < 1048576
                      · have hw : wrap64 (sm + bu) = sm + bu := by simp only [wrap64]; omega
                        have HSM : Hid (sumC L (i + 1) = sm + bu) := Lib.hid (by rw [HNC.out]; unfold clip; rw [if_pos ⟨hb1, hb2⟩])
                        go_wp2
                        go_roundg (N - (i + 1))
                        case measure => omega
                        case rel => exact ⟨i + 1, _, by simp, rfl, by rw [HSM.out], by omega, by omega, HEI, HF5⟩
                      · have HSM : Hid (sumC L (i + 1) = sm) := Lib.hid (by rw [HNC.out]; unfold clip; rw [if_neg (fun h => hb2 h.2)]; omega)
                        go_wp2
                        go_roundg (N - (i + 1))
                        case measure => omega
                        case rel => exact ⟨i + 1, _, by simp, rfl, by rw [HSM.out], by omega, by omega, HEI, HF5⟩
                    · have HSM : Hid (sumC L (i + 1) = sm) := Lib.hid (by rw [HNC.out]; unfold clip; rw [if_neg (fun h => hb1 h.1)]; omega)
                      go_wp2
                      go_roundg (N - (i + 1))
                      case measure => omega
                      case rel => exact ⟨i + 1, _, by simp, rfl, by rw [HSM.out], by omega, by omega, HEI, HF5⟩
                  · have HEI : Hid (Tells false (Each L (i + 1))) := Lib.hid ⟨(fun h => by cases h), fun h => absurd (hki.2 (HLD.out h)) hkk⟩
                    have zk : ((k : Int) == (i : Int)) = false := beq_eq_false_iff_ne.2 (by omega)
                    clear hkk hki
                    by_cases hb1 : 0 < bu
                    · by_cases hb2 : bu < 1048576
                      · have hw : wrap64 (sm + bu) = sm + bu := by simp only [wrap64]; omega
                        have HSM : Hid (sumC L (i + 1) = sm + bu) := Lib.hid (by rw [HNC.out]; unfold clip; rw [if_pos ⟨hb1, hb2⟩])
                        go_wp2
                        go_roundg (N - (i + 1))
                        case measure => omega
                        case rel => exact ⟨i + 1, _, by simp, rfl, by rw [HSM.out], by omega, by omega, HEI, HF5⟩
                      · have HSM : Hid (sumC L (i + 1) = sm) := Lib.hid (by rw [HNC.out]; unfold clip; rw [if_neg (fun h => hb2 h.2)]; omega)
                        go_wp2
                        go_roundg (N - (i + 1))
                        case measure => omega
                        case rel => exact ⟨i + 1, _, by simp, rfl, by rw [HSM.out], by omega, by omega, HEI, HF5⟩
                    · have HSM : Hid (sumC L (i + 1) = sm) := Lib.hid (by rw [HNC.out]; unfold clip; rw [if_neg (fun h => hb1 h.1)]; omega)
                      go_wp2
                      go_roundg (N - (i + 1))
                      case measure => omega
                      case rel => exact ⟨i + 1, _, by simp, rfl, by rw [HSM.out], by omega, by omega, HEI, HF5⟩
            · obtain rfl : i = N := by omega
              have hal := pall_any (.slice A i C) L pool HPO.out (by rw [HN.out]; omega) (fun j hj => (HSZ.out j (by rw [← HN.out]; exact hj)).2.1) wr (HT.out.fr0 HF.out)
              have HAN := Lib.hid (fun h => all_no (L := L) (pool := pool) h)
              have HAY := Lib.hid (fun h => all_yes (L := L) (pool := pool) h)
              have HSB := Lib.hid (sumC_each L i)
              cases okb with
              | false =>
                rw [HAN.out (fun h => by have h5 := HE.out.2 (by have h6 := h.2.2.1; rw [HN.out] at h6; exact h6); cases h5)] at hal
                go_wp2_with fail
                refine hal.mono ?_
                clear hal
                rintro e w5 ⟨rfl, hF5⟩
                have HF6 := Lib.hid (HF.out.trans' hF5)
                clear hF5
                go_wp2
                go_ret
                exact ⟨rfl, HF6.out⟩
              | true =>
                have hE := HE.out.1 rfl
                have hSB := HSB.out hE
                by_cases hs : sumC L i ≤ pool
                · rw [HAY.out ⟨by rw [HN.out]; omega, by omega, by rw [HN.out]; exact hE, by rw [HN.out, ← hSB]; exact hs⟩] at hal
                  clear hSB
                  generalize sumC L i = sm at *
                  go_wp2_with fail
                  refine hal.mono ?_
                  clear hal
                  rintro e w5 ⟨rfl, hF5⟩
                  have HF6 := Lib.hid (HF.out.trans' hF5)
                  clear hF5
                  go_wp2
                  go_ret
                  exact ⟨rfl, HF6.out⟩
                · rw [HAN.out (fun h => hs (by rw [hSB]; have h5 := h.2.2.2; rw [HN.out] at h5; exact h5))] at hal
                  have hd : decide (sumC L i ≤ pool) = false := decide_eq_false hs
                  clear hSB
                  generalize sumC L i = sm at *
                  go_wp2_with fail
                  refine hal.mono ?_
                  clear hal
                  rintro e w5 ⟨rfl, hF5⟩
                  have HF6 := Lib.hid (HF.out.trans' hF5)
                  clear hF5
                  go_wp2
                  go_ret
                  exact ⟨rfl, HF6.out⟩
end Go.Proofs.Ytjhnijcefpnldaa.TenantL
