/-
  ArenaApart: a write changes bytes of its part alone: the walk.
-/
import Derived.Test.YtjpnmkcbkpikoaaAreAwake
import Derived.Test.YtjpnmkcbkpikoaaAreApartS
namespace Go.Proofs.Ytjpnmkcbkpikoaa.Arena
open Go.RowKit Base

theorem region_any (B g pb cb : Nat) (L : List Int) (bs : List UInt8) (i : Int) (w : World) (h : AreP w B g pb cb L bs) :
    Calls Try.prog 12 #[ptr g, .int .i64 i] w fun e w' => ∃ (F T : Int) (O : Bool), e = .returned (.tuple #[.int .i64 F, .int .i64 T, .bool O]) ∧ (∀ k : Nat, i = (k : Int) → k < L.length → O = true ∧ F = cut L k ∧ T = cut L (k + 1)) ∧ ((i < 0 ∨ (L.length : Int) ≤ i) → O = false ∧ F = 0 ∧ T = 0) ∧ Fr0 w w' := by
  by_cases hi : i < 0 ∨ (L.length : Int) ≤ i
  · refine (region_out B g pb cb L bs i w h hi).mono ?_
    rintro e w' ⟨rfl, hf⟩
    exact ⟨0, 0, false, rfl, fun k hk hl => by omega, fun _ => ⟨rfl, rfl, rfl⟩, hf⟩
  · obtain ⟨k, rfl⟩ := Int.eq_ofNat_of_zero_le (show 0 ≤ i by omega)
    refine (region_in B g pb cb L bs k w h (by omega)).mono ?_
    rintro e w' ⟨rfl, hf⟩
    refine ⟨_, _, true, rfl, fun j hj hl => ?_, fun h' => absurd h' hi, hf⟩
    obtain rfl : k = j := by omega
    exact ⟨rfl, rfl, rfl⟩
/-- what a write turns -/
theorem wrote_turns {L : List Int} {bs : List UInt8} (hF : Fits (bs.length : Int) L) (i at_ : Int) (x : List UInt8) (j : Nat) (h : bs.getD j 0 ≠ (wrote L bs i at_ x).getD j 0) : perr L i at_ (x.length : Int) = 0 ∧ ∃ k : Nat, i = (k : Int) ∧ k < L.length ∧ cut L k ≤ (j : Int) ∧ (j : Int) < cut L (k + 1) := by
  by_cases h1 : perr L i at_ (x.length : Int) = 0
  · rw [wrote_in h1] at h
    have hpl := perr_place hF h1
    refine ⟨h1, ?_⟩
    obtain ⟨k, a, m, rfl, rfl, e3, hk, hm⟩ := perr_iff h1
    simp only [Int.toNat_natCast] at h hpl
    have hpi := place_int hF k a hk
    have hsu := cut_succ L k hk
    rw [List.getD_eq_getElem?_getD, List.getD_eq_getElem?_getD, putAt_get _ _ _ hpl] at h
    by_cases h2 : place L k a ≤ j ∧ j < place L k a + x.length
    · exact ⟨k, rfl, hk, by omega, by omega⟩
    · rw [if_neg h2] at h
      exact absurd rfl h
  · rw [wrote_not h1] at h
    exact absurd rfl h
set_option maxHeartbeats 8000000 in
set_option maxRecDepth 100000 in
theorem arenaApart_walk (v0 v3 : Value) (L : List Int) (b : List UInt8) (i at_ : Int) (hL : L.length ≤ 9223372036854775807) (hbd : ∀ n ∈ L, -9223372036854775808 ≤ n ∧ n ≤ 9223372036854775807) (hi : I64 i) (ha : I64 at_) (hb : b.length ≤ 9223372036854775807) (w : World) (hA : IntsIs w v0 L) (hB : BytesIs w v3 b) :
    Calls Try.prog 5 #[v0, .int .i64 i, .int .i64 at_, v3] w fun e w' => e = .returned (.bool true) ∧ Fr0 w w' := by
  have HI := Lib.hid hA
  have HB := Lib.hid hB
  have HBD := Lib.hid hbd
  have HII := Lib.hid hi
  have HAT := Lib.hid ha
  obtain ⟨a, cap, pb, po, rfl, hcap, ha0, hc0⟩ := hA
  obtain ⟨A3, C3, pa3, po3, rfl, _⟩ := hB
  have HA := Lib.hid ha0
  have HC := Lib.hid hc0
  clear ha0 hc0 hbd hcap hi ha
  by_cases hbad : 20 < L.length ∨ 2000 < b.length
  · have HX := Lib.hid hbad
    clear hbad
    go_enter Try.func5, Try.ntmps5
    go_wp2_with fail
    refine (awake_any w).mono ?_
    rintro e w1 ⟨rfl, hF1⟩
    have HF1 := Lib.hid hF1
    clear hF1
    by_cases h1 : 20 < L.length
    · go_wp2
      go_ret
      exact ⟨rfl, HF1.out⟩
    · have h2 : 2000 < b.length := by have := HX.out; omega
      go_wp2
      go_ret
      exact ⟨rfl, HF1.out⟩
  · have h20 : ¬ 20 < L.length := by omega
    have h2000 : ¬ 2000 < b.length := by omega
    clear hbad
    go_enter Try.func5, Try.ntmps5
    go_wp2_with fail
    refine (awake_any w).mono ?_
    rintro e w1 ⟨rfl, hF1⟩
    have HF1 := Lib.hid hF1
    clear hF1
    go_wp2
    go_loopg [9, 10] L.length (fun kx s j wr => ∃ k : Nat, j = .int .i64 k ∧ s = .int .i64 (cut L k) ∧ k ≤ L.length ∧ L.length - k ≤ kx ∧ Hid (Fr0 w wr) ∧ Hid (∀ j, j < k → 0 ≤ L.getD j 0) ∧ 0 ≤ cut L k ∧ cut L k ≤ 2000 * (k : Int))
    case atStart => exact ⟨0, rfl, by rw [cut_zero], Nat.zero_le _, by omega, HF1, Lib.hid (fun j hj => absurd hj (Nat.not_lt_zero _)), by rw [cut_zero]; exact Int.le_refl _, by rw [cut_zero]; omega⟩
    case round =>
      clear HF1
      obtain ⟨k, rfl, rfl, hk, hg, HF, HP, hz, hle⟩ := hrel
      by_cases hlt : k < L.length
      · obtain rfl := HA.out (by omega)
        have c0 : wr.cell? ⟨pb, po + k, none⟩ = some (.int .i64 (L.getD k 0)) := (HF.out.cell (p := ⟨pb, po + k, none⟩) (World.block_lt_of_cell? w _ (HC.out k hlt)) (fun f => f)).trans (HC.out k hlt)
        have hx := HBD.out (L.getD k 0) (by simp [hlt])
        have HS := Lib.hid (cut_succ L k hlt)
        generalize hX : L.getD k 0 = x at *
        have HX := Lib.hid hX
        generalize hC0 : cut L k = c at *
        clear hX hC0
        have i1 : (k : Int) < (L.length : Int) := by omega
        have i2 : 0 ≤ (k : Int) := by omega
        by_cases hx0 : x < 0
        · go_wp2
          go_ret
          exact ⟨rfl, HF.out⟩
        · by_cases hx1 : 2000 < x
          · go_wp2
            go_ret
            exact ⟨rfl, HF.out⟩
          · go_wp2
            go_roundg (L.length - (k + 1))
            case measure => omega
            case rel =>
              refine ⟨k + 1, by simp, by rw [HS.out], by omega, by omega, HF, Lib.hid (fun j hj => ?_), by rw [HS.out]; omega, by rw [HS.out]; omega⟩
              by_cases hjk : j = k
              · subst hjk; rw [HX.out]; omega
              · exact HP.out j (by omega)
      · obtain rfl : k = L.length := by omega
        have HFIT : Hid (Fits (cut L L.length + 5) L) := Lib.hid ⟨by omega, by omega, by omega, HP.out, by omega⟩
        obtain ⟨n, hn⟩ := Int.eq_ofNat_of_zero_le (show 0 ≤ cut L L.length + 5 by omega)
        have HN := Lib.hid hn
        have hn2 : n ≤ 65536 := by omega
        clear hn
        go_wp2_with fail
        refine (new_any (cut L L.length + 5) _ L hL HBD.out (by omega) wr (HI.out.fr0 HF.out)).mono ?_
        rintro e w2 ⟨hok, _, hf⟩
        obtain ⟨g, qb, cb, rfl, hAr⟩ := hok HFIT.out
        have HF2 : Hid (Fr0 w w2) := Lib.hid (HF.out.trans' hf)
        obtain ⟨bs, hbs⟩ : ∃ bs, List.replicate (cut L L.length + 5).toNat (0 : UInt8) = bs := ⟨_, rfl⟩
        rw [hbs] at hAr
        have HBL : Hid (bs.length = n) := Lib.hid (by rw [← hbs, List.length_replicate]; have := HN.out; omega)
        have HAR2 : Hid (AreP w2 w.heap.size g qb cb L bs) := Lib.hid (hAr.base HF.out.size)
        have HFB := Lib.hid HAR2.out.fits
        clear hok hf hAr hbs HFIT HN HC HA HP hz hle
        unfold ptr
        go_wp2_with fail
        refine (all_new _ g qb cb L bs w2 HAR2.out).mono ?_
        rintro e w3 ⟨v1, rfl, hb1, hf, hn1⟩
        have HF3 : Hid (Fr0 w w3) := Lib.hid (HF2.out.trans' hf)
        have HAR3 := Lib.hid (HAR2.out.fr0 hf)
        have HV1 := Lib.hid hb1
        have HN1 : Hid (∀ a n c, v1 = .slice (some a) n c → ¬ a.block = qb) := Lib.hid (fun a n c h e => by
          have h1 := hn1 a n c h
          have h2 := HAR2.out.pb_lt
          omega)
        clear hb1 hf HAR2 hn1 HF2
        go_wp2_with fail
        refine (write_any _ g qb cb L bs b i at_ _ HII.out HAT.out hb w3 HAR3.out (HB.out.fr0 HF3.out)).mono ?_
        rintro e w4 ⟨rfl, hA4, hf⟩
        have HF4 : Hid (Fr0 w w4) := Lib.hid (fr0_of_fr1 HF3.out hf hA4.pB)
        have HAR4 := Lib.hid hA4
        have HV4 := Lib.hid (HV1.out.fr hf HN1.out)
        clear hA4 hf HAR3 HV1 HN1 HF3
        obtain ⟨c, hc⟩ : ∃ c, perr L i at_ (b.length : Int) = c := ⟨_, rfl⟩
        have HCC := Lib.hid hc
        rw [hc]
        have HTU : Hid (∀ j, bs.getD j 0 ≠ (wrote L bs i at_ b).getD j 0 → c = 0 ∧ ∃ k : Nat, i = (k : Int) ∧ k < L.length ∧ cut L k ≤ (j : Int) ∧ (j : Int) < cut L (k + 1)) := Lib.hid (fun j h => by rw [← hc]; exact wrote_turns HFB.out i at_ b j h)
        have HSE : Hid (c = 0 → readOut L (wrote L bs i at_ b) i at_ (b.length : Int) = b) := Lib.hid (fun h => readOut_self HFB.out i at_ b (by rw [hc]; exact h))
        have HWL : Hid ((wrote L bs i at_ b).length = n) := Lib.hid (by rw [wrote_length HFB.out, HBL.out])
        obtain ⟨bs2, hbs2⟩ : ∃ bs2, wrote L bs i at_ b = bs2 := ⟨_, rfl⟩
        rw [hbs2] at HTU HSE HWL HAR4
        clear hc hbs2 HFB
        go_wp2_with fail
        refine (all_any _ g qb cb L bs2 w4 HAR4.out).mono ?_
        rintro e w5 ⟨v5, rfl, hb5, hf⟩
        have HF5 := Lib.hid (HF4.out.trans' hf)
        have HAR5 := Lib.hid (HAR4.out.fr0 hf)
        have HV5 := Lib.hid (HV4.out.fr0 hf)
        have HW5 := Lib.hid hb5
        clear hb5 hf HF4 HAR4 HV4
        go_wp2_with fail
        refine (region_any _ g qb cb L bs2 i w5 HAR5.out).mono ?_
        rintro e w6 ⟨F, T, O, rfl, h1, _, hf⟩
        have HF6 := Lib.hid (HF5.out.trans' hf)
        have HAR6 := Lib.hid (HAR5.out.fr0 hf)
        have HV6 := Lib.hid (HV5.out.fr0 hf)
        have HW6 := Lib.hid (HW5.out.fr0 hf)
        have HIN : Hid (∀ j, bs.getD j 0 ≠ bs2.getD j 0 → c = 0 ∧ O = true ∧ F ≤ (j : Int) ∧ (j : Int) < T) := Lib.hid (fun j h => by
          obtain ⟨h2, k, hik, hkl, h3, h4⟩ := HTU.out j h
          obtain ⟨h5, h6, h7⟩ := h1 k hik hkl
          exact ⟨h2, h5, by rw [h6]; exact h3, by rw [h7]; exact h4⟩)
        clear h1 hf HF5 HAR5 HV5 HW5 HTU
        obtain ⟨A1, C1, p1, o1, rfl, _, ha1, hc1⟩ := HV6.out
        obtain ⟨A2, C2, p2, o2, rfl, _, ha2, hc2⟩ := HW6.out
        have HA1 := Lib.hid ha1
        have HA2 := Lib.hid ha2
        have HC1 := Lib.hid hc1
        have HC2 := Lib.hid hc2
        rw [HBL.out] at HA1 HC1 ⊢
        rw [HWL.out] at HA2 HC2 ⊢
        clear ha1 ha2 hc1 hc2 HV6 HW6
        go_wp2
        go_loopg [19] n (fun kx s wx => ∃ j : Nat, s = .int .i64 j ∧ j ≤ n ∧ n - j ≤ kx ∧ Hid (Fr0 w6 wx))
        case atStart => exact ⟨0, rfl, Nat.zero_le _, by omega, Lib.hid (Fr.refl _ _)⟩
        case round =>
          obtain ⟨j, rfl, hjn, hgj, HFx⟩ := hrel
          by_cases hjl : j < n
          · obtain rfl := HA1.out (by omega)
            obtain rfl := HA2.out (by omega)
            have d1 := (HFx.out.cell (p := ⟨p1, o1 + j, none⟩) (World.block_lt_of_cell? w6 _ (HC1.out j hjl)) (fun f => f)).trans (HC1.out j hjl)
            have d2 := (HFx.out.cell (p := ⟨p2, o2 + j, none⟩) (World.block_lt_of_cell? w6 _ (HC2.out j hjl)) (fun f => f)).trans (HC2.out j hjl)
            have HJ := Lib.hid (HIN.out j)
            have HUU : Hid ((bs.getD j 0).toNat = (bs2.getD j 0).toNat → bs.getD j 0 = bs2.getD j 0) := Lib.hid (fun h => UInt8.toNat_inj.1 h)
            have hb1 := (bs.getD j 0).toNat_lt
            have hb2 := (bs2.getD j 0).toNat_lt
            generalize bs.getD j 0 = X at *
            generalize bs2.getD j 0 = Y at *
            have i1 : (j : Int) < (n : Int) := by omega
            have i2 : 0 ≤ (j : Int) := by omega
            by_cases hXY : X.toNat = Y.toNat
            · have hd : decide (¬ (X.toNat : Int) = (Y.toNat : Int)) = false := by simp [hXY]
              rw [← hXY] at d2
              clear hd hb2
              generalize X.toNat = x at *
              go_wp2
              go_quiet (fail)
              go_wp2
              go_roundg (n - (j + 1))
              case measure => omega
              case rel => exact ⟨j + 1, by simp, by omega, by omega, Lib.hid (HFx.out.drewN _)⟩
            · obtain ⟨rfl, rfl, h3, h4⟩ := HJ.out (fun h => hXY (by rw [h]))
              have hXI : ¬ ((X.toNat : Int) = (Y.toNat : Int)) := by omega
              have h5 : ¬ ((j : Int) < F) := by omega
              have h6 : ¬ (T ≤ (j : Int)) := by omega
              generalize X.toNat = x at *
              generalize Y.toNat = y at *
              clear hXY
              go_wp2
              go_quiet (fail)
              go_wp2
              go_roundg (n - (j + 1))
              case measure => omega
              case rel => exact ⟨j + 1, by simp, by omega, by omega, Lib.hid (HFx.out.drewN _)⟩
          · obtain rfl : j = n := by omega
            have HFw := Lib.hid (HF6.out.trans' HFx.out)
            by_cases hc0 : c = 0
            · subst hc0
              go_wp2_with fail
              refine (read_any _ g qb cb L bs2 i at_ (b.length : Int) HII.out HAT.out ⟨by omega, by omega⟩ wr (HAR6.out.fr0 HFx.out)).mono ?_
              rintro e w8 ⟨u, rfl, hu, hf⟩
              rw [HCC.out]
              have HF8 := Lib.hid (HFw.out.trans' hf)
              rw [HSE.out trivial] at hu
              have hcu := hu.convert (P := Try.prog) 29 9 5 Try.underlying29 Try.underlying5 Try.underlying9
              have hcb := (HB.out.fr0 HF8.out).convert (P := Try.prog) 29 9 5 Try.underlying29 Try.underlying5 Try.underlying9
              clear hu hf
              go_wp2
              go_ret
              exact ⟨by simp, HF8.out⟩
            · go_wp2
              go_ret
              exact ⟨rfl, HFw.out⟩
end Go.Proofs.Ytjpnmkcbkpikoaa.Arena
