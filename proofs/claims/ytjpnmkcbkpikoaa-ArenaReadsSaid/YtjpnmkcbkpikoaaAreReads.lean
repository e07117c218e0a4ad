/-
  ArenaReads: what is written in two parts is read in each as it was written: the walk.
-/
import Derived.Test.YtjpnmkcbkpikoaaAreReadsR
import Derived.Test.YtjpnmkcbkpikoaaAreApartS
namespace Go.Proofs.Ytjpnmkcbkpikoaa.Arena
open Go.RowKit Base Ph

theorem fits2 (x y : Int) (hx : 0 ≤ x ∧ x ≤ 500) (hy : 0 ≤ y ∧ y ≤ 500) : Fits (x + y) [x, y] :=
  ⟨by omega, by omega, by simp, fun k hk => by
    match k, hk with
    | 0, _ => exact hx.1
    | 1, _ => exact hy.1, by simp [cut]⟩
set_option maxHeartbeats 8000000 in
set_option maxRecDepth 100000 in
theorem arenaReads_walk (x y : Int) (v2 v3 : Value) (a b : List UInt8) (i k : Int) (hx : I64 x) (hy : I64 y) (hi : I64 i) (hk : I64 k) (ha : a.length ≤ 9223372036854775807) (hb : b.length ≤ 9223372036854775807) (w : World) (hA : BytesIs w v2 a) (hB : BytesIs w v3 b) :
    Calls Try.prog 6 #[.int .i64 x, .int .i64 y, v2, v3, .int .i64 i, .int .i64 k] w fun e w' => e = .returned (.bool true) ∧ Fr0 w w' := by
  have HA := Lib.hid hA
  have HB := Lib.hid hB
  obtain ⟨A1, C1, pa1, po1, rfl, _⟩ := hA
  obtain ⟨A2, C2, pa2, po2, rfl, _⟩ := hB
  by_cases hbad : x < 0 ∨ 500 < x ∨ y < 0 ∨ 500 < y
  · have HX := Lib.hid hbad
    clear hbad
    go_enter Try.func6, Try.ntmps6
    go_wp2_with fail
    refine (awake_any w).mono ?_
    rintro e w1 ⟨rfl, hF1⟩
    have HF1 := Lib.hid hF1
    clear hF1
    by_cases h1 : x < 0
    · go_wp2
      go_ret
      exact ⟨rfl, HF1.out⟩
    · by_cases h2 : 500 < x
      · go_wp2
        go_ret
        exact ⟨rfl, HF1.out⟩
      · by_cases h3 : y < 0
        · go_wp2
          go_ret
          exact ⟨rfl, HF1.out⟩
        · have h4 : 500 < y := by have := HX.out; omega
          go_wp2
          go_ret
          exact ⟨rfl, HF1.out⟩
  · have hx0 : ¬ x < 0 := by omega
    have hx1 : ¬ 500 < x := by omega
    have hy0 : ¬ y < 0 := by omega
    have hy1 : ¬ 500 < y := by omega
    clear hbad
    have HFT := Lib.hid (fits2 x y (by omega) (by omega))
    have HI := Lib.hid hi
    have HK := Lib.hid hk
    have HLX : Hid (([x, y] : List Int).length ≤ 9223372036854775807) := Lib.hid (by simp)
    have HBD : Hid (∀ n ∈ [x, y], -9223372036854775808 ≤ n ∧ n ≤ 9223372036854775807) := Lib.hid (by
      intro n hn
      simp at hn
      rcases hn with rfl | rfl
      · exact hx
      · exact hy)
    obtain ⟨L, hL⟩ : ∃ L, [x, y] = L := ⟨_, rfl⟩
    have HL := Lib.hid hL
    have HLL : Hid (L.length = 2) := Lib.hid (by rw [← hL]; rfl)
    rw [hL] at HFT HLX HBD
    obtain ⟨c, hc⟩ : ∃ c, perr L (0 : Nat) i (a.length : Int) = c := ⟨_, rfl⟩
    obtain ⟨d, hd⟩ : ∃ d, perr L (1 : Nat) k (b.length : Int) = d := ⟨_, rfl⟩
    have HCC := Lib.hid hc
    have HDD := Lib.hid hd
    clear hL hi hk hx hy hc hd
    go_enter Try.func6, Try.ntmps6
    go_wp2_with fail
    refine (awake_any w).mono ?_
    rintro e w1 ⟨rfl, hF1⟩
    have HF1 := Lib.hid hF1
    clear hF1
    go_wp2_with fail
    refine (new_any (x + y) _ L HLX.out HBD.out (by omega) (w1.alloc (.cells #[.int .i64 x, .int .i64 y] 3)) (by rw [← HL.out]; exact ints_lit w1 _ [x, y] rfl _ _ _ rfl rfl)).mono ?_
    rintro e w2 ⟨hok, _, hf⟩
    obtain ⟨g1, pb1, cb1, rfl, hP⟩ := hok HFT.out
    have HP2 : Hid (AreP w2 w.heap.size g1 pb1 cb1 L (List.replicate (x + y).toNat 0)) := Lib.hid (hP.base (HF1.out.alloc _).size)
    have HF2 : Hid (Fr0 w w2) := Lib.hid ((HF1.out.alloc _).trans' hf)
    clear hok hf hP
    unfold ptr
    go_wp2_with fail
    refine (new_any (x + y) _ L HLX.out HBD.out (by omega) (w2.alloc (.cells #[.int .i64 x, .int .i64 y] 3)) (by rw [← HL.out]; exact ints_lit w2 _ [x, y] rfl _ _ _ rfl rfl)).mono ?_
    rintro e w3 ⟨hok, _, hf⟩
    obtain ⟨g2, pb2, cb2, rfl, hQ⟩ := hok HFT.out
    have hf23 : Fr0 w2 w3 := ((Fr.refl _ _).alloc _).trans' hf
    have HNE : Hid ((g1 ≠ pb2 ∧ pb1 ≠ pb2 ∧ cb1 ≠ pb2) ∧ (g2 ≠ pb1 ∧ pb2 ≠ pb1 ∧ cb2 ≠ pb1)) := Lib.hid (by
      have h1 := HP2.out.g_lt
      have h2 := HP2.out.pb_lt
      have h3 := HP2.out.cb_lt
      have h4 := hQ.gB
      have h5 := hQ.pB
      have h6 := hQ.cB
      have h7 := (((Fr.refl (fun _ => False) w2).alloc (.cells #[.int .i64 x, .int .i64 y] 3))).size
      omega)
    have HQ3 : Hid (AreP w3 w.heap.size g2 pb2 cb2 L (List.replicate (x + y).toNat 0)) := Lib.hid (hQ.base (HF2.out.alloc _).size)
    have HP3 : Hid (AreP w3 w.heap.size g1 pb1 cb1 L (List.replicate (x + y).toNat 0)) := Lib.hid (HP2.out.fr0 hf23)
    have HF3 : Hid (Fr0 w w3) := Lib.hid (HF2.out.trans' hf23)
    obtain ⟨bs, hbs⟩ : ∃ bs, List.replicate (x + y).toNat (0 : UInt8) = bs := ⟨_, rfl⟩
    rw [hbs] at HQ3 HP3
    clear hok hf hQ hf23 HP2 HF1 HF2 hbs HLX HBD HL
    unfold ptr
    have HFB := Lib.hid HP3.out.fits
    go_wp2_with fail
    refine (write_any _ g1 pb1 cb1 L bs a (0 : Nat) i _ (by decide) HI.out ha w3 HP3.out (HA.out.fr0 HF3.out)).mono ?_
    rintro e w4 ⟨rfl, hP, hf⟩
    rw [HCC.out]
    have HP4 := Lib.hid hP
    have HQ4 := Lib.hid (HQ3.out.fr hf HNE.out.2.1 HNE.out.2.2.1 HNE.out.2.2.2)
    have HF4 : Hid (Fr0 w w4) := Lib.hid (fr0_of_fr1 HF3.out hf hP.pB)
    clear hP hf HP3 HQ3 HF3
    go_wp2_with fail
    refine (write_any _ g1 pb1 cb1 L (wrote L bs (0 : Nat) i a) b (1 : Nat) k _ (by decide) HK.out hb w4 HP4.out (HB.out.fr0 HF4.out)).mono ?_
    rintro e w5 ⟨rfl, hP, hf⟩
    rw [HDD.out]
    have HP5 := Lib.hid hP
    have HQ5 := Lib.hid (HQ4.out.fr hf HNE.out.2.1 HNE.out.2.2.1 HNE.out.2.2.2)
    have HF5 : Hid (Fr0 w w5) := Lib.hid (fr0_of_fr1 HF4.out hf hP.pB)
    clear hP hf HP4 HQ4 HF4
    go_wp2_with fail
    refine (write_any _ g2 pb2 cb2 L bs b (1 : Nat) k _ (by decide) HK.out hb w5 HQ5.out (HB.out.fr0 HF5.out)).mono ?_
    rintro e w6 ⟨rfl, hQ, hf⟩
    rw [HDD.out]
    have HQ6 := Lib.hid hQ
    have HP6 := Lib.hid (HP5.out.fr hf HNE.out.1.1 HNE.out.1.2.1 HNE.out.1.2.2)
    have HF6 : Hid (Fr0 w w6) := Lib.hid (fr0_of_fr1 HF5.out hf hQ.pB)
    clear hQ hf HP5 HQ5 HF5
    go_wp2_with fail
    refine (write_any _ g2 pb2 cb2 L (wrote L bs (1 : Nat) k b) a (0 : Nat) i _ (by decide) HI.out ha w6 HQ6.out (HA.out.fr0 HF6.out)).mono ?_
    rintro e w7 ⟨rfl, hQ, hf⟩
    rw [HCC.out]
    rw [← wrote_comm HFB.out 0 1 (by decide) i k a b] at hQ
    have HQ7 := Lib.hid hQ
    have HP7 := Lib.hid (HP6.out.fr hf HNE.out.1.1 HNE.out.1.2.1 HNE.out.1.2.2)
    have HF7 : Hid (Fr0 w w7) := Lib.hid (fr0_of_fr1 HF6.out hf hQ.pB)
    clear hQ hf HP6 HQ6 HF6 HNE
    have HR1 : Hid (perr L (0 : Nat) i (a.length : Int) = 0 → readOut L (wrote L (wrote L bs (0 : Nat) i a) (1 : Nat) k b) (0 : Nat) i (a.length : Int) = a) := Lib.hid (fun h => by
      rw [readOut_other (bs := wrote L bs (0 : Nat) i a) (by rw [wrote_length HFB.out]; exact HFB.out) 0 1 (by decide) i k _ b h]
      exact readOut_self HFB.out _ i a h)
    have HR2 : Hid (perr L (1 : Nat) k (b.length : Int) = 0 → readOut L (wrote L (wrote L bs (0 : Nat) i a) (1 : Nat) k b) (1 : Nat) k (b.length : Int) = b) := Lib.hid (fun h => readOut_self (by rw [wrote_length HFB.out]; exact HFB.out) _ k b h)
    generalize hbb : wrote L (wrote L bs (0 : Nat) i a) (1 : Nat) k b = bs2 at *
    rw [HCC.out] at HR1
    rw [HDD.out] at HR2
    clear hbb HFB
    go_wp2
    refine rr_region (B1 := w.heap.size) (g1 := g1) (pb1 := pb1) (cb1 := cb1) (L1 := L) (B2 := w.heap.size) (g2 := g2) (pb2 := pb2) (cb2 := cb2) (L2 := L) (bs := bs2) (ec := c) (ed := d) ⟨rfl, rfl, rfl, rfl, rfl, rfl, rfl⟩ ⟨HP7.out.fr0 (Fr.refl _ _).drew, HQ7.out.fr0 (Fr.refl _ _).drew⟩ ?_
    intro vals w8 hG8 hJ8 hv
    have HP8 := Lib.hid hJ8.1
    have HF8 := Lib.hid (HF7.out.trans' hG8.fr)
    have h99 : vals 99 = .bool false := hv 99 (List.contains_iff_mem.1 (by kernel_rfl))
    clear hv hG8 hJ8 HP7 HQ7 HF7
    rw [show dsts rrOps = [83, 84, 85, 86, 87, 88, 89, 90, 91, 92, 93, 94, 95, 96, 97, 98, 99] by kernel_rfl]
    simp only [frm, List.mapIdx_toArray, List.mapIdx_cons, List.mapIdx_nil, Nat.zero_add, Nat.reduceAdd, List.contains_cons, List.contains_nil, Nat.reduceBEq, Bool.or_false, Bool.false_or, Bool.or_true, Bool.true_or, Bool.or_self, Bool.false_eq_true, if_true, if_false, h99]
    clear h99
    go_wp2_with fail
    refine (read_any _ g1 pb1 cb1 L bs2 (0 : Nat) i (a.length : Int) (by decide) HI.out ⟨by omega, by omega⟩ w8 HP8.out).mono ?_
    rintro e w9 ⟨u, rfl, hu, hf⟩
    rw [HCC.out]
    have HP9 := Lib.hid (HP8.out.fr0 hf)
    have HF9 := Lib.hid (HF8.out.trans' hf)
    have HU := Lib.hid hu
    clear hu hf HP8 HF8
    go_wp2_with fail
    refine (read_any _ g1 pb1 cb1 L bs2 (1 : Nat) k (b.length : Int) (by decide) HK.out ⟨by omega, by omega⟩ w9 HP9.out).mono ?_
    rintro e w10 ⟨v, rfl, hv, hf⟩
    have HF10 := Lib.hid (HF9.out.trans' hf)
    have hcu := (HU.out.fr0 hf).convert (P := Try.prog) 29 9 5 Try.underlying29 Try.underlying5 Try.underlying9
    have hcv := hv.convert (P := Try.prog) 29 9 5 Try.underlying29 Try.underlying5 Try.underlying9
    have hca := (HA.out.fr0 HF10.out).convert (P := Try.prog) 29 9 5 Try.underlying29 Try.underlying5 Try.underlying9
    have hcb := (HB.out.fr0 HF10.out).convert (P := Try.prog) 29 9 5 Try.underlying29 Try.underlying5 Try.underlying9
    rw [HDD.out]
    clear hv hf HP9 HF9
    by_cases hc0 : c = 0
    · rw [HR1.out hc0] at hcu
      by_cases hd0 : d = 0
      · rw [HR2.out hd0] at hcv
        subst hc0 hd0
        go_wp2
        go_ret
        exact ⟨by simp, HF10.out⟩
      · subst hc0
        go_wp2
        go_ret
        exact ⟨by simp [hd0], HF10.out⟩
    · by_cases hd0 : d = 0
      · rw [HR2.out hd0] at hcv
        subst hd0
        go_wp2
        go_ret
        exact ⟨by simp [hc0], HF10.out⟩
      · go_wp2
        go_ret
        exact ⟨by simp [hc0, hd0], HF10.out⟩
end Go.Proofs.Ytjpnmkcbkpikoaa.Arena
