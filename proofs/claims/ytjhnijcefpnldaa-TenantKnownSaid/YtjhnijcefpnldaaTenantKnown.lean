/-
  TenantKnown walked.
-/
import Derived.Test.YtjhnijcefpnldaaTenantKnownA
namespace Go.Proofs.Ytjhnijcefpnldaa.TenantL
open Go.RowKit Base _root_.Go.Proofs.Ytjhnijcefpnldaa.Tenant

set_option maxRecDepth 100000 in
set_option maxHeartbeats 4000000 in
theorem tenantKnown_walk (w : World) : Calls Try.prog 3 #[] w fun e w' => e = .returned (.bool true) ∧ Fr0 w w' := by
  have mk := make18
  go_enter Try.func3, Try.ntmps3
  go_wp2_with fail
  refine (awake_any _).mono ?_
  rintro e w1 ⟨rfl, hF1⟩
  have HF1 := Lib.hid hF1
  have HB := Lib.hid (bad_new w1)
  clear hF1
  go_wp2_with fail
  generalize hw2 : w1.alloc (.cells (tcells zeros).toArray 26) = w2 at *
  obtain ⟨g, hg⟩ : ∃ g, g = w1.heap.size := ⟨_, rfl⟩
  rw [← hg] at HB ⊢
  clear hw2 hg mk
  go_loopg [2] 18 (fun kx vi wr => ∃ (i : Nat) (F : Nat → At), vi = .int .i64 (i : Int) ∧ i ≤ 18 ∧ 18 - i ≤ kx ∧ Hid (Bad 26 w1 wr g 18 F) ∧ Hid (∀ j, j < i → (F j).2 = someT 1))
  case atStart => exact ⟨0, _, rfl, Nat.zero_le _, by omega, HB, Lib.hid (fun j h => absurd h (Nat.not_lt_zero j))⟩
  case round =>
    clear HB
    obtain ⟨i, F, rfl, hi, hkx, HB, HJ⟩ := hrel
    by_cases hlt : i < 18
    · have i1 : (i : Int) < 18 := by omega
      have i2 : 0 ≤ (i : Int) := by omega
      go_wp2_with fail
      refine (some_any' 1 _).mono ?_
      rintro e w3 ⟨q, R, rfl, hR, hK, hq, hF3⟩
      have HB3 := Lib.hid (HB.out.fr0 hF3)
      have HQ : Hid (q ≠ g) := Lib.hid (by have := HB.out.row.lt; omega)
      have HT3 : Hid (w3.there g (i * 9) R.size) := Lib.hid (by rw [hR]; exact HB3.out.there i hlt)
      have HRI : Hid ((Try.prog.info? 26).map (·.size) = some R.size) := Lib.hid (by rw [hR]; exact infoP)
      have HR1 : Hid (R.all (·.oneCell') = true) := Lib.hid (by rw [hR]; exact t9_one _ (someT 1) rfl)
      have HBP : Hid (Bad 26 w1 (w3.setCells g (i * 9) R.toList) g 18 (upd F i (.slice (some ⟨q, 0, none⟩) 1 1, someT 1))) := Lib.hid (by rw [hR]; exact HB3.out.put i (.slice (some ⟨q, 0, none⟩) 1 1, someT 1) ⟨hK, rfl, fun a n c h => by cases h; exact HQ.out⟩)
      have HJP : Hid (∀ j, j < i + 1 → (upd F i (.slice (some ⟨q, 0, none⟩) 1 1, someT 1) j).2 = someT 1) := Lib.hid (fun j hj => by
        by_cases h : j = i
        · subst h; rw [upd_same]
        · rw [upd_other _ _ h]; exact HJ.out j (by omega))
      clear hK hq hF3 HB hR HB3
      go_wp2_with (refine wpList_store_mid rfl 26 _ _ rfl g (i * 9) R rfl rfl HT3.out HRI.out HR1.out ?_)
      generalize w3.setCells g (i * 9) R.toList = w4 at *
      generalize upd F i (.slice (some ⟨q, 0, none⟩) 1 1, someT 1) = F4 at *
      go_wp2
      go_roundg (18 - (i + 1))
      case measure => omega
      case rel => exact ⟨i + 1, F4, by simp, by omega, by omega, HBP, HJP⟩
    · obtain rfl : i = 18 := by omega
      have HB0 : Hid (Bad 26 w1 wr g 18 (FB (fun i => (F i).1) 0)) := Lib.hid (Bad.ext HB.out (fun i hi => by rw [FB_same _ _ _ (Nat.zero_le _), ← HJ.out i hi]))
      generalize (fun i => (F i).1) = kv at *
      clear HB HJ
      generalize hx0 : wr = x0 at *
      clear hx0
      have hm65 := make65
      have hcl := HB0.out.cell 0 0 (by decide) (by decide)
      have hfz := HB0.out.frozen 0
      have hif := infoFI
      have HCL := Lib.hid hcl
      have HFZ := Lib.hid hfz
      have HIF := Lib.hid hif
      clear hcl hfz hif
      go_wp2_with (refine wpList_store_field rfl 3 _ _ rfl g 0 (.int .i64 (-1)) _ rfl rfl HCL.out HFZ.out rfl rfl HIF.out ?_)
      intro x1 hx
      have HB1 : Hid (Bad 26 w1 x1 g 18 (FB kv 1)) := Lib.hid (by rw [hx.out]; exact HB0.out.next (by decide) 0 (by decide) _ hc0 rfl 0 rfl)
      clear hx HCL HFZ HIF HB0
      have hcl := HB1.out.cell 1 0 (by decide) (by decide)
      have hfz := HB1.out.frozen 9
      have hif := infoFI
      have HCL := Lib.hid hcl
      have HFZ := Lib.hid hfz
      have HIF := Lib.hid hif
      clear hcl hfz hif
      go_wp2_with (refine wpList_store_field rfl 3 _ _ rfl g 9 (.int .i64 (65536)) _ rfl rfl HCL.out HFZ.out rfl rfl HIF.out ?_)
      intro x2 hx
      have HB2 : Hid (Bad 26 w1 x2 g 18 (FB kv 2)) := Lib.hid (by rw [hx.out]; exact HB1.out.next (by decide) 0 (by decide) _ hc1 rfl 9 rfl)
      clear hx HCL HFZ HIF HB1
      have hcl := HB2.out.cell 2 1 (by decide) (by decide)
      have hfz := HB2.out.frozen 19
      have hif := infoFK
      have HCL := Lib.hid hcl
      have HFZ := Lib.hid hfz
      have HIF := Lib.hid hif
      clear hcl hfz hif
      go_wp2_with (refine wpList_store_field rfl 24 _ _ rfl g 19 (.slice none 0 0) _ rfl rfl HCL.out HFZ.out rfl rfl HIF.out ?_)
      intro x3 hx
      obtain ⟨kv2, HB3⟩ : ∃ kv', Hid (Bad 26 w1 x3 g 18 (FB kv' 3)) := ⟨_, Lib.hid (by rw [hx.out]; exact HB2.out.nextK (by decide) _ (hc2 _) ⟨BytesIs.nil _, rfl, fun a m c h => by cases h⟩ 19 rfl)⟩
      clear hx HCL HFZ HIF HB2
      have HG3 : Hid (x3.heap.size ≠ g) := Lib.hid (by have := HB3.out.row.lt; omega)
      have HB3a := Lib.hid (HB3.out.fr0 ((Fr.refl _ _).alloc (.cells (Array.replicate 65 (.int .u8 0)) 5)))
      have HY3 := Lib.hid (bytes65 x3)
      have hcl := HB3a.out.cell 3 1 (by decide) (by decide)
      have hfz := HB3a.out.frozen 28
      have hif := infoFK
      have HCL := Lib.hid hcl
      have HFZ := Lib.hid hfz
      have HIF := Lib.hid hif
      clear hcl hfz hif
      go_wp2_with (refine wpList_store_field rfl 24 _ _ rfl g 28 (.slice (some ⟨x3.heap.size, 0, none⟩) 65 65) _ rfl rfl HCL.out HFZ.out rfl rfl HIF.out ?_)
      intro x4 hx
      obtain ⟨kv3, HB4⟩ : ∃ kv', Hid (Bad 26 w1 x4 g 18 (FB kv' 4)) := ⟨_, Lib.hid (by rw [hx.out]; exact HB3a.out.nextK (by decide) _ (hc3 _) ⟨HY3.out, rfl, fun a m c h => by cases h; exact HG3.out⟩ 28 rfl)⟩
      clear hx HCL HFZ HIF HB3 HB3a HG3 HY3 hm65
      have hcl := HB4.out.cell 4 2 (by decide) (by decide)
      have hfz := HB4.out.frozen 38
      have hif := infoFI
      have HCL := Lib.hid hcl
      have HFZ := Lib.hid hfz
      have HIF := Lib.hid hif
      clear hcl hfz hif
      go_wp2_with (refine wpList_store_field rfl 3 _ _ rfl g 38 (.int .i64 (4)) _ rfl rfl HCL.out HFZ.out rfl rfl HIF.out ?_)
      intro x5 hx
      have HB5 : Hid (Bad 26 w1 x5 g 18 (FB kv3 5)) := Lib.hid (by rw [hx.out]; exact HB4.out.next (by decide) 2 (by decide) _ hc4 rfl 38 rfl)
      clear hx HCL HFZ HIF HB4
      have hcl := HB5.out.cell 5 2 (by decide) (by decide)
      have hfz := HB5.out.frozen 47
      have hif := infoFI
      have HCL := Lib.hid hcl
      have HFZ := Lib.hid hfz
      have HIF := Lib.hid hif
      clear hcl hfz hif
      go_wp2_with (refine wpList_store_field rfl 3 _ _ rfl g 47 (.int .i64 (-1)) _ rfl rfl HCL.out HFZ.out rfl rfl HIF.out ?_)
      intro x6 hx
      have HB6 : Hid (Bad 26 w1 x6 g 18 (FB kv3 6)) := Lib.hid (by rw [hx.out]; exact HB5.out.next (by decide) 2 (by decide) _ hc5 rfl 47 rfl)
      clear hx HCL HFZ HIF HB5
      have hcl := HB6.out.cell 6 3 (by decide) (by decide)
      have hfz := HB6.out.frozen 57
      have hif := infoFI
      have HCL := Lib.hid hcl
      have HFZ := Lib.hid hfz
      have HIF := Lib.hid hif
      clear hcl hfz hif
      go_wp2_with (refine wpList_store_field rfl 3 _ _ rfl g 57 (.int .i64 (-1)) _ rfl rfl HCL.out HFZ.out rfl rfl HIF.out ?_)
      intro x7 hx
      have HB7 : Hid (Bad 26 w1 x7 g 18 (FB kv3 7)) := Lib.hid (by rw [hx.out]; exact HB6.out.next (by decide) 3 (by decide) _ hc6 rfl 57 rfl)
      clear hx HCL HFZ HIF HB6
      have hcl := HB7.out.cell 7 3 (by decide) (by decide)
      have hfz := HB7.out.frozen 66
      have hif := infoFI
      have HCL := Lib.hid hcl
      have HFZ := Lib.hid hfz
      have HIF := Lib.hid hif
      clear hcl hfz hif
      go_wp2_with (refine wpList_store_field rfl 3 _ _ rfl g 66 (.int .i64 (65537)) _ rfl rfl HCL.out HFZ.out rfl rfl HIF.out ?_)
      intro x8 hx
      have HB8 : Hid (Bad 26 w1 x8 g 18 (FB kv3 8)) := Lib.hid (by rw [hx.out]; exact HB7.out.next (by decide) 3 (by decide) _ hc7 rfl 66 rfl)
      clear hx HCL HFZ HIF HB7
      have hcl := HB8.out.cell 8 4 (by decide) (by decide)
      have hfz := HB8.out.frozen 76
      have hif := infoFI
      have HCL := Lib.hid hcl
      have HFZ := Lib.hid hfz
      have HIF := Lib.hid hif
      clear hcl hfz hif
      go_wp2_with (refine wpList_store_field rfl 3 _ _ rfl g 76 (.int .i64 (-1)) _ rfl rfl HCL.out HFZ.out rfl rfl HIF.out ?_)
      intro x9 hx
      have HB9 : Hid (Bad 26 w1 x9 g 18 (FB kv3 9)) := Lib.hid (by rw [hx.out]; exact HB8.out.next (by decide) 4 (by decide) _ hc8 rfl 76 rfl)
      clear hx HCL HFZ HIF HB8
      have hcl := HB9.out.cell 9 4 (by decide) (by decide)
      have hfz := HB9.out.frozen 85
      have hif := infoFI
      have HCL := Lib.hid hcl
      have HFZ := Lib.hid hfz
      have HIF := Lib.hid hif
      clear hcl hfz hif
      go_wp2_with (refine wpList_store_field rfl 3 _ _ rfl g 85 (.int .i64 (1048577)) _ rfl rfl HCL.out HFZ.out rfl rfl HIF.out ?_)
      intro x10 hx
      have HB10 : Hid (Bad 26 w1 x10 g 18 (FB kv3 10)) := Lib.hid (by rw [hx.out]; exact HB9.out.next (by decide) 4 (by decide) _ hc9 rfl 85 rfl)
      clear hx HCL HFZ HIF HB9
      have hcl := HB10.out.cell 10 5 (by decide) (by decide)
      have hfz := HB10.out.frozen 95
      have hif := infoFI
      have HCL := Lib.hid hcl
      have HFZ := Lib.hid hfz
      have HIF := Lib.hid hif
      clear hcl hfz hif
      go_wp2_with (refine wpList_store_field rfl 3 _ _ rfl g 95 (.int .i64 (0)) _ rfl rfl HCL.out HFZ.out rfl rfl HIF.out ?_)
      intro x11 hx
      have HB11 : Hid (Bad 26 w1 x11 g 18 (FB kv3 11)) := Lib.hid (by rw [hx.out]; exact HB10.out.next (by decide) 5 (by decide) _ hc10 rfl 95 rfl)
      clear hx HCL HFZ HIF HB10
      have hcl := HB11.out.cell 11 5 (by decide) (by decide)
      have hfz := HB11.out.frozen 104
      have hif := infoFI
      have HCL := Lib.hid hcl
      have HFZ := Lib.hid hfz
      have HIF := Lib.hid hif
      clear hcl hfz hif
      go_wp2_with (refine wpList_store_field rfl 3 _ _ rfl g 104 (.int .i64 (1048577)) _ rfl rfl HCL.out HFZ.out rfl rfl HIF.out ?_)
      intro x12 hx
      have HB12 : Hid (Bad 26 w1 x12 g 18 (FB kv3 12)) := Lib.hid (by rw [hx.out]; exact HB11.out.next (by decide) 5 (by decide) _ hc11 rfl 104 rfl)
      clear hx HCL HFZ HIF HB11
      have hcl := HB12.out.cell 12 6 (by decide) (by decide)
      have hfz := HB12.out.frozen 114
      have hif := infoFI
      have HCL := Lib.hid hcl
      have HFZ := Lib.hid hfz
      have HIF := Lib.hid hif
      clear hcl hfz hif
      go_wp2_with (refine wpList_store_field rfl 3 _ _ rfl g 114 (.int .i64 (0)) _ rfl rfl HCL.out HFZ.out rfl rfl HIF.out ?_)
      intro x13 hx
      have HB13 : Hid (Bad 26 w1 x13 g 18 (FB kv3 13)) := Lib.hid (by rw [hx.out]; exact HB12.out.next (by decide) 6 (by decide) _ hc12 rfl 114 rfl)
      clear hx HCL HFZ HIF HB12
      have hcl := HB13.out.cell 13 6 (by decide) (by decide)
      have hfz := HB13.out.frozen 123
      have hif := infoFI
      have HCL := Lib.hid hcl
      have HFZ := Lib.hid hfz
      have HIF := Lib.hid hif
      clear hcl hfz hif
      go_wp2_with (refine wpList_store_field rfl 3 _ _ rfl g 123 (.int .i64 (17)) _ rfl rfl HCL.out HFZ.out rfl rfl HIF.out ?_)
      intro x14 hx
      have HB14 : Hid (Bad 26 w1 x14 g 18 (FB kv3 14)) := Lib.hid (by rw [hx.out]; exact HB13.out.next (by decide) 6 (by decide) _ hc13 rfl 123 rfl)
      clear hx HCL HFZ HIF HB13
      have hcl := HB14.out.cell 14 7 (by decide) (by decide)
      have hfz := HB14.out.frozen 133
      have hif := infoFI
      have HCL := Lib.hid hcl
      have HFZ := Lib.hid hfz
      have HIF := Lib.hid hif
      clear hcl hfz hif
      go_wp2_with (refine wpList_store_field rfl 3 _ _ rfl g 133 (.int .i64 (0)) _ rfl rfl HCL.out HFZ.out rfl rfl HIF.out ?_)
      intro x15 hx
      have HB15 : Hid (Bad 26 w1 x15 g 18 (FB kv3 15)) := Lib.hid (by rw [hx.out]; exact HB14.out.next (by decide) 7 (by decide) _ hc14 rfl 133 rfl)
      clear hx HCL HFZ HIF HB14
      have hcl := HB15.out.cell 15 7 (by decide) (by decide)
      have hfz := HB15.out.frozen 142
      have hif := infoFI
      have HCL := Lib.hid hcl
      have HFZ := Lib.hid hfz
      have HIF := Lib.hid hif
      clear hcl hfz hif
      go_wp2_with (refine wpList_store_field rfl 3 _ _ rfl g 142 (.int .i64 (17)) _ rfl rfl HCL.out HFZ.out rfl rfl HIF.out ?_)
      intro x16 hx
      have HB16 : Hid (Bad 26 w1 x16 g 18 (FB kv3 16)) := Lib.hid (by rw [hx.out]; exact HB15.out.next (by decide) 7 (by decide) _ hc15 rfl 142 rfl)
      clear hx HCL HFZ HIF HB15
      have hcl := HB16.out.cell 16 8 (by decide) (by decide)
      have hfz := HB16.out.frozen 152
      have hif := infoFI
      have HCL := Lib.hid hcl
      have HFZ := Lib.hid hfz
      have HIF := Lib.hid hif
      clear hcl hfz hif
      go_wp2_with (refine wpList_store_field rfl 3 _ _ rfl g 152 (.int .i64 (0)) _ rfl rfl HCL.out HFZ.out rfl rfl HIF.out ?_)
      intro x17 hx
      have HB17 : Hid (Bad 26 w1 x17 g 18 (FB kv3 17)) := Lib.hid (by rw [hx.out]; exact HB16.out.next (by decide) 8 (by decide) _ hc16 rfl 152 rfl)
      clear hx HCL HFZ HIF HB16
      have hcl := HB17.out.cell 17 8 (by decide) (by decide)
      have hfz := HB17.out.frozen 161
      have hif := infoFI
      have HCL := Lib.hid hcl
      have HFZ := Lib.hid hfz
      have HIF := Lib.hid hif
      clear hcl hfz hif
      go_wp2_with (refine wpList_store_field rfl 3 _ _ rfl g 161 (.int .i64 (65)) _ rfl rfl HCL.out HFZ.out rfl rfl HIF.out ?_)
      intro x18 hx
      have HB18 : Hid (Bad 26 w1 x18 g 18 (FB kv3 18)) := Lib.hid (by rw [hx.out]; exact HB17.out.next (by decide) 8 (by decide) _ hc17 rfl 161 rfl)
      clear hx HCL HFZ HIF HB17
      have HT : Hid (Tens x18 (.slice (some ⟨g, 0, none⟩) 18 18) bads) := Lib.hid HB18.out.all
      have HF18 : Hid (Fr0 w x18) := Lib.hid (HF1.out.trans' HB18.out.fr)
      clear HB18 HF1
      go_wp2_with fail
      go_loopg [3] 18 (fun kx vi wr => ∃ (i : Nat), vi = .int .i64 (i : Int) ∧ i ≤ 18 ∧ 18 - i ≤ kx ∧ Hid (Fr0 x18 wr))
      case atStart => exact ⟨0, rfl, Nat.zero_le _, by omega, Lib.hid (Fr.refl _ _)⟩
      case round =>
        obtain ⟨i, rfl, hi, hkx, HF⟩ := hrel
        by_cases hlt : i < 18
        · obtain ⟨pb, po, B, D, hpq, hc, hb⟩ := tens_at HT.out i (by rw [bads_len]; exact hlt)
          cases hpq
          obtain ⟨c0, c1, c2, c3, c4, c5, c6, c7, c8⟩ := hc wr HF.out
          simp only [Nat.zero_add] at c0 c1 c2 c3 c4 c5 c6 c7 c8
          obtain ⟨A, hs1, hT1⟩ := tens_one HT.out i (by rw [bads_len]; exact hlt) (i : Int) ((i : Int) + 1) rfl rfl
          have HT1 := Lib.hid hT1
          have HNO := Lib.hid (bads_no i hlt)
          have HKL := Lib.hid (bads_key i hlt)
          have i1 : (i : Int) < 18 := by omega
          have i2 : 0 ≤ (i : Int) := by omega
          clear hc hb hT1
          generalize bads.getD i zero = q at *
          have hgd := pgoodT_any B D q (by have := HKL.out; omega) wr
          rw [HNO.out] at hgd
          unfold t9 at hgd
          go_wp2_with fail
          refine hgd.mono ?_
          clear hgd c0 c1 c2 c3 c4 c5 c6 c7 c8
          rintro e w2 ⟨rfl, hF2⟩
          have HF2 := Lib.hid (HF.out.trans' hF2)
          have hal := pall_any _ [q] 65536 (by decide) (by show 1 ≤ 9223372036854775807; decide) (fun j hj => by
            have : j = 0 := by simpa using hj
            subst this
            show q.key.length ≤ _
            have := HKL.out
            omega) w2 (HT1.out.fr0 HF2.out)
          rw [all_one HNO.out] at hal
          clear hF2
          go_wp2_with fail
          refine hal.mono ?_
          clear hal
          rintro e w3 ⟨rfl, hF3⟩
          have HF3 := Lib.hid (HF2.out.trans' hF3)
          clear hF3
          go_wp2
          go_roundg (18 - (i + 1))
          case measure => omega
          case rel => exact ⟨i + 1, by simp, by omega, by omega, HF3⟩
        · obtain rfl : i = 18 := by omega
          have HFW := Lib.hid (HF18.out.trans' HF.out)
          clear HF HF18 HT
          generalize hy0 : wr = y0 at *
          clear hy0
          have HO0 := Lib.hid (owns_empty9 y0 w.heap.size HFW.out.size)
          have HFY := Lib.hid (HFW.out.alloc (.cells #[] 26))
          go_wp2_with fail
          generalize y0.heap.size = g0 at *
          generalize y0.alloc (.cells #[] 26) = y1 at *
          clear HFW
          go_loopg [4, 5] 65 (fun kx va vi wr => ∃ (i : Nat) (X : List At) (Aa : Option Addr) (Ca : Nat), vi = .int .i64 (i : Int) ∧ va = .slice Aa i Ca ∧ i ≤ 65 ∧ 65 - i ≤ kx ∧ Hid (X.length = i ∧ X.map (·.2) = many i) ∧ Hid (wr.ownsRow w.heap.size 26 9 (.slice Aa i Ca) i (tcells X)) ∧ Hid (Keys wr X) ∧ Hid (∀ p ∈ X, ∀ a n c, p.1 = .slice (some a) n c → a.block < wr.heap.size ∧ (Value.slice Aa i Ca).ownBlock ≠ some a.block) ∧ Hid (Fr0 w wr))
          case atStart => exact ⟨0, [], _, 0, rfl, rfl, Nat.zero_le _, by omega, Lib.hid ⟨rfl, rfl⟩, HO0, Lib.hid (fun p hp => by simp at hp), Lib.hid (fun p hp => by simp at hp), HFY⟩
          case round =>
            clear HO0 HFY
            obtain ⟨i, X, Aa, Ca, rfl, rfl, hi, hk, HX, HO, HK, HA, HF⟩ := hrel
            by_cases hlt : i < 65
            · have i1 : (i : Int) < 65 := by omega
              have i2 : 0 ≤ (i : Int) := by omega
              have hso := some_any (i : Int) wr
              go_wp2_with fail
              refine hso.mono ?_
              clear hso
              rintro e w2 ⟨q, rfl, hK2, hq, hF2⟩
              rw [show (t9 (.slice (some ⟨q, 0, none⟩) 1 1) (someT (i : Int))) = #[.int .i64 (i : Int), .slice (some ⟨q, 0, none⟩) 1 1, .int .i64 3, .int .i64 64, .int .i64 5, .int .i64 2, .int .i64 4, .int .i64 3, .int .i64 9] from rfl]
              have HKW := Lib.hid (HK.out.fr0 hF2)
              have HF2 := Lib.hid (HF.out.trans' hF2)
              have HO2 := Lib.hid (ownsFr hF2 HO.out (fun _ _ f => f))
              have HQL : Hid (q < w2.heap.size) := Lib.hid (by
                obtain ⟨a, c, pb, po, hv, _, ha, hcl⟩ := hK2
                cases hv
                cases ha (by decide)
                exact World.block_lt_of_cell? w2 _ (hcl 0 (by decide)))
              have HQN : Hid ((Value.slice Aa i Ca).ownBlock ≠ some q) := Lib.hid (fun e => by have := (HO.out.lt q e).2; omega)
              have HA2 : Hid (∀ p ∈ X, ∀ a n c, p.1 = .slice (some a) n c → a.block < w2.heap.size ∧ (Value.slice Aa i Ca).ownBlock ≠ some a.block) := Lib.hid (fun p hp a n c e => ⟨Nat.lt_of_lt_of_le (HA.out p hp a n c e).1 hF2.size, (HA.out p hp a n c e).2⟩)
              have HK2 := Lib.hid hK2
              have HFL := Lib.hid ((Fr.refl (fun _ => False) w2).alloc (.cells #[.int .i64 (i : Int), .slice (some ⟨q, 0, none⟩) 1 1, .int .i64 3, .int .i64 64, .int .i64 5, .int .i64 2, .int .i64 4, .int .i64 3, .int .i64 9] 26))
              have HOL := Lib.hid (ownsFr HFL.out HO2.out (fun _ _ f => f))
              have HLT := Lib.hid (nine_lit w2 (.slice (some ⟨q, 0, none⟩) 1 1) (someT (i : Int)) 26)
              clear hF2 hq hK2 HK HA HO HF
              go_wp2_with (refine wpList_append_valsN rfl (.tmp 100) (.tmp 103) 23 rfl w.heap.size 26 Try.underlying23 (.agg #[.int .i64 0, .slice none 0 0, .int .i64 0, .int .i64 0, .int .i64 0, .int .i64 0, .int .i64 0, .int .i64 0, .int .i64 0]) 9 88 z9 rfl (by decide) _ _ i 1 (tcells X) (tcells [(.slice (some ⟨q, 0, none⟩) 1 1, someT (i : Int))]) rfl rfl HOL.out HLT.out (by decide) rfl (by intro u hu; simp [tcells, t9] at hu; rcases hu with rfl | rfl | rfl | rfl | rfl | rfl | rfl | rfl | rfl <;> rfl) (by unfold maxLen; omega) (by omega) (Nat.le_trans HF2.out.size HFL.out.size) ?_)
              intro vz Wz hOz hGz hNz
              have hfz := Fr.of_grown (S := fun j => (Value.slice Aa i Ca).ownBlock = some j) hGz (fun k hk e => e)
              have HFZ : Hid (Fr0 w Wz) := Lib.hid ((HF2.out.trans' HFL.out).trans hfz (fun j hj e => by have := (HOL.out.lt j e).1; omega))
              obtain ⟨Az, Cz, rfl, _⟩ := owns_form hOz
              have HOZ : Hid (Wz.ownsRow w.heap.size 26 9 (.slice Az (i + 1) Cz) (i + 1) (tcells (X ++ [(.slice (some ⟨q, 0, none⟩) 1 1, someT (i : Int))]))) := Lib.hid (by rw [tcells_append]; exact hOz)
              have HXZ : Hid ((X ++ [((Value.slice (some ⟨q, 0, none⟩) 1 1, someT (i : Int)) : At)]).length = i + 1 ∧ (X ++ [((Value.slice (some ⟨q, 0, none⟩) 1 1, someT (i : Int)) : At)]).map (·.2) = many (i + 1)) := Lib.hid ⟨by rw [List.length_append, HX.out.1]; rfl, by rw [List.map_append, HX.out.2, many_succ]; rfl⟩
              have HKZ : Hid (Keys Wz (X ++ [((Value.slice (some ⟨q, 0, none⟩) 1 1, someT (i : Int)) : At)])) := Lib.hid (fun p hp => by
                rcases List.mem_append.1 hp with hp | hp
                · exact ⟨((HKW.out p hp).1.fr0 HFL.out).fr hfz (fun a n c e => (HA2.out p hp a n c e).2), (HKW.out p hp).2⟩
                · simp only [List.mem_singleton] at hp
                  subst hp
                  exact ⟨(HK2.out.fr0 HFL.out).fr hfz (fun a n c e => by cases e; exact HQN.out), rfl⟩)
              have HAZ : Hid (∀ p ∈ (X ++ [((Value.slice (some ⟨q, 0, none⟩) 1 1, someT (i : Int)) : At)]), ∀ a n c, p.1 = .slice (some a) n c → a.block < Wz.heap.size ∧ (Value.slice Az (i + 1) Cz).ownBlock ≠ some a.block) := Lib.hid (by
                have key : ∀ b, b < w2.heap.size → (Value.slice Aa i Ca).ownBlock ≠ some b → b < Wz.heap.size ∧ (Value.slice Az (i + 1) Cz).ownBlock ≠ some b := fun b h1 h2 => by
                  have hsz := HFL.out.size
                  refine ⟨Nat.lt_of_lt_of_le h1 (Nat.le_trans hsz hGz.size), fun e => ?_⟩
                  rcases hNz with h3 | h3
                  · exact h2 (h3.symm.trans e)
                  · have := h3 b e
                    omega
                intro p hp a n c e
                rcases List.mem_append.1 hp with hp | hp
                · have := HA2.out p hp a n c e
                  exact key a.block this.1 this.2
                · simp only [List.mem_singleton] at hp
                  subst hp
                  cases e
                  exact key q HQL.out HQN.out)
              clear hOz hGz hNz hfz
              generalize X ++ [((Value.slice (some ⟨q, 0, none⟩) 1 1, someT (i : Int)) : At)] = X2 at *
              go_wp2
              go_roundg (65 - (i + 1))
              case measure => omega
              case rel => exact ⟨i + 1, X2, Az, Cz, by simp, rfl, by omega, by omega, HXZ, HOZ, HKZ, HAZ, HFZ⟩
            · obtain rfl : i = 65 := by omega
              have HTM : Hid (Tens wr (.slice Aa 65 Ca) (many 65)) := Lib.hid (by
                have h := tens_own (X := X) (by rw [HX.out.1]; exact HO.out) HK.out
                rw [HX.out.2] at h
                exact h)
              clear HX HO HK HA
              generalize hz0 : wr = z0 at *
              clear hz0
              have hl65 : (many 65).length ≤ 9223372036854775807 := by rw [many_len]; decide
              have HL65 := Lib.hid hl65
              clear hl65
              obtain ⟨hsc3, hT3⟩ := tens_cutH (P := Try.prog) 23 26 Try.underlying23 infoP HTM.out 3 (by rw [many_len]; decide) 3 rfl
              obtain ⟨hsc64, hT64⟩ := tens_cutH (P := Try.prog) 23 26 Try.underlying23 infoP HTM.out 64 (by rw [many_len]; decide) 64 rfl
              obtain ⟨hsc1, hT1⟩ := tens_cutH (P := Try.prog) 23 26 Try.underlying23 infoP HTM.out 1 (by rw [many_len]; decide) 1 rfl
              rw [many_take 65 3 (by decide)] at hT3
              rw [many_take 65 64 (by decide)] at hT64
              rw [many_take 65 1 (by decide)] at hT1
              have HT3 := Lib.hid hT3
              have HT64 := Lib.hid hT64
              have HT1 := Lib.hid hT1
              clear hT3 hT64 hT1
              have hf7 := pfind_any _ (many 65) 7 (by decide) HL65.out z0 HTM.out
              go_wp2_with fail
              refine hf7.mono ?_
              clear hf7
              rintro e z1 ⟨k1, ok1, rfl, hfb, hFz⟩
              obtain ⟨rfl, rfl⟩ := many_found hfb
              have HFA1 := Lib.hid hFz
              clear hfb hFz
              have hf9 := pfind_any _ (many 65) 99 (by decide) HL65.out z1 (HTM.out.fr0 HFA1.out)
              go_wp2_with fail
              refine hf9.mono ?_
              clear hf9
              rintro e z2 ⟨k2, ok2, rfl, hfb, hFz⟩
              obtain rfl := many_lost hfb
              have HFA2 := Lib.hid (HFA1.out.trans' hFz)
              clear hfb hFz
              have hbd := pbud_any _ (many 3) (by rw [many_len]; decide) z2 (HT3.out.fr0 HFA2.out)
              rw [many_bu] at hbd
              go_wp2_with fail
              refine hbd.mono ?_
              clear hbd
              rintro e z3 ⟨vb, rfl, hI, hFz⟩
              obtain ⟨ba, bc, bpb, bpo, rfl, hble, hba, hbcell⟩ := hI
              obtain rfl := hba (by decide)
              have HB2 := Lib.hid (hbcell 2 (by decide))
              have HFA3 := Lib.hid (HFA2.out.trans' hFz)
              clear hble hba hbcell hFz
              have hal := pall_any _ [] 10 (by decide) (by decide) (fun j hj => absurd hj (by simp)) z3 (tens_nil _)
              rw [none_no 10] at hal
              go_wp2_with fail
              refine hal.mono ?_
              clear hal
              rintro e z4 ⟨rfl, hFz⟩
              have HFA4 := Lib.hid (HFA3.out.trans' hFz)
              have HB2 : Hid (z4.cell? ⟨bpb, bpo + 2, none⟩ = some (.int .i64 64)) := Lib.hid ((hFz.cell (p := ⟨bpb, bpo + 2, none⟩) (World.block_lt_of_cell? z3 _ HB2.out) (fun f => f)).trans HB2.out)
              clear hFz
              have hal := pall_any _ (many 65) 65536 (by decide) (by rw [many_len]; decide) (fun j hj => many_key 65 j hj) z4 (HTM.out.fr0 HFA4.out)
              rw [many_65] at hal
              go_wp2_with fail
              refine hal.mono ?_
              clear hal
              rintro e z5 ⟨rfl, hFz⟩
              have HFA5 := Lib.hid (HFA4.out.trans' hFz)
              have HB2 : Hid (z5.cell? ⟨bpb, bpo + 2, none⟩ = some (.int .i64 64)) := Lib.hid ((hFz.cell (p := ⟨bpb, bpo + 2, none⟩) (World.block_lt_of_cell? z4 _ HB2.out) (fun f => f)).trans HB2.out)
              clear hFz
              have hal := pall_any _ (many 64) 4096 (by decide) (by rw [many_len]; decide) (fun j hj => many_key 64 j hj) z5 (HT64.out.fr0 HFA5.out)
              rw [many_fits] at hal
              go_wp2_with fail
              refine hal.mono ?_
              clear hal
              rintro e z6 ⟨rfl, hFz⟩
              have HFA6 := Lib.hid (HFA5.out.trans' hFz)
              have HB2 : Hid (z6.cell? ⟨bpb, bpo + 2, none⟩ = some (.int .i64 64)) := Lib.hid ((hFz.cell (p := ⟨bpb, bpo + 2, none⟩) (World.block_lt_of_cell? z5 _ HB2.out) (fun f => f)).trans HB2.out)
              clear hFz
              have hal := pall_any _ (many 64) 4095 (by decide) (by rw [many_len]; decide) (fun j hj => many_key 64 j hj) z6 (HT64.out.fr0 HFA6.out)
              rw [many_not] at hal
              go_wp2_with fail
              refine hal.mono ?_
              clear hal
              rintro e z7 ⟨rfl, hFz⟩
              have HFA7 := Lib.hid (HFA6.out.trans' hFz)
              have HB2 : Hid (z7.cell? ⟨bpb, bpo + 2, none⟩ = some (.int .i64 64)) := Lib.hid ((hFz.cell (p := ⟨bpb, bpo + 2, none⟩) (World.block_lt_of_cell? z6 _ HB2.out) (fun f => f)).trans HB2.out)
              clear hFz
              have hal := pall_any _ (many 1) 65537 (by decide) (by rw [many_len]; decide) (fun j hj => many_key 1 j hj) z7 (HT1.out.fr0 HFA7.out)
              rw [one_no _ 65537 (by decide)] at hal
              go_wp2_with fail
              refine hal.mono ?_
              clear hal
              rintro e z8 ⟨rfl, hFz⟩
              have HFA8 := Lib.hid (HFA7.out.trans' hFz)
              have HB2 : Hid (z8.cell? ⟨bpb, bpo + 2, none⟩ = some (.int .i64 64)) := Lib.hid ((hFz.cell (p := ⟨bpb, bpo + 2, none⟩) (World.block_lt_of_cell? z7 _ HB2.out) (fun f => f)).trans HB2.out)
              clear hFz
              have cb2 := (HFA8.out.trans' (Fr.refl _ _))
              clear cb2
              have hal := pall_any _ (many 1) (-1) (by decide) (by rw [many_len]; decide) (fun j hj => many_key 1 j hj) z8 (HT1.out.fr0 HFA8.out)
              rw [one_no _ (-1) (by decide)] at hal
              go_wp2_with fail
              refine hal.mono ?_
              clear hal
              rintro e z9 ⟨rfl, hFz⟩
              have HFA9 := Lib.hid (HFA8.out.trans' hFz)
              have HB2 : Hid (z9.cell? ⟨bpb, bpo + 2, none⟩ = some (.int .i64 64)) := Lib.hid ((hFz.cell (p := ⟨bpb, bpo + 2, none⟩) (World.block_lt_of_cell? z8 _ HB2.out) (fun f => f)).trans HB2.out)
              clear hFz
              have cb2 := HB2.out
              go_wp2
              go_ret
              exact ⟨rfl, HF.out.trans' HFA9.out⟩
end Go.Proofs.Ytjhnijcefpnldaa.TenantL
