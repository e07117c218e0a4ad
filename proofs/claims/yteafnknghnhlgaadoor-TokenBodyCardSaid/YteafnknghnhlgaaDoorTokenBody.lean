/-
  TokenBody walked.
-/
import Derived.Test.YteafnknghnhlgaaDoorTokenAwake
import Derived.BigQuiet
import Derived.Test.YteafnknghnhlgaaDoorCuts
namespace Go.Proofs.YteafnknghnhlgaaDoor.TokenL
open Go.RowKit Base Pack _root_.Go.Proofs.YteafnknghnhlgaaDoor.Token

set_option maxRecDepth 100000 in
set_option maxHeartbeats 4000000 in
theorem tokenBody_walk (v1 v2 v3 : Value) (k a b : List UInt8) (id : Int) (hid : -9223372036854775808 ≤ id ∧ id ≤ 9223372036854775807) (hkl : k.length ≤ 9223372036854775807) (hal : a.length ≤ 9223372036854775807) (hbl : b.length ≤ 9223372036854775807)
    (w : World) (hK : BytesIs w v1 k) (hA : BytesIs w v2 a) (hB : BytesIs w v3 b) (hR : Laid w) :
    Calls Tryd.prog 6 #[.int .i64 id, v1, v2, v3] w fun e w' => e = .returned (.bool true) ∧ Fr0 w w' := by
  have HK := Lib.hid hK
  have HA := Lib.hid hA
  have HB := Lib.hid hB
  have HR := Lib.hid hR
  obtain ⟨ka, kc, rfl⟩ := hK.form
  obtain ⟨aa, ac, rfl⟩ := hA.form
  obtain ⟨ba, bc, rfl⟩ := hB.form
  clear hK hA hB hR
  go_enter Tryd.func6, Tryd.ntmps6
  go_wp2_with fail
  refine (awake_any _ HR.out).mono ?_
  rintro e w1 ⟨rfl, hF1⟩
  have HF1 := Lib.hid hF1
  clear hF1
  by_cases h1 : 100 < (k.length : Int)
  ·
    go_wp2
    go_ret
    exact ⟨rfl, HF1.out⟩
  · by_cases h2 : 300 < (a.length : Int)
    ·
      go_wp2
      go_ret
      exact ⟨rfl, HF1.out⟩
    · by_cases h3 : 300 < (b.length : Int)
      ·
        go_wp2
        go_ret
        exact ⟨rfl, HF1.out⟩
      · by_cases hi : id < 0 ∨ 65535 < id
        · have HSB := Lib.hid (fun (v0 v1 : Value) (k b : List UInt8) h1 h2 w h3 h4 h5 => seal_bad hi hid v0 v1 k b h1 h2 w h3 h4 h5)
          have hse := HSB.out _ _ k a (by omega) (by omega) w1 (HK.out.fr0 HF1.out) (HA.out.fr0 HF1.out) (HR.out.fr HF1.out)
          clear hi
          go_wp2_with fail
          refine hse.mono ?_
          clear hse
          rintro e w2 ⟨A, C, rfl, hF⟩
          have HF2 := Lib.hid (HF1.out.trans' hF)
          have hse := HSB.out _ _ k b (by omega) (by omega) w2 (HK.out.fr0 HF2.out) (HB.out.fr0 HF2.out) (HR.out.fr HF2.out)
          clear hF
          go_wp2_with fail
          refine hse.mono ?_
          clear hse
          rintro e w3 ⟨A3, C3, rfl, hF⟩
          have HF3 := Lib.hid (HF2.out.trans' hF)
          clear hF
          go_wp2
          go_ret
          exact ⟨rfl, HF3.out⟩
        · obtain ⟨n, rfl⟩ := Int.eq_ofNat_of_zero_le (show 0 ≤ id by omega)
          have hn : n < 65536 := by omega
          have hse := seal_yes hn _ _ k a (by omega) (by omega) w1 (HK.out.fr0 HF1.out) (HA.out.fr0 HF1.out) (HR.out.fr HF1.out)
          have HSB := Lib.hid (fun w h1 h2 h3 => seal_yes hn (.slice ka k.length kc) (.slice ba b.length bc) k b (by omega) (by omega) w h1 h2 h3)
          have hela := env_length n k a
          have helb := env_length n k b
          have HOB := Lib.hid (open_body hn k a b)
          have HOO := Lib.hid (open_body_out hn k a b)
          have HEQ : Hid (a = b → env n k b = env n k a) := Lib.hid (fun h => by rw [h])
          clear hi
          generalize env n k a = EA at *
          generalize env n k b = EB at *
          obtain ⟨LA, hLA⟩ : ∃ L, L = 34 + a.length := ⟨_, rfl⟩
          obtain ⟨LB, hLB⟩ : ∃ L, L = 34 + b.length := ⟨_, rfl⟩
          rw [← hLA] at hse hela
          rw [← hLB] at HSB helb
          have hla : 34 ≤ LA ∧ LA ≤ 334 := by omega
          have hlb : 34 ≤ LB ∧ LB ≤ 334 := by omega
          have z1 : ¬ (LA : Int) < 34 := by omega
          have z2 : ¬ (LB : Int) < 34 := by omega
          clear hLA hLB
          go_wp2_with fail
          refine hse.mono ?_
          clear hse
          rintro e w2 ⟨A, C, rfl, hX, _, hF⟩
          have HF2 := Lib.hid (HF1.out.trans' hF)
          have HX := Lib.hid hX
          have hcx : LA ≤ C := by obtain ⟨_, _, _, _, he, h1, _⟩ := hX; simp only [Value.slice.injEq] at he; omega
          have hse := HSB.out w2 (HK.out.fr0 HF2.out) (HB.out.fr0 HF2.out) (HR.out.fr HF2.out)
          clear hF hX HSB
          go_wp2_with fail
          refine hse.mono ?_
          clear hse
          rintro e w3 ⟨A3, C3, rfl, hY, _, hF⟩
          have HF3 := Lib.hid (HF2.out.trans' hF)
          have hcy : LB ≤ C3 := by obtain ⟨_, _, _, _, he, h1, _⟩ := hY; simp only [Value.slice.injEq] at he; omega
          have HXP : Hid (BytesIs w3 (.slice A 34 C) (EA.take 34)) := Lib.hid (BytesIs.takeHi (by omega) (show BytesIs w3 (.slice A EA.length C) EA by rw [hela]; exact HX.out.fr0 hF))
          have HYP : Hid (BytesIs w3 (.slice A3 34 C3) (EB.take 34)) := Lib.hid (BytesIs.takeHi (by omega) (show BytesIs w3 (.slice A3 EB.length C3) EB by rw [helb]; exact hY))
          have hsx := fun wx : World => cut_hi_at (P := Tryd.prog) 23 5 Tryd.underlying23 (by kernel_rfl) A LA C 34 (by omega) wx
          have hsy := fun wx : World => cut_hi_at (P := Tryd.prog) 23 5 Tryd.underlying23 (by kernel_rfl) A3 LB C3 34 (by omega) wx
          have hpl : (EA.take 34).length = 34 := by rw [List.length_take]; omega
          have hql : (EB.take 34).length = 34 := by rw [List.length_take]; omega
          have HEP : Hid (a = b → EB.take 34 = EA.take 34) := Lib.hid (fun h => by rw [HEQ.out h])
          clear hF hY HX HEQ
          generalize EA.take 34 = PA at *
          generalize EB.take 34 = PB at *
          clear hela helb
          go_wp2_with (refine wpList_append_bytes rfl (.tmp 68) (.tmp 70) 23 rfl w3.heap.size 5 Tryd.underlying23 Pack.info8 _ _ 0 [] PA rfl rfl (owns_empty w3 w3.heap.size _ (Nat.le_refl _) _ rfl) (by rw [← hpl] at HXP; have h := HXP.out.fr0 ((Fr.refl (fun _ => False) w3).alloc (.cells #[] 5)); rw [hpl] at h; exact h) (by omega) ((Fr.refl (fun _ => False) _).alloc _).size ?_)
          intro v4 w4 hO4 hG4
          have HF4 : Hid (Fr0 w3 w4) := Lib.hid (((Fr.refl _ _).alloc _).grown hG4 (fun k hk e => by cases e; exact absurd hk (Nat.lt_irrefl _)))
          have HO4 : Hid (w4.ownsRow w3.heap.size 5 1 v4 34 (bvals PA)) := Lib.hid hO4
          obtain ⟨A4, C4, rfl, _⟩ := owns_form HO4.out
          clear hO4 hG4
          go_wp2_with (refine wpList_append_bytes rfl (.tmp 71) (.tmp 72) 23 rfl w3.heap.size 5 Tryd.underlying23 Pack.info8 _ _ 34 PA b rfl rfl HO4.out ((HB.out.fr0 HF3.out).fr0 HF4.out) (by omega) HF4.out.size ?_)
          intro v5 w5 hO5 hG5
          have HF5 : Hid (Fr0 w3 w5) := Lib.hid (HF4.out.grown hG5 (fun k hk e => by have := (HO4.out.lt k e).1; omega))
          have HFW := Lib.hid (HF3.out.trans' HF5.out)
          have hZ := BytesIs.own hO5
          obtain ⟨A5, C5, rfl, _⟩ := owns_form hO5
          have HOP := Lib.hid (fun er o he ho => open_is (b := PA ++ b) (k := k) (o := o) (id := (n : Int)) (er := er) he ho (.slice A5 (34 + b.length) C5) (.slice ka k.length kc) (by omega) (by omega) (by rw [List.length_append]; omega) w5 hZ (HK.out.fr0 HFW.out) (HR.out.fr HFW.out))
          clear hO5 hG5 HO4 HF4 hZ
          by_cases hPQ : PB = PA
          · have hop := HOP.out 0 b (by rw [HOB.out, if_pos hPQ]) (HOO.out hPQ)
            have HPQ := Lib.hid hPQ
            clear HOP hPQ
            go_wp2_with fail
            refine hop.mono ?_
            clear hop
            rintro e w6 ⟨A6, C6, rfl, hC, hF⟩
            have HF6 := Lib.hid (HFW.out.trans' hF)
            have HC6 := Lib.hid hC
            have hg := HF5.out.trans' hF
            have HXP6 : Hid (BytesIs w6 (.slice A 34 C) PA) := Lib.hid (HXP.out.fr0 hg)
            have HYP6 : Hid (BytesIs w6 (.slice A3 34 C3) PA) := Lib.hid (by rw [← HPQ.out]; exact HYP.out.fr0 hg)
            have HAA6 := Lib.hid (HA.out.fr0 HF6.out)
            have HBB6 := Lib.hid (HB.out.fr0 HF6.out)
            clear hF hC hg HXP HYP
            by_cases hab : a = b
            · have zab : (a == b) = true := beq_iff_eq.2 hab
              clear hab
              go_wp2_with fail
              have cv0 := fun m : Nat => (HAA6.out.fr0 ((Fr.refl (fun _ => False) w6).drewN m)).convert (P := Tryd.prog) 23 9 5 Tryd.underlying23 Tryd.underlying5 Tryd.underlying9
              have cv1 := fun m : Nat => (HBB6.out.fr0 ((Fr.refl (fun _ => False) w6).drewN m)).convert (P := Tryd.prog) 23 9 5 Tryd.underlying23 Tryd.underlying5 Tryd.underlying9
              go_quiet (fail)
              have HDR := Lib.hid ((Fr.refl (fun _ => False) w6).drewN nq)
              clear cv0 cv1
              generalize w6.drewN nq = wd at *
              have c1 := (HC6.out.fr0 HDR.out).convert (P := Tryd.prog) 23 9 5 Tryd.underlying23 Tryd.underlying5 Tryd.underlying9
              have c2 := (HBB6.out.fr0 HDR.out).convert (P := Tryd.prog) 23 9 5 Tryd.underlying23 Tryd.underlying5 Tryd.underlying9
              have HFZ := Lib.hid (HF6.out.trans' HDR.out)
              go_wp2
              go_ret
              exact ⟨rfl, HFZ.out⟩
            · have zab : (a == b) = false := beq_eq_false_iff_ne.2 hab
              clear hab
              go_wp2_with fail
              have cv0 := fun m : Nat => (HAA6.out.fr0 ((Fr.refl (fun _ => False) w6).drewN m)).convert (P := Tryd.prog) 23 9 5 Tryd.underlying23 Tryd.underlying5 Tryd.underlying9
              have cv1 := fun m : Nat => (HBB6.out.fr0 ((Fr.refl (fun _ => False) w6).drewN m)).convert (P := Tryd.prog) 23 9 5 Tryd.underlying23 Tryd.underlying5 Tryd.underlying9
              have cv2 := fun m : Nat => (HXP6.out.fr0 ((Fr.refl (fun _ => False) w6).drewN m)).convert (P := Tryd.prog) 23 9 5 Tryd.underlying23 Tryd.underlying5 Tryd.underlying9
              have cv3 := fun m : Nat => (HYP6.out.fr0 ((Fr.refl (fun _ => False) w6).drewN m)).convert (P := Tryd.prog) 23 9 5 Tryd.underlying23 Tryd.underlying5 Tryd.underlying9
              go_quiet (fail)
              have HDR := Lib.hid ((Fr.refl (fun _ => False) w6).drewN nq)
              clear cv0 cv1 cv2 cv3
              generalize w6.drewN nq = wd at *
              have c1 := (HC6.out.fr0 HDR.out).convert (P := Tryd.prog) 23 9 5 Tryd.underlying23 Tryd.underlying5 Tryd.underlying9
              have c2 := (HBB6.out.fr0 HDR.out).convert (P := Tryd.prog) 23 9 5 Tryd.underlying23 Tryd.underlying5 Tryd.underlying9
              have HFZ := Lib.hid (HF6.out.trans' HDR.out)
              go_wp2
              go_ret
              exact ⟨rfl, HFZ.out⟩
          · have hop := HOP.out 5 [] (by rw [HOB.out, if_neg hPQ]) (openOut_no (by rw [HOB.out, if_neg hPQ]; decide))
            have zpq : (PA == PB) = false := beq_eq_false_iff_ne.2 (fun h => hPQ h.symm)
            have zab : (a == b) = false := beq_eq_false_iff_ne.2 (fun h => hPQ (HEP.out h))
            clear HOP hPQ
            go_wp2_with fail
            refine hop.mono ?_
            clear hop
            rintro e w6 ⟨A6, C6, rfl, hC, hF⟩
            have HF6 := Lib.hid (HFW.out.trans' hF)
            have hg := HF5.out.trans' hF
            have HXP6 := Lib.hid (HXP.out.fr0 hg)
            have HYP6 := Lib.hid (HYP.out.fr0 hg)
            have HAA6 := Lib.hid (HA.out.fr0 HF6.out)
            have HBB6 := Lib.hid (HB.out.fr0 HF6.out)
            clear hF hC hg HXP HYP
            go_wp2_with fail
            have cv0 := fun m : Nat => (HAA6.out.fr0 ((Fr.refl (fun _ => False) w6).drewN m)).convert (P := Tryd.prog) 23 9 5 Tryd.underlying23 Tryd.underlying5 Tryd.underlying9
            have cv1 := fun m : Nat => (HBB6.out.fr0 ((Fr.refl (fun _ => False) w6).drewN m)).convert (P := Tryd.prog) 23 9 5 Tryd.underlying23 Tryd.underlying5 Tryd.underlying9
            have cv2 := fun m : Nat => (HXP6.out.fr0 ((Fr.refl (fun _ => False) w6).drewN m)).convert (P := Tryd.prog) 23 9 5 Tryd.underlying23 Tryd.underlying5 Tryd.underlying9
            have cv3 := fun m : Nat => (HYP6.out.fr0 ((Fr.refl (fun _ => False) w6).drewN m)).convert (P := Tryd.prog) 23 9 5 Tryd.underlying23 Tryd.underlying5 Tryd.underlying9
            go_quiet (fail)
            have HDR := Lib.hid ((Fr.refl (fun _ => False) w6).drewN nq)
            clear cv0 cv1 cv2 cv3
            generalize w6.drewN nq = wd at *
            have HFZ := Lib.hid (HF6.out.trans' HDR.out)
            go_wp2
            go_ret
            exact ⟨rfl, HFZ.out⟩
end Go.Proofs.YteafnknghnhlgaaDoor.TokenL
