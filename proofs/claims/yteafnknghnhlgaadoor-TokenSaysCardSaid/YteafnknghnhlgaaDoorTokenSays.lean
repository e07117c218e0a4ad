/-
  TokenSays walked.
-/
import Derived.Test.YteafnknghnhlgaaDoorTokenAwake
namespace Go.Proofs.YteafnknghnhlgaaDoor.TokenL
open Go.RowKit Base Pack _root_.Go.Proofs.YteafnknghnhlgaaDoor.Token

set_option maxRecDepth 100000 in
set_option maxHeartbeats 4000000 in
theorem tokenSays_walk (v1 v2 v3 : Value) (k b x : List UInt8) (id who : Int) (hid : -9223372036854775808 ≤ id ∧ id ≤ 9223372036854775807) (hwho : -9223372036854775808 ≤ who ∧ who ≤ 9223372036854775807) (hkl : k.length ≤ 9223372036854775807) (hbl : b.length ≤ 9223372036854775807) (hxl : x.length ≤ 9223372036854775807)
    (w : World) (hK : BytesIs w v1 k) (hB : BytesIs w v2 b) (hX : BytesIs w v3 x) (hR : Laid w) :
    Calls Tryd.prog 4 #[.int .i64 id, v1, v2, v3, .int .i64 who] w fun e w' => e = .returned (.bool true) ∧ Fr0 w w' := by
  have HK := Lib.hid hK
  have HB := Lib.hid hB
  have HX := Lib.hid hX
  have HR := Lib.hid hR
  obtain ⟨ka, kc, rfl⟩ := hK.form
  obtain ⟨ba, bc, rfl⟩ := hB.form
  obtain ⟨xa, xc, rfl⟩ := hX.form
  clear hK hB hX hR
  go_enter Tryd.func4, Tryd.ntmps4
  go_wp2_with fail
  refine (awake_any _ HR.out).mono ?_
  rintro e w1 ⟨rfl, hF1⟩
  have HF1 := Lib.hid hF1
  clear hF1
  by_cases h1 : 200 < (k.length : Int)
  ·
    go_wp2
    go_ret
    exact ⟨rfl, HF1.out⟩
  · by_cases h2 : 600 < (b.length : Int)
    ·
      go_wp2
      go_ret
      exact ⟨rfl, HF1.out⟩
    · by_cases h3 : 600 < (x.length : Int)
      ·
        go_wp2
        go_ret
        exact ⟨rfl, HF1.out⟩
      · have HPS := Lib.hid (fun w h1 h2 h3 h4 => pseal_any (.slice ka k.length kc) (.slice ba b.length bc) id k b hid (by omega) (by omega) w h1 h2 h3 h4)
        have HRS := Lib.hid (fun w h1 h2 => rseal_any (.slice ka k.length kc) (.slice ba b.length bc) id k b hid (by omega) (by omega) w h1 h2)
        have HPO := Lib.hid (fun w h1 h2 h3 h4 => popen_any (.slice xa x.length xc) (.slice ka k.length kc) x k who hwho (by omega) (by omega) w h1 h2 h3 h4)
        have HRO := Lib.hid (fun w h1 h2 => ropen_any (.slice xa x.length xc) (.slice ka k.length kc) x k who hwho (by omega) (by omega) w h1 h2)
        have HPI := Lib.hid (fun w h1 => pid_any (.slice xa x.length xc) x (by omega) w h1)
        have HRI := Lib.hid (fun w h1 => rid_any (.slice xa x.length xc) x (by omega) w h1)
        unfold SealPost at HPS HRS
        unfold OpenPost at HPO HRO
        unfold IdPost at HPI HRI
        generalize sealOut id k b = so at *
        generalize sealErr id = se at *
        generalize openOut x who k = oo at *
        generalize openErr x who k = oe at *
        generalize (idOut x : Int) = io at *
        generalize idOk x = ik at *
        have hps := HPS.out w1 (HK.out.fr0 HF1.out) (HB.out.fr0 HF1.out) (HR.out.fr HF1.out).1 (HR.out.fr HF1.out).2
        go_wp2_with fail
        refine hps.mono ?_
        clear hps HPS
        rintro e w2 ⟨va, rfl, hAO, hF⟩
        have hA := BytesIs.own hAO
        have HF2 := Lib.hid (HF1.out.trans' hF)
        have HA := Lib.hid hA
        obtain ⟨A1, C1, rfl⟩ := hA.form
        have hrs := HRS.out w2 (HK.out.fr0 HF2.out) (HB.out.fr0 HF2.out)
        clear hF hA hAO
        go_wp2_with fail
        refine hrs.mono ?_
        clear hrs HRS
        rintro e w3 ⟨vb, rfl, hB3O, hF⟩
        have hB3 := BytesIs.own hB3O
        have HF3 := Lib.hid (HF2.out.trans' hF)
        have HA3 := Lib.hid (HA.out.fr0 hF)
        have HB3 := Lib.hid hB3
        obtain ⟨A2, C2, rfl⟩ := hB3.form
        have hpo := HPO.out w3 (HX.out.fr0 HF3.out) (HK.out.fr0 HF3.out) (HR.out.fr HF3.out).1 (HR.out.fr HF3.out).2
        clear hF hB3 hB3O HA
        go_wp2_with fail
        refine hpo.mono ?_
        clear hpo HPO
        rintro e w4 ⟨vc, rfl, hC4, _, hF⟩
        have HF4 := Lib.hid (HF3.out.trans' hF)
        have HA4 := Lib.hid (HA3.out.fr0 hF)
        have HB4 := Lib.hid (HB3.out.fr0 hF)
        have HC4 := Lib.hid hC4
        obtain ⟨A3, C3, rfl⟩ := hC4.form
        have hro := HRO.out w4 (HX.out.fr0 HF4.out) (HK.out.fr0 HF4.out)
        clear hF hC4 HA3 HB3
        go_wp2_with fail
        refine hro.mono ?_
        clear hro HRO
        rintro e w5 ⟨vd, rfl, hD5, _, hF⟩
        have HF5 := Lib.hid (HF4.out.trans' hF)
        have HA5 := Lib.hid (HA4.out.fr0 hF)
        have HB5 := Lib.hid (HB4.out.fr0 hF)
        have HC5 := Lib.hid (HC4.out.fr0 hF)
        have HD5 := Lib.hid hD5
        obtain ⟨A4, C4, rfl⟩ := hD5.form
        have hpi := HPI.out w5 (HX.out.fr0 HF5.out)
        clear hF hD5 HA4 HB4 HC4
        go_wp2_with fail
        refine hpi.mono ?_
        clear hpi HPI
        rintro e w6 ⟨rfl, hF⟩
        have HF6 := Lib.hid (HF5.out.trans' hF)
        have HG6 := Lib.hid hF
        have hri := HRI.out w6 (HX.out.fr0 HF6.out)
        clear hF
        go_wp2_with fail
        refine hri.mono ?_
        clear hri HRI
        rintro e w7 ⟨rfl, hF⟩
        have HF7 := Lib.hid (HF6.out.trans' hF)
        have hg := HG6.out.trans' hF
        have ca := (HA5.out.fr0 hg).convert (P := Tryd.prog) 23 9 5 Tryd.underlying23 Tryd.underlying5 Tryd.underlying9
        have cb := (HB5.out.fr0 hg).convert (P := Tryd.prog) 23 9 5 Tryd.underlying23 Tryd.underlying5 Tryd.underlying9
        have cc := (HC5.out.fr0 hg).convert (P := Tryd.prog) 23 9 5 Tryd.underlying23 Tryd.underlying5 Tryd.underlying9
        have cd := (HD5.out.fr0 hg).convert (P := Tryd.prog) 23 9 5 Tryd.underlying23 Tryd.underlying5 Tryd.underlying9
        clear hF hg
        go_wp2
        go_ret
        exact ⟨rfl, HF7.out⟩
end Go.Proofs.YteafnknghnhlgaaDoor.TokenL
