/-
  TokenOthers walked.
-/
import Derived.Test.YteafnknghnhlgaaDoorTokenAwake
namespace Go.Proofs.YteafnknghnhlgaaDoor.TokenL
open Go.RowKit Base Pack _root_.Go.Proofs.YteafnknghnhlgaaDoor.Token

set_option maxRecDepth 100000 in
set_option maxHeartbeats 4000000 in
theorem tokenOthers_walk (v1 v2 v4 : Value) (k b o : List UInt8) (id who : Int) (hid : -9223372036854775808 ≤ id ∧ id ≤ 9223372036854775807) (hwho : -9223372036854775808 ≤ who ∧ who ≤ 9223372036854775807) (hkl : k.length ≤ 9223372036854775807) (hbl : b.length ≤ 9223372036854775807) (hol : o.length ≤ 9223372036854775807)
    (w : World) (hK : BytesIs w v1 k) (hB : BytesIs w v2 b) (hO : BytesIs w v4 o) (hR : Laid w) :
    Calls Tryd.prog 7 #[.int .i64 id, v1, v2, .int .i64 who, v4] w fun e w' => e = .returned (.bool true) ∧ Fr0 w w' := by
  have HK := Lib.hid hK
  have HB := Lib.hid hB
  have HO := Lib.hid hO
  have HR := Lib.hid hR
  obtain ⟨ka, kc, rfl⟩ := hK.form
  obtain ⟨ba, bc, rfl⟩ := hB.form
  obtain ⟨oa, oc, rfl⟩ := hO.form
  clear hK hB hO hR
  go_enter Tryd.func7, Tryd.ntmps7
  go_wp2_with fail
  refine (awake_any _ HR.out).mono ?_
  rintro e w1 ⟨rfl, hF1⟩
  have HF1 := Lib.hid hF1
  clear hF1
  by_cases h1 : 100 < (k.length : Int)
  ·
    go_wp2
    go_ret
    exact ⟨rfl, HF1.out⟩
  · by_cases h2 : 100 < (o.length : Int)
    ·
      go_wp2
      go_ret
      exact ⟨rfl, HF1.out⟩
    · by_cases h3 : 300 < (b.length : Int)
      ·
        go_wp2
        go_ret
        exact ⟨rfl, HF1.out⟩
      · by_cases hi : id < 0 ∨ 65535 < id
        · have hse := seal_bad hi hid _ _ k b (by omega) (by omega) w1 (HK.out.fr0 HF1.out) (HB.out.fr0 HF1.out) (HR.out.fr HF1.out)
          clear hi
          go_wp2_with fail
          refine hse.mono ?_
          clear hse
          rintro e w2 ⟨A, C, rfl, hF⟩
          have HF2 := Lib.hid (HF1.out.trans' hF)
          clear hF
          go_wp2
          go_ret
          exact ⟨rfl, HF2.out⟩
        · obtain ⟨n, rfl⟩ := Int.eq_ofNat_of_zero_le (show 0 ≤ id by omega)
          have hn : n < 65536 := by omega
          have hse := seal_yes hn _ _ k b (by omega) (by omega) w1 (HK.out.fr0 HF1.out) (HB.out.fr0 HF1.out) (HR.out.fr HF1.out)
          clear hi
          go_wp2_with fail
          refine hse.mono ?_
          clear hse
          rintro e w2 ⟨A, C, rfl, hX, _, hF⟩
          have HF2 := Lib.hid (HF1.out.trans' hF)
          have HX := Lib.hid hX
          clear hF hX
          by_cases hw : who = (n : Int)
          · have z : (who == (n : Int)) = true := beq_iff_eq.2 hw
            clear hw
            go_wp2
            go_ret
            exact ⟨rfl, HF2.out⟩
          · have z : (who == (n : Int)) = false := beq_eq_false_iff_ne.2 hw
            have he := open_other hn k b who hw o
            have hop := open_is he (openOut_no (by rw [he]; decide)) _ _ hwho (by omega) (by rw [env_length]; omega) w2 HX.out (HO.out.fr0 HF2.out) (HR.out.fr HF2.out)
            clear hw he
            go_wp2_with fail
            refine hop.mono ?_
            clear hop
            rintro e w3 ⟨A3, C3, rfl, _, hF⟩
            have HF3 := Lib.hid (HF2.out.trans' hF)
            clear hF
            go_wp2
            go_ret
            exact ⟨rfl, HF3.out⟩
end Go.Proofs.YteafnknghnhlgaaDoor.TokenL
