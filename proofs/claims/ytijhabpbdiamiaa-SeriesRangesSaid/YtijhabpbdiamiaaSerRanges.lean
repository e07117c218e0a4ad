/-
  SeriesRanges walked.
-/
import Derived.Test.YtijhabpbdiamiaaSerAwake
namespace Go.Proofs.Ytijhabpbdiamiaa.SeriesL
open Go.RowKit Base _root_.Go.Proofs.Ytijhabpbdiamiaa.Series

set_option maxRecDepth 100000 in
set_option maxHeartbeats 8000000 in
theorem seriesRanges_walk (v0 : Value) (l : List Sm) (f m t : Int) (hl : SizedS l) (hf : -9223372036854775808 ≤ f ∧ f ≤ 9223372036854775807) (hm : -9223372036854775808 ≤ m ∧ m ≤ 9223372036854775807) (ht : -9223372036854775808 ≤ t ∧ t ≤ 9223372036854775807) (w : World) (hP : PairsIs w v0 l) :
    Calls Try.prog 7 #[v0, .int .i64 f, .int .i64 m, .int .i64 t] w fun e w' => e = .returned (.bool true) ∧ Fr0 w w' := by
  obtain ⟨A, C, rfl⟩ := pairs_form hP
  have HP := Lib.hid hP
  have HSL := Lib.hid hl
  have HF := Lib.hid hf
  have HT := Lib.hid ht
  clear hP hl
  have HRL := Lib.hid (fun f t => range_length l f t)
  have HTWO := Lib.hid (fun (h : rising l = true) h1 h2 => range_two (l := l) ((rising_iff l).1 h) (f := f) (m := m) (t := t) h1 h2)
  generalize hL : l.length = L at *
  have HLL := Lib.hid hL
  clear hL
  go_enter Try.func7, Try.ntmps7
  go_wp2_with fail
  refine (awake_any _).mono ?_
  rintro e w1 ⟨rfl, hF1⟩
  have HF1 := Lib.hid hF1
  clear hF1
  by_cases h1 : 100 < (L : Int)
  · go_wp2
    go_ret
    exact ⟨rfl, HF1.out⟩
  · by_cases h2 : m < f
    · go_wp2
      go_ret
      exact ⟨rfl, HF1.out⟩
    · by_cases h3 : t ≤ m
      · go_wp2
        go_ret
        exact ⟨rfl, HF1.out⟩
      · have hk := pgood_any (.slice A L C) l (by have := HLL.out; omega) HSL.out w1 (HP.out.fr0 HF1.out)
        generalize rising l = g at *
        go_wp2_with fail
        refine hk.mono ?_
        clear hk
        rintro e w2 ⟨rfl, hF⟩
        have HF2 := Lib.hid (HF1.out.trans' hF)
        clear hF
        cases g with
        | false =>
          go_wp2
          go_ret
          exact ⟨rfl, HF2.out⟩
        | true =>
          have HEQ := Lib.hid (HTWO.out (by trivial) (by omega) (by omega))
          have k1 := HRL.out f m
          have k2 := HRL.out (m + 1) t
          have k3 := HRL.out f t
          have HKR := Lib.hid (fun f t hf ht w hP => prange_any (.slice A L C) l f t (by have := HLL.out; omega) HSL.out hf ht w hP)
          have hk1 := HKR.out f m hf hm w2 (HP.out.fr0 HF2.out)
          have HK2 := Lib.hid (fun w => HKR.out (m + 1) t (by omega) ht w)
          have HK3 := Lib.hid (fun w => HKR.out f t hf ht w)
          clear HTWO HRL HKR
          generalize rangeOf l f m = a at *
          generalize rangeOf l (m + 1) t = b at *
          generalize rangeOf l f t = c at *
          have HPC : Hid (pcells a ++ pcells b = pcells c) := Lib.hid (by rw [← HEQ.out]; exact (pcells_append a b).symm)
          have HAL : Hid ((pcells a).length = a.length * 2) := Lib.hid (pcells_length a)
          have HBL : Hid ((pcells b).length = b.length * 2) := Lib.hid (pcells_length b)
          have HA1 := Lib.hid (pcells_one a)
          have HB1 := Lib.hid (pcells_one b)
          have HABL : Hid (a.length + b.length = c.length) := Lib.hid (by rw [← HEQ.out]; exact List.length_append.symm)
          generalize hal : a.length = M at *
          generalize hbl : b.length = K at *
          generalize hcl : c.length = J at *
          have HJ := Lib.hid hcl
          have HM := Lib.hid hal
          have HK := Lib.hid hbl
          clear hcl hal hbl
          go_wp2_with fail
          refine hk1.mono ?_
          clear hk1
          rintro e w3 ⟨x, rfl, hX, hF⟩
          have HF3 := Lib.hid (HF2.out.trans' hF)
          have HX := Lib.hid (pairs_vals hX)
          obtain ⟨Ax, Cx, rfl⟩ := pairs_form hX
          rw [HM.out] at HX ⊢
          have hk := HK2.out w3 (HP.out.fr0 HF3.out)
          clear hF hX
          go_wp2_with fail
          refine hk.mono ?_
          clear hk
          rintro e w4 ⟨y, rfl, hY, hF⟩
          have HF4 := Lib.hid (HF3.out.trans' hF)
          have HX4 := Lib.hid (HX.out.fr0 hF)
          have HY := Lib.hid (pairs_vals hY)
          obtain ⟨Ay, Cy, rfl⟩ := pairs_form hY
          rw [HK.out] at HY ⊢
          have hk := HK3.out w4 (HP.out.fr0 HF4.out)
          clear hF hY
          go_wp2_with fail
          refine hk.mono ?_
          clear hk
          rintro e w5 ⟨z, rfl, hZ, hF⟩
          have HF5 := Lib.hid (HF4.out.trans' hF)
          have HX5 := Lib.hid (HX4.out.fr0 hF)
          have HY5 := Lib.hid (HY.out.fr0 hF)
          have HZ := Lib.hid hZ
          obtain ⟨Az, Cz, rfl⟩ := pairs_form hZ
          clear hF hZ HX HX4 HY
          rw [HJ.out] at HZ ⊢
          have HE0 := Lib.hid ((Fr.refl (fun _ => False) w5).alloc (.cells #[] 24))
          have HO0 := Lib.hid (owns_none w5 w5.heap.size 24 (Nat.le_refl _) _ rfl)
          have HPA := Lib.hid (HX5.out.fr0 HE0.out)
          go_wp2_with (first
            | ((refine wpList_append_valsM rfl (.tmp 45) (.tmp 46) 25 rfl (w5.heap.size) 24 Try.underlying25 (.agg #[.int .i64 0, .int .i64 0]) 2 16 infoP rfl (by decide) _ _ 0 M [] (pcells a) rfl rfl HO0.out HPA.out (by exact HAL.out) (HA1.out) (by unfold maxLen; omega) (by omega) (by exact HE0.out.size) ?_); intro v1x W1q hO1 hG1 _; rw [Nat.zero_add, List.nil_append] at hO1; have HO1 := Lib.hid hO1; obtain ⟨A1q, C1q, hv1, _⟩ := owns_form hO1; subst hv1; have HF1 : Hid (Fr0 w5 W1q) := Lib.hid (HE0.out.trans (Fr.of_grown (S := fun j => (Value.slice (some ⟨w5.heap.size, 0, none⟩) 0 0).ownBlock = some j) hG1 (fun k hk e => e)) (fun j hj e => by have e' : w5.heap.size = j := Option.some.inj e; omega)); have HFS := Lib.hid HF1.out.size; have HQB := Lib.hid (HY5.out.fr0 HF1.out); clear hO1 hG1)
            | ((refine wpList_append_valsM rfl (.tmp 47) (.tmp 48) 25 rfl (w5.heap.size) 24 Try.underlying25 (.agg #[.int .i64 0, .int .i64 0]) 2 16 infoP rfl (by decide) _ _ M K (pcells a) (pcells b) rfl rfl HO1.out HQB.out (by exact HBL.out) (HB1.out) (by unfold maxLen; omega) (by omega) (by exact HFS.out) ?_); intro v2x W2q hO2 hG2 _; rw [HPC.out] at hO2; have HO2q := Lib.hid hO2; obtain ⟨A2q, C2q, hv2, _⟩ := owns_form hO2; subst hv2; have HF2q : Hid (Fr0 w5 W2q) := Lib.hid (HF1.out.trans (Fr.of_grown (S := fun j => (Value.slice A1q M C1q).ownBlock = some j) hG2 (fun k hk e => e)) (fun j hj e => by have := (HO1.out.lt j e).1; omega)); clear hO2 hG2)
            | fail)
          have HPP : Hid (PairsIs W2q (.slice A2q (M + K) C2q) c) := Lib.hid (pairs_own HO2q.out (by rw [HABL.out, HJ.out]))
          have HF6 := Lib.hid (HF5.out.trans' HF2q.out)
          have HZ6 := Lib.hid (HZ.out.fr0 HF2q.out)
          have hk := rows_any _ c (by have := HJ.out; omega) W2q HPP.out
          rw [HJ.out] at hk
          refine hk.mono ?_
          clear hk
          rintro e w7 ⟨A7, C7, rfl, hp7, hF⟩
          have HF7 := Lib.hid (HF6.out.trans' hF)
          have HP7 := Lib.hid hp7
          have hk := rows_any _ c (by have := HJ.out; omega) w7 (HZ6.out.fr0 hF)
          rw [HJ.out] at hk
          clear hF hp7 HE0 HO0 HPA HF1 HFS HQB HO1 HO2q HF2q HPP
          go_wp2_with fail
          refine hk.mono ?_
          clear hk
          rintro e w8 ⟨A8, C8, rfl, hp8, hF⟩
          have HF8 := Lib.hid (HF7.out.trans' hF)
          have hk := same_any A7 A8 C7 C8 c (by have := HJ.out; omega) w8
          rw [HJ.out] at hk
          have hk := hk (HP7.out.fr0 hF) hp8
          clear hF hp8
          go_wp2_with fail
          refine hk.mono ?_
          clear hk
          rintro e w9 ⟨rfl, hF⟩
          have HF9 := Lib.hid (HF8.out.trans' hF)
          clear hF
          go_wp2
          go_ret
          exact ⟨rfl, HF9.out⟩
end Go.Proofs.Ytijhabpbdiamiaa.SeriesL
