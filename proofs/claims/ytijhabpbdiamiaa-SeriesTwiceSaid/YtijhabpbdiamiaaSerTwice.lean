/-
  SeriesTwice walked.
-/
import Derived.Test.YtijhabpbdiamiaaSerAwake
namespace Go.Proofs.Ytijhabpbdiamiaa.SeriesL
open Go.RowKit Base _root_.Go.Proofs.Ytijhabpbdiamiaa.Series

set_option maxRecDepth 100000 in
set_option maxHeartbeats 8000000 in
theorem seriesTwice_walk (v0 v1 v2 : Value) (l a b : List Sm) (r : Int) (hl : SizedS l) (ha : SizedS a) (hb : SizedS b) (hr : -9223372036854775808 ≤ r ∧ r ≤ 9223372036854775807) (w : World) (hP : PairsIs w v0 l) (hQ : PairsIs w v1 a) (hR : PairsIs w v2 b) :
    Calls Try.prog 5 #[v0, v1, v2, .int .i64 r] w fun e w' => e = .returned (.bool true) ∧ Fr0 w w' := by
  obtain ⟨A, C, rfl⟩ := pairs_form hP
  obtain ⟨B, D, rfl⟩ := pairs_form hQ
  obtain ⟨E, F, rfl⟩ := pairs_form hR
  have HP := Lib.hid hP
  have HQ := Lib.hid hQ
  have HR := Lib.hid hR
  have HSL := Lib.hid hl
  have HSA := Lib.hid ha
  have HSB := Lib.hid hb
  clear hP hQ hR hl ha hb
  have HVA := Lib.hid (pairs_vals HQ.out)
  have HVB := Lib.hid (pairs_vals HR.out)
  have HPC : Hid (pcells a ++ pcells b = pcells (a ++ b)) := Lib.hid (pcells_append a b).symm
  have HAL : Hid ((pcells a).length = a.length * 2) := Lib.hid (pcells_length a)
  have HBL : Hid ((pcells b).length = b.length * 2) := Lib.hid (pcells_length b)
  have HA1 := Lib.hid (pcells_one a)
  have HB1 := Lib.hid (pcells_one b)
  have HABL : Hid ((a ++ b).length = a.length + b.length) := Lib.hid List.length_append
  have HSAB : Hid (SizedS (a ++ b)) := Lib.hid (sized_app HSA.out HSB.out)
  generalize hL : l.length = L at *
  generalize hM : a.length = M at *
  generalize hK : b.length = K at *
  have HLL := Lib.hid hL
  have HMM := Lib.hid hM
  have HKK := Lib.hid hK
  clear hL hM hK
  go_enter Try.func5, Try.ntmps5
  go_wp2_with fail
  refine (awake_any _).mono ?_
  rintro e w1 ⟨rfl, hF1⟩
  have HF1 := Lib.hid hF1
  clear hF1
  by_cases h1 : 60 < (L : Int)
  · go_wp2
    go_ret
    exact ⟨rfl, HF1.out⟩
  · by_cases h2 : 60 < (M : Int)
    · go_wp2
      go_ret
      exact ⟨rfl, HF1.out⟩
    · by_cases h3 : 60 < (K : Int)
      · go_wp2
        go_ret
        exact ⟨rfl, HF1.out⟩
      · have hk := padd_any (.slice A L C) (.slice B M D) l a r (by have := HLL.out; omega) (by have := HMM.out; omega) HSL.out HSA.out hr w1 (HP.out.fr0 HF1.out) (HQ.out.fr0 HF1.out)
        have HT := Lib.hid (fun h => add_two (l := l) (a := a) b (r := r) h)
        have HO1L := Lib.hid (add_length l a r)
        have HSO := Lib.hid (sized_sub (sized_app HSL.out HSA.out) (fun q h => add_mem (l := l) (m := a) (r := r) h))
        unfold AddPost at hk
        generalize addErr l a r = er at *
        generalize addOut l a r = o1 at *
        go_wp2_with fail
        refine hk.mono ?_
        clear hk
        rintro e w2 ⟨x, rfl, hX, hF⟩
        have HF2 := Lib.hid (HF1.out.trans' hF)
        have HX := Lib.hid hX
        obtain ⟨Ax, Cx, rfl⟩ := pairs_form hX
        clear hF hX
        by_cases he : er = 0
        · subst he
          obtain ⟨t1, t2⟩ := HT.out rfl
          have hk := padd_any _ _ o1 b r (by have := HO1L.out; omega) (by have := HKK.out; omega) HSO.out HSB.out hr w2 HX.out (HR.out.fr0 HF2.out)
          have HO2L := Lib.hid (add_length o1 b r)
          have HRIS : Hid (addErr o1 b r = 0 → rising (addOut o1 b r) = true) := Lib.hid (fun h => (rising_iff _).2 (add_ris h))
          have HSO2 := Lib.hid (sized_sub (sized_app HSO.out HSB.out) (fun q h => add_mem (l := o1) (m := b) (r := r) h))
          have HADD := Lib.hid (fun v w hQ hP => padd_any (.slice A L C) v l (a ++ b) r (by have := HLL.out; omega) (by have := HABL.out; omega) HSL.out HSAB.out hr w hP hQ)
          unfold AddPost at hk HADD
          rw [← t1, ← t2] at HADD
          clear t1 t2 HT
          generalize addErr o1 b r = e2 at *
          generalize addOut o1 b r = o2 at *
          have HOL : Hid (o2.length ≤ 64) := HO2L
          generalize o1.length = O1 at *
          go_wp2_with fail
          refine hk.mono ?_
          clear hk
          rintro e w3 ⟨y, rfl, hY, hF⟩
          have HF3 := Lib.hid (HF2.out.trans' hF)
          have HY := Lib.hid hY
          obtain ⟨Ay, Cy, rfl⟩ := pairs_form hY
          clear hF hY HX
          have HE0 := Lib.hid ((Fr.refl (fun _ => False) w3).alloc (.cells #[] 24))
          have HO0 := Lib.hid (owns_none w3 w3.heap.size 24 (Nat.le_refl _) _ rfl)
          have HPA := Lib.hid ((HVA.out.fr0 HF3.out).fr0 HE0.out)
          go_wp2_with (first
            | ((refine wpList_append_valsM rfl (.tmp 48) (.tmp 49) 25 rfl (w3.heap.size) 24 Try.underlying25 (.agg #[.int .i64 0, .int .i64 0]) 2 16 infoP rfl (by decide) _ _ 0 M [] (pcells a) rfl rfl HO0.out HPA.out (by exact HAL.out) (HA1.out) (by unfold maxLen; omega) (by omega) (by exact HE0.out.size) ?_); intro v1x W1q hO1 hG1 _; rw [Nat.zero_add, List.nil_append] at hO1; have HO1 := Lib.hid hO1; obtain ⟨A1q, C1q, hv1, _⟩ := owns_form hO1; subst hv1; have HF1 : Hid (Fr0 w3 W1q) := Lib.hid (HE0.out.trans (Fr.of_grown (S := fun j => (Value.slice (some ⟨w3.heap.size, 0, none⟩) 0 0).ownBlock = some j) hG1 (fun k hk e => e)) (fun j hj e => by have e' : w3.heap.size = j := Option.some.inj e; omega)); have HFS := Lib.hid HF1.out.size; have HQB := Lib.hid ((HVB.out.fr0 HF3.out).fr0 HF1.out); clear hO1 hG1)
            | ((refine wpList_append_valsM rfl (.tmp 50) (.tmp 51) 25 rfl (w3.heap.size) 24 Try.underlying25 (.agg #[.int .i64 0, .int .i64 0]) 2 16 infoP rfl (by decide) _ _ M K (pcells a) (pcells b) rfl rfl HO1.out HQB.out (by exact HBL.out) (HB1.out) (by unfold maxLen; omega) (by omega) (by exact HFS.out) ?_); intro v2x W2q hO2 hG2 _; rw [HPC.out] at hO2; have HO2q := Lib.hid hO2; obtain ⟨A2q, C2q, hv2, _⟩ := owns_form hO2; subst hv2; have HF2q : Hid (Fr0 w3 W2q) := Lib.hid (HF1.out.trans (Fr.of_grown (S := fun j => (Value.slice A1q M C1q).ownBlock = some j) hG2 (fun k hk e => e)) (fun j hj e => by have := (HO1.out.lt j e).1; omega)); clear hO2 hG2)
            | fail)
          have HPP := Lib.hid (pairs_own HO2q.out HABL.out.symm)
          have HF4 := Lib.hid (HF3.out.trans' HF2q.out)
          have hk := HADD.out _ _ HPP.out (HP.out.fr0 HF4.out)
          refine hk.mono ?_
          clear hk
          rintro e w5 ⟨z, rfl, hZ, hF⟩
          have HF5 := Lib.hid (HF4.out.trans' hF)
          have HY5 := Lib.hid ((HY.out.fr0 HF2q.out).fr0 hF)
          have HZ := Lib.hid hZ
          obtain ⟨Az, Cz, rfl⟩ := pairs_form hZ
          clear hF hZ HE0 HO0 HPA HF1 HFS HQB HO1 HO2q HF2q HPP HY HADD
          have hk := rows_any _ o2 (by have := HOL.out; omega) w5 HY5.out
          generalize hO : o2.length = O2 at *
          have HOO := Lib.hid hO
          clear hO
          go_wp2_with fail
          refine hk.mono ?_
          clear hk
          rintro e w6 ⟨A6, C6, rfl, hp6, hF⟩
          have HF6 := Lib.hid (HF5.out.trans' hF)
          have HY6 := Lib.hid (HY5.out.fr0 hF)
          have HP6 := Lib.hid hp6
          have hk := rows_any _ o2 (by have := HOL.out; have := HOO.out; omega) w6 (HZ.out.fr0 hF)
          rw [HOO.out] at hk
          clear hF hp6
          go_wp2_with fail
          refine hk.mono ?_
          clear hk
          rintro e w7 ⟨A7, C7, rfl, hp7, hF⟩
          have HF7 := Lib.hid (HF6.out.trans' hF)
          have HY7 := Lib.hid (HY6.out.fr0 hF)
          have hk := same_any A6 A7 C6 C7 o2 (by have := HOL.out; have := HOO.out; omega) w7
          rw [HOO.out] at hk
          have hk := hk (HP6.out.fr0 hF) hp7
          clear hF hp7
          go_wp2_with fail
          refine hk.mono ?_
          clear hk
          rintro e w8 ⟨rfl, hF⟩
          have HF8 := Lib.hid (HF7.out.trans' hF)
          have HY8 := Lib.hid (HY7.out.fr0 hF)
          clear hF
          by_cases he2 : e2 = 0
          · subst he2
            have hk := pgood_any _ o2 (by have := HOL.out; have := HOO.out; omega) HSO2.out w8 HY8.out
            rw [HRIS.out rfl] at hk
            go_wp2_with fail
            refine hk.mono ?_
            clear hk
            rintro e w9 ⟨rfl, hF⟩
            have HF9 := Lib.hid (HF8.out.trans' hF)
            clear hF
            go_wp2
            go_ret
            exact ⟨rfl, HF9.out⟩
          · have z : (e2 != 0) = true := bne_iff_ne.2 he2
            clear he2
            go_wp2
            go_ret
            exact ⟨rfl, HF8.out⟩
        · have z : (er != 0) = true := bne_iff_ne.2 he
          clear he
          go_wp2
          go_ret
          exact ⟨rfl, HF2.out⟩
end Go.Proofs.Ytijhabpbdiamiaa.SeriesL
