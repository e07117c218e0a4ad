/-
  ReplyCut walked.
-/
import Derived.Test.YtjefddliebokaaaReplyShare
import Derived.Test.YtjefddliebokaaaReplyEnds
import Derived.Test.YtjefddliebokaaaAppend
namespace Go.Proofs.Ytjefddliebokaaa.ReplyL
open Go.RowKit Base Pack Go.WideMaps Go.Maps _root_.Go.Proofs.Ytjefddliebokaaa.Reply

theorem zeroI (w : World) : (zeroValue 3).run Try.prog w = .ok (.int .i64 0) w := by kernel_rfl
theorem klaw : Keyed Try.prog 3 := int_keyed Try.underlying3
set_option maxRecDepth 100000 in
set_option maxHeartbeats 8000000 in
theorem replyCut_walk (L : List Rp) (v0 : Value) (hll : L.length ≤ 9223372036854775807) (hsz : ∀ q ∈ L, SizedR q) (z : Int) (hz0 : -9223372036854775808 ≤ z ∧ z ≤ 9223372036854775807) (w : World) (hI : Reps w (fun _ => False) v0 L) :
    Calls Try.prog 6 #[v0, .int .i64 z] w fun e w' => e = .returned (.bool true) ∧ Fr0 w w' := by
  obtain ⟨A, C, rfl⟩ := hI.form
  have HI := Lib.hid hI
  have HSZ : Hid (∀ i, i < L.length → SizedR (L.getD i zero)) := Lib.hid (fun i hi => hsz _ (by rw [List.getD_eq_getElem?_getD, List.getElem?_eq_getElem hi]; exact List.getElem_mem hi))
  have HNXT : Hid (∀ i, i < L.length → flat L (i + 1) = flat L i ++ putB (L.getD i zero)) := Lib.hid (flat_next L)
  have HENX : Hid (∀ i, i < L.length → ends L (i + 1) = ends L i + (putB (L.getD i zero)).length) := Lib.hid (ends_next L)
  have HMLT : Hid (∀ i, i < L.length → ∀ a ∈ marks L i, a.1 < ends L (i + 1)) := Lib.hid (marks_lt L)
  have HZ0 := Lib.hid hz0
  clear hI hsz hz0
  generalize hN : L.length = N at *
  have HN := Lib.hid hN
  have hmm := @run_makeMap Try.prog
  clear hN
  go_enter Try.func6, Try.ntmps6
  go_wp2_with fail
  refine (awake_any _).mono ?_
  rintro e W1 ⟨rfl, hF1⟩
  have HF1 := Lib.hid hF1
  clear hF1
  by_cases h12 : 12 < (N : Int)
  ·
    go_wp2
    go_ret
    exact ⟨rfl, HF1.out⟩
  ·
    obtain ⟨mb, hmb⟩ : ∃ mb, mb = W1.heap.size := ⟨_, rfl⟩
    have HM0 : Hid ((W1.alloc (.map #[] 0)).ownsMap Try.prog 3 (plainElem (H := Unit) Try.prog 3) mb 0 (.map (eds []))) := Lib.hid (by rw [hmb]; exact World.ownsMap_made W1 Try.prog 3 _)
    have HMB : Hid (w.heap.size ≤ mb) := Lib.hid (by rw [hmb]; exact HF1.out.size)
    have HFA : Hid (Fr0 w (W1.alloc (.map #[] 0))) := Lib.hid (HF1.out.alloc _)
    have HKZ : Hid (keyOf Try.prog 3 (.int .i64 0) = some (ikey 0)) := Lib.hid (keyOf_int_mk Try.underlying3 (WalkArith.wf_i64 (by omega)))
    have HMBE := Lib.hid hmb
    clear hmb
    go_wp2_with (refine wpList_lit_own _ rfl (.tmp 19) _ _ 49 rfl 3 3 klaw Try.underlying49 _ mb 0 _ (by rw [HMBE.out]; rfl) HM0.out (by unfold maxLen; omega) _ _ _ rfl rfl HKZ.out _ (plainElem_int Try.underlying3 (WalkArith.wf_i64 (by omega))) ?_; intro W2 hown2 hgrow2)
    rw [← HMBE.out]
    have HM2 : Hid (W2.ownsMap Try.prog 3 (plainElem (H := Unit) Try.prog 3) mb (0 + 1) (.map (eds (marks L 0)))) := Lib.hid (by
      have h := hown2
      rw [show (DataW.lit (.int .i64 0) : DataW Unit) = idat 0 from rfl, eds_put 0 (fun a ha => by simp at ha)] at h
      rw [marks_zero]
      exact h)
    have HF2 : Hid (Fr0 w W2) := Lib.hid (Fr.trans HFA.out (Fr.of_grown (S := fun q => q = mb) hgrow2 (fun q _ e => by cases e; rfl)) (fun i hi e => by have e' : i = mb := e; have := HMB.out; omega))
    have HO2 : Hid (W2.ownsRow w.heap.size 5 1 (.slice none 0 0) 0 (bvals (flat L 0))) := Lib.hid (by rw [flat_zero]; exact World.ownsRow_nil _ _ _ _)
    have HE0 : Hid (0 = ends L 0) := Lib.hid (by unfold ends; rw [flat_zero]; rfl)
    clear hown2 hgrow2 HM0 HFA HF1 HKZ
    go_wp2_with fail
    go_loopg [5, 7, 8, 9] N (fun kx va vi _ _ wr => ∃ (i n : Nat) (Aa : Option Addr) (Ca : Nat), vi = .int .i64 (i : Int) ∧ va = .slice Aa n Ca ∧ i ≤ N ∧ N - i ≤ kx ∧ n ≤ 263 * i ∧ Hid (n = ends L i) ∧ Hid (wr.ownsRow w.heap.size 5 1 (.slice Aa n Ca) n (bvals (flat L i))) ∧ Hid (wr.ownsMap Try.prog 3 (plainElem (H := Unit) Try.prog 3) mb (i + 1) (.map (eds (marks L i)))) ∧ Hid (Goods L i) ∧ Hid (Fr0 w wr))
    case atStart => exact ⟨0, 0, none, 0, rfl, rfl, Nat.zero_le _, by omega, by omega, HE0, HO2, HM2, Lib.hid (Goods.start L), HF2⟩
    case round =>
      clear HO2 HM2 HE0
      obtain ⟨i, n, Aa, Ca, rfl, rfl, hi, hk, hn, HEN, HO, HM, HGD, HFR⟩ := hrel
      by_cases hlt : i < N
      · obtain ⟨pb, po, B1, D1, rfl, hc1, hb1⟩ := reps_at HI.out i (by have := HN.out; omega)
        have i1 : (i : Int) < (N : Int) := by omega
        have i2 : 0 ≤ (i : Int) := by omega
        have HC1 := Lib.hid hc1
        have HBQ := Lib.hid hb1
        clear hc1 hb1
        
        have HSQ := Lib.hid (HSZ.out i hlt)
        have HNX := Lib.hid (HNXT.out i hlt)
        have HEX := Lib.hid (HENX.out i hlt)
        have HML := Lib.hid (HMLT.out i hlt)
        have HGN := Lib.hid (fun h1 h2 => HGD.out.next h1 h2)
        generalize L.getD i zero = q at *
        cases hg : good q with
        | true =>
          have hput := pput_good hg B1 D1 HSQ.out.1 wr (HBQ.out.fr0 HFR.out)
          unfold rp4 at hput
          have hps := putB_short hg
          obtain ⟨P, hP⟩ : ∃ P, P = (putB q).length := ⟨_, rfl⟩
          rw [← hP] at hput hps
          have HP := Lib.hid hP
          clear hP
          obtain ⟨k0, k1, k2, k3⟩ := HC1.out wr HFR.out
          go_wp2_with fail
          refine hput.mono ?_
          clear hput k0 k1 k2 k3
          rintro e W2 ⟨A2, C2, rfl, hX2, hF2⟩
          have HF2 := Lib.hid (HFR.out.trans' hF2)
          have HFW2 := Lib.hid hF2
          have HX2 := Lib.hid hX2
          have HO2 := Lib.hid (ownsFr hF2 HO.out (fun _ _ f => f))
          clear hX2 hF2
          go_wp2_with (refine wpList_append_bytes rfl (.tmp 37) (.tmp 38) 25 rfl w.heap.size 5 Try.underlying25 Pack.info8 _ _ n (flat L i) (putB q) rfl rfl HO2.out HX2.out (by rw [← HP.out]; omega) HF2.out.size ?_)
          intro v3 W3 hO3 hG3
          rw [← HP.out, ← HNX.out] at hO3
          have HF3 := Lib.hid (HF2.out.grown hG3 (fun k hk e => by have := (HO2.out.lt k e).1; omega))
          have HM3 := Lib.hid (fr_ends (Fr.of_grown (S := fun k => (Value.slice Aa n Ca).ownBlock = some k) hG3 (fun k hk e => e)) (own_ne_map HO2.out (fr_ends HFW2.out (fun f => f) HM.out)) (fr_ends HFW2.out (fun f => f) HM.out))
          obtain ⟨A3, C3, rfl, _⟩ := owns_form hO3
          have HO3 := Lib.hid hO3
          have HG3 := Lib.hid (HGN.out hg HSQ.out.1)
          have HE3 : Hid (n + P = ends L (i + 1)) := Lib.hid (by rw [HEX.out, ← HEN.out, ← HP.out])
          have hn3 : n + P ≤ 263 * (i + 1) := by omega
          clear hO3 hG3
          generalize n + P = m at *
          have HKM : Hid (keyOf Try.prog 3 (.int .i64 (m : Int)) = some (ikey m)) := Lib.hid (keyOf_int_mk Try.underlying3 (WalkArith.wf_i64 (by omega)))
          go_wp2_with (at_mapUpdate; refine wpList_mapUpdate_own _ rfl _ _ _ 49 rfl 3 3 klaw Try.underlying49 _ mb (i + 1) _ rfl HM3.out (by unfold maxLen; omega) _ _ _ rfl rfl HKM.out _ [] (plainElem_int Try.underlying3 (WalkArith.wf_i64 (by omega))) ?_; intro W4 hown4 hgrow4)
          have HM4 : Hid (W4.ownsMap Try.prog 3 (plainElem (H := Unit) Try.prog 3) mb (i + 1 + 1) (.map (eds (marks L (i + 1))))) := Lib.hid (by
            have h := hown4
            rw [show (DataW.lit (.int .i64 ((i : Int) + 1)) : DataW Unit) = idat (i + 1) from by unfold idat; simp, eds_put (i + 1) (fun a ha => by rw [HE3.out]; exact HML.out a ha), HE3.out, ← marks_next] at h
            exact h)
          have hf4 : Fr (fun q => q = mb) W3 W4 := Fr.of_grown (S := fun q => q = mb) hgrow4 (fun q _ e => by cases e; rfl)
          have HF4 : Hid (Fr0 w W4) := Lib.hid (Fr.trans HF3.out hf4 (fun i hi e => by have e' : i = mb := e; have := HMB.out; omega))
          have HO4 := Lib.hid (ownsFr hf4 HO3.out (fun k hk e => own_ne_map HO3.out HM3.out (by have e' : k = mb := e; rw [← e']; exact hk)))
          clear hown4 hgrow4 hf4 HM3 HO3
          go_wp2
          go_roundg (N - (i + 1))
          case measure => omega
          case rel => exact ⟨i + 1, m, A3, C3, by simp, rfl, by omega, by omega, by omega, HE3, HO4, HM4, HG3, HF4⟩
        | false =>
          have hput := pput_bad hg B1 D1 HSQ.out.1 HSQ.out.2.1 wr (HBQ.out.fr0 HFR.out)
          unfold rp4 at hput
          obtain ⟨k0, k1, k2, k3⟩ := HC1.out wr HFR.out
          go_wp2_with fail
          refine hput.mono ?_
          clear hput k0 k1 k2 k3
          rintro e W2 ⟨A2, C2, rfl, hX2, hF2⟩
          have HF2 := Lib.hid (HFR.out.trans' hF2)
          clear hX2 hF2
          go_wp2
          go_ret
          exact ⟨rfl, HF2.out⟩
      · obtain rfl : i = N := by omega
        by_cases hz1 : z < 0
        ·
          go_wp2
          go_ret
          exact ⟨rfl, HFR.out⟩
        · by_cases hz2 : (n : Int) < z
          ·
            go_wp2
            go_ret
            exact ⟨rfl, HFR.out⟩
          · obtain ⟨m, rfl⟩ := Int.eq_ofNat_of_zero_le (show 0 ≤ z by omega)
            have hmn : m ≤ n := by omega
            have hgd := HGD.out
            rw [← HN.out] at hgd
            have hall := flat_all L
            rw [HN.out] at hall
            have hlc := log_cut L hgd.all m (by rw [← hall]; show m ≤ ends L i; rw [← HEN.out]; exact hmn)
            rw [← hall] at hlc
            have hBY := BytesIs.own HO.out
            have hYl : (flat L i).length = n := HEN.out.symm
            obtain ⟨Y, hY⟩ : ∃ Y, Y = flat L i := ⟨_, rfl⟩
            rw [← hY] at hBY hYl hlc
            have hcap : n ≤ Ca := by obtain ⟨_, _, _, _, he, h1, _⟩ := hBY; simp only [Value.slice.injEq] at he; rw [he.2.2, ← hYl]; exact h1
            rw [← hYl] at hBY hmn
            have hcut := BytesIs.takeHi hmn hBY
            rw [hYl] at hmn
            have hs1 := fun wx : World => cut_hi_at (P := Try.prog) 25 5 Try.underlying25 (by kernel_rfl) Aa n Ca m (by omega) wx
            have hlg := plog_any (.slice Aa m Ca) (Y.take m) (by rw [List.length_take]; omega) wr hcut
            unfold LogPost at hlg
            have HM := HM
            have HKM : Hid (keyOf Try.prog 3 (.int .i64 (m : Int)) = some (ikey m)) := Lib.hid (keyOf_int_mk Try.underlying3 (WalkArith.wf_i64 (by omega)))
            have HLN := Lib.hid (show i ≤ L.length by rw [HN.out]; exact Nat.le_refl _)
            rcases hlc with ⟨k, k1, k2, k3⟩ | ⟨k1, k2⟩
            · rw [k3] at hlg
              simp only at hlg
              have k2' : m = ends L k := k2
              rw [HN.out] at k1
              have htk : (L.take k).length = k := by rw [List.length_take, HN.out]; omega
              have HHAS : Hid (Maps.has (DataW.map (eds (marks L i))) (ikey m) = true) := Lib.hid (by rw [k2']; exact marks_has L i k k1)
              have HAT : Hid (∀ y, (DataW.map (eds (marks L i))).atKey (ikey m) y = idat k) := Lib.hid (fun y => by rw [k2']; exact marks_at L i k HLN.out k1 y)
              have HTK := Lib.hid htk
              clear k2 k2' k3 hBY hcut hgd hall hY hYl htk HO HGD HEN
              go_wp2_with fail
              refine hlg.mono ?_
              clear hlg hs1
              rintro e W5 ⟨v5, rfl, hL5, hF5⟩
              have HF5 := Lib.hid (HFR.out.trans' hF5)
              have HM5 := Lib.hid (fr_ends hF5 (fun f => f) HM.out)
              obtain ⟨A5, C5, rfl⟩ := hL5.form
              rw [HTK.out]
              clear hL5 hF5 HM HFR
              go_wp2_with (at_lookup; refine wpList_lookup_own_ok_int _ rfl _ _ 49 rfl 3 3 .i64 klaw Try.underlying49 Try.underlying3 (zeroI _) mb (i + 1) _ rfl HM5.out _ _ rfl HKM.out ?_; intro c hat hwc; rw [HHAS.out]; obtain rfl : c = (k : Int) := (by have h1 := hat; rw [HAT.out] at h1; unfold idat at h1; cases h1; rfl); clear hat hwc)
              go_ret
              exact ⟨rfl, HF5.out⟩
            · rw [k2] at hlg
              simp only at hlg
              have HHAS : Hid (Maps.has (DataW.map (eds (marks L i))) (ikey m) = false) := Lib.hid (marks_hasnt L i m (fun k hk => k1 k (by rw [HN.out]; exact hk)))
              clear k1 k2 hBY hcut hgd hall hY hYl HO HGD HEN
              go_wp2_with fail
              refine hlg.mono ?_
              clear hlg hs1
              rintro e W5 ⟨v5, rfl, hL5, hF5⟩
              have HF5 := Lib.hid (HFR.out.trans' hF5)
              have HM5 := Lib.hid (fr_ends hF5 (fun f => f) HM.out)
              obtain ⟨A5, C5, rfl⟩ := hL5.form
              clear hL5 hF5 HM HFR
              go_wp2_with (at_lookup; refine wpList_lookup_own_ok_int _ rfl _ _ 49 rfl 3 3 .i64 klaw Try.underlying49 Try.underlying3 (zeroI _) mb (i + 1) _ rfl HM5.out _ _ rfl HKM.out ?_; intro c hat hwc; rw [HHAS.out]; clear hat hwc)
              go_ret
              exact ⟨rfl, HF5.out⟩
end Go.Proofs.Ytjefddliebokaaa.ReplyL
