/-
  StoreApart walked.
-/
import Derived.Test.YtbbmjkligiglmaaStoreTwice
import Derived.Test.YtbbmjkligiglmaaStoreApartS
namespace Go.Proofs.Ytbbmjkligiglmaa.StoreL
open Go.RowKit Base _root_.Go.Proofs.Ytbbmjkligiglmaa.Tenant _root_.Go.Proofs.Ytbbmjkligiglmaa.Series _root_.Go.Proofs.Ytbbmjkligiglmaa.Agg _root_.Go.Proofs.Ytbbmjkligiglmaa.Store
open _root_.Go.Proofs.Ytbbmjkligiglmaa.Ord (Grown ptr Ent)

set_option maxRecDepth 100000 in
set_option maxHeartbeats 8000000 in
theorem storeApart_walk (most retain : Int) (v0 : Value) (L : List Ac) (name : ByteArray) (hm : inI64 most) (hr : inI64 retain) (hL : ∀ q ∈ L, SizedAc q) (w : World) (hI : ActsIs w v0 L) :
    Calls Try.prog 5 #[.int .i64 most, .int .i64 retain, v0, .string name] w fun e w' => e = .returned (.bool true) ∧ Fr0 w w' := by
  obtain ⟨A, cap, rfl, hat⟩ := acts_at hI
  have HAT := Lib.hid hat
  have HSZ := Lib.hid hL
  have HBAD := Lib.hid (fun w h => pnew_bad most retain w hm hr h)
  have HBAD1 := Lib.hid (fun w h => pnew_bad 1 retain w ⟨by decide, by decide⟩ hr h)
  have HOK := Lib.hid (fun w h1 h2 => pnew_ok most retain w h1 h2)
  have HOK1 := Lib.hid (fun w h2 => pnew_ok 1 retain w ⟨by decide, by decide⟩ h2)
  clear hI hat hL hm hr
  have HG : Hid (∀ i, i < L.length → ∃ e, L[i]? = some e) := Lib.hid (fun i hi => ⟨_, List.getElem?_eq_getElem hi⟩)
  generalize L.length = n at *
  go_enter Try.func5, Try.ntmps5
  go_wp2_with fail
  refine (awake_any w).mono ?_
  rintro e w1 ⟨rfl, hF1⟩
  have HF1 := Lib.hid hF1
  clear hF1
  by_cases h60 : 60 < n
  · have i3 : (60 : Int) < (n : Int) := by omega
    go_wp2
    go_ret
    exact ⟨rfl, HF1.out⟩
  have i3 : ¬ (60 : Int) < (n : Int) := by omega
  by_cases h50 : 50 < name.size
  · have i4 : (50 : Int) < (name.size : Int) := by omega
    go_wp2
    go_ret
    exact ⟨rfl, HF1.out⟩
  have i4 : ¬ (50 : Int) < (name.size : Int) := by omega
  have HNS : Hid (name.size ≤ 140737488351232) := Lib.hid (by omega)
  by_cases hgood : (1 ≤ most ∧ most ≤ 16) ∧ (1 ≤ retain ∧ retain ≤ 64)
  · have hnew := HOK.out w1 hgood.1 hgood.2
    have hnew2 := fun w => HOK1.out w hgood.2
    clear HOK HBAD HBAD1 HOK1 hgood
    go_wp2_with fail
    refine hnew.mono ?_
    clear hnew
    rintro e w2 ⟨g, rfl, hP2, hF2⟩
    have HP2 := Lib.hid hP2
    have HF2 := Lib.hid (HF1.out.trans' hF2)
    have HS12 := Lib.hid hF2.size
    have hn2 := hnew2 w2
    clear hP2 hF2 hnew2
    unfold ptr
    go_wp2_with fail
    refine hn2.mono ?_
    clear hn2
    rintro e w3 ⟨g2, rfl, hP3, hF3⟩
    have HP3 := Lib.hid hP3
    have HPS3 := Lib.hid (HP2.out.fr hF3 (fun _ _ _ f => f))
    have HF3 := Lib.hid (HF2.out.trans' hF3)
    have HD3 : Hid (∀ k, (w1.heap.size ≤ k ∧ k < w2.heap.size) → ¬ (w2.heap.size ≤ k ∧ k < w3.heap.size)) := Lib.hid (fun k h1 h2 => by omega)
    have HB3 : Hid (∀ k, (w1.heap.size ≤ k ∧ k < w2.heap.size) ∨ (w2.heap.size ≤ k ∧ k < w3.heap.size) → w.heap.size ≤ k ∧ k < w3.heap.size) := Lib.hid (fun k hk => by
      have h1 := HF1.out.size
      have h2 := HS12.out
      have h3 := hF3.size
      omega)
    clear hP3 hF3 HF2 HP2 HF1
    unfold ptr
    go_wp2
    go_loopg [13, 14] n (fun kx vi va wr => ∃ (i : Nat) (ss tt : List SE) (O1 O2 : Nat → Prop), vi = .int .i64 (i : Int) ∧ i ≤ n ∧ n - i ≤ kx ∧ Hid (PAt O1 wr g most retain ss) ∧ Hid (PAt O2 wr g2 1 retain tt) ∧ Hid (Apart name ss tt) ∧ Hid (∀ k, O1 k → ¬ O2 k) ∧ Hid (∀ k, O1 k ∨ O2 k → w.heap.size ≤ k ∧ k < wr.heap.size) ∧ Hid (Fr0 w wr))
    case atStart => exact ⟨0, [], [], _, _, rfl, Nat.zero_le _, by omega, HPS3, HP3, Lib.hid (apart_nil name), HD3, HB3, HF3⟩
    case round =>
      obtain ⟨i, ss, tt, O1, O2, rfl, hi, hkx, HP, HQ, HA, HD, HB, HF⟩ := hrel
      by_cases hlt : i < n
      · obtain ⟨q, hq⟩ := HG.out i hlt
        obtain ⟨pb, po, rfl, B, C, hcells⟩ := HAT.out i q hq
        obtain ⟨-, d1, d2, -, -, -⟩ := hcells wr HF.out
        have hsz := HSZ.out q (List.mem_of_getElem? hq)
        have HCE := Lib.hid hcells
        have i1 : (i : Int) < (n : Int) := by omega
        have i2 : 0 ≤ (i : Int) := by omega
        clear hcells
        by_cases hq40 : 40 < q.l.length
        · have i5 : (40 : Int) < (q.l.length : Int) := by omega
          clear hq hsz
          generalize q.l.length = m at *
          go_wp2
          go_ret
          exact ⟨rfl, HF.out⟩
        have i5 : ¬ (40 : Int) < (q.l.length : Int) := by omega
        by_cases hq50 : 50 < q.nm.size
        · have i6 : (50 : Int) < (q.nm.size : Int) := by omega
          clear hq hsz
          generalize q.l.length = m at *
          go_wp2
          go_ret
          exact ⟨rfl, HF.out⟩
        have i6 : ¬ (50 : Int) < (q.nm.size : Int) := by omega
        have hpush := fun w' (hf : Fr0 wr w') => ppush_any O1 g most retain ss q.nm q.l (.slice B q.l.length C) w' (HP.out.fr hf (fun _ _ _ f => f)) hsz.nm (by omega) hsz.l (HCE.out w' (HF.out.trans' hf)).2.2.2.2.2
        have HPUSH := Lib.hid (fun w' O (hw : Fr0 w w') (hp : PAt O w' g2 1 retain tt) => ppush_any O g2 1 retain tt name q.l (.slice B q.l.length C) w' hp HNS.out (by omega) hsz.l (HCE.out w' hw).2.2.2.2.2)
        have HOTH : Hid (q.nm ≠ name → Apart name (pushSt most retain q.nm q.l ss) tt) := Lib.hid (fun h => apart_other HA.out HP.out.ok.srt h)
        have HFUL : Hid (pushErr most retain q.nm q.l ss = 6 → Apart name (pushSt most retain q.nm q.l ss) tt) := Lib.hid (fun h => apart_full HA.out h)
        have HSAM : Hid (q.nm = name → pushErr most retain q.nm q.l ss ≠ 6 → pushErr 1 retain name q.l tt = pushErr most retain q.nm q.l ss ∧ Apart name (pushSt most retain q.nm q.l ss) (pushSt 1 retain name q.l tt)) := Lib.hid (fun h1 h2 => by
          rw [h1] at h2 ⊢
          exact apart_same HA.out HP.out.ok.srt HQ.out.ok.srt h2)
        generalize pushSt most retain q.nm q.l ss = ss2 at *
        generalize pushErr most retain q.nm q.l ss = er at *
        generalize pushSt 1 retain name q.l tt = tt2 at *
        generalize pushErr 1 retain name q.l tt = er2 at *
        clear hq hsz
        generalize q.l.length = m at *
        generalize q.nm = qn at *
        unfold ptr at *
        go_wp2
        refine Mix.law (fun _ => True) [(.sure, 0), (.sure, 1), (.sure, 2), (.sure, 3), (.sure, 4), (.look, 5), (.sure, 6), (.sure, 7), (.sure, 8), (.sure, 9), (.look, 10), (.turn, 11), (.sure, 12)] (by kernel_rfl) (by kernel_rfl) trivial ?_
        simp only [List.map_cons, List.map_nil, Mix.nth_zero, Mix.nth_succ]
        repeat (first
          | ((with_reducible refine Mix.go_skipS ?_ ?_); (focus (first | exact Mix.wanted_no rfl rfl rfl rfl | exact Mix.wanted_void rfl rfl rfl)); go_frame)
          | ((with_reducible refine Mix.go_skipL ?_ ?_); (focus (first | exact Mix.wanted_no rfl rfl rfl rfl | exact Mix.wanted_void rfl rfl rfl)); go_frame)
          | (refine Mix.go_move (by first | exact Mix.wanted_none rfl | exact Mix.wanted_yes rfl rfl rfl) _ rfl _ (by first | (go_simp; done) | (go_simp; rfl)) ?_; go_frame)
          | (refine Mix.go_assign (by first | exact Mix.wanted_none rfl | exact Mix.wanted_yes rfl rfl rfl) _ rfl _ (by first | (go_simp; done) | (go_simp; rfl)) ?_; go_frame)
          | (refine Mix.go_sureW (by first | exact Mix.wanted_none rfl | exact Mix.wanted_yes rfl rfl rfl) _ (by rfl) (by rfl) _ (fun w' hC' => by go_wp2_with fail; refine Mix.stays ?_; go_frame; rfl) ?_; go_frame)
          | (refine Mix.go_lookW (by first | exact Mix.wanted_none rfl | exact Mix.wanted_yes rfl rfl rfl) _ (by rfl) (by rfl) _ (by go_wp2_with fail; refine Mix.stays ?_; go_frame; rfl) ?_; go_frame))
        refine Mix.go_turn ?_
        go_wp2_with fail
        refine (hpush _ (Fr.refl _ _).drew).mono ?_
        clear hpush
        rintro e w4 ⟨rfl, hF4, hP4⟩
        have HF4 : Hid (Fr0 w w4) := Lib.hid (grown_of (fun k hk => (HB.out k (.inl hk)).1) (HF.out.trans' (Fr.refl _ _).drew) hF4)
        have HP4 := Lib.hid hP4
        have HQ4 := Lib.hid ((HQ.out.fr ((Fr.refl (fun _ => False) wr).drew) (fun _ _ _ f => f)).fr hF4 (fun k _ h2 h1 => HD.out k h1 h2))
        have HD4 : Hid (∀ k, Grown O1 wr.drew w4 k → ¬ O2 k) := Lib.hid (fun k h1 h2 => by
          rcases h1 with h1 | ⟨h1, _⟩
          · exact HD.out k h1 h2
          · have h3 := (HB.out k (.inr h2)).2
            have h4 : wr.heap.size ≤ k := h1
            omega)
        have HB4 : Hid (∀ k, Grown O1 wr.drew w4 k ∨ O2 k → w.heap.size ≤ k ∧ k < w4.heap.size) := Lib.hid (fun k hk => by
          have h5 : wr.heap.size ≤ w4.heap.size := hF4.size
          have h6 := HF.out.size
          rcases hk with (hk | ⟨h1, h2⟩) | hk
          · have := HB.out k (.inl hk); omega
          · have h7 : wr.heap.size ≤ k := h1
            omega
          · have := HB.out k (.inr hk); omega)
        obtain ⟨-, e1, e2, -, -, -⟩ := HCE.out w4 HF4.out
        clear hF4 hP4 d1 d2 HP HQ HA HD HB
        go_wp2
        refine Mix.then_go trivial ?_
        repeat (first
          | ((with_reducible refine Mix.go_skipS ?_ ?_); (focus (first | exact Mix.wanted_no rfl rfl rfl rfl | exact Mix.wanted_void rfl rfl rfl)); go_frame)
          | ((with_reducible refine Mix.go_skipL ?_ ?_); (focus (first | exact Mix.wanted_no rfl rfl rfl rfl | exact Mix.wanted_void rfl rfl rfl)); go_frame)
          | (refine Mix.go_move (by first | exact Mix.wanted_none rfl | exact Mix.wanted_yes rfl rfl rfl) _ rfl _ (by first | (go_simp; done) | (go_simp; rfl)) ?_; go_frame)
          | (refine Mix.go_assign (by first | exact Mix.wanted_none rfl | exact Mix.wanted_yes rfl rfl rfl) _ rfl _ (by first | (go_simp; done) | (go_simp; rfl)) ?_; go_frame)
          | (refine Mix.go_sureW (by first | exact Mix.wanted_none rfl | exact Mix.wanted_yes rfl rfl rfl) _ (by rfl) (by rfl) _ (fun w' hC' => by go_wp2_with fail; refine Mix.stays ?_; go_frame; rfl) ?_; go_frame)
          | (refine Mix.go_lookW (by first | exact Mix.wanted_none rfl | exact Mix.wanted_yes rfl rfl rfl) _ (by rfl) (by rfl) _ (by go_wp2_with fail; refine Mix.stays ?_; go_frame; rfl) ?_; go_frame))
        refine Mix.go_end ?_
        by_cases hnm : qn = name
        · have hqe : (qn.toList == name.toList) = true := by rw [Ord.eq_raw]; exact decide_eq_true hnm
          by_cases h6 : er = 6
          · have HA4 := Lib.hid (HFUL.out h6)
            subst h6
            clear HSAM HOTH HFUL HCE hnm HPUSH
            go_wp2
            go_roundg (n - (i + 1))
            case measure => omega
            case rel => exact ⟨i + 1, _, _, _, _, by simp, by omega, by omega, HP4, HQ4, HA4, HD4, HB4, HF4⟩
          · obtain ⟨hee, hap⟩ := HSAM.out hnm h6
            have HA4 := Lib.hid hap
            have hp2 := HPUSH.out w4 O2 HF4.out HQ4.out
            rw [hee] at hp2
            have hee2 : (er == er) = true := beq_self_eq_true _
            clear HSAM HOTH HFUL HCE hnm hap hee HPUSH
            go_wp2_with fail
            refine hp2.mono ?_
            clear hp2
            rintro e w5 ⟨rfl, hF5, hP5⟩
            have HF5 : Hid (Fr0 w w5) := Lib.hid (grown_of (fun k hk => (HB4.out k (.inr hk)).1) HF4.out hF5)
            have HQ5 := Lib.hid hP5
            have HP5 := Lib.hid (HP4.out.fr hF5 (fun k _ h1 h2 => HD4.out k h1 h2))
            have HD5 : Hid (∀ k, Grown O1 wr.drew w4 k → ¬ Grown O2 w4 w5 k) := Lib.hid (fun k h1 h2 => by
              rcases h2 with h2 | ⟨h2, _⟩
              · exact HD4.out k h1 h2
              · have h3 := (HB4.out k (.inl h1)).2
                omega)
            have HB5 : Hid (∀ k, Grown O1 wr.drew w4 k ∨ Grown O2 w4 w5 k → w.heap.size ≤ k ∧ k < w5.heap.size) := Lib.hid (fun k hk => by
              have h5 := hF5.size
              have h6 := HF4.out.size
              rcases hk with hk | (hk | ⟨h1, h2⟩)
              · have := HB4.out k (.inl hk); omega
              · have := HB4.out k (.inr hk); omega
              · omega)
            clear hF5 hP5 HP4 HQ4 HD4 HB4 HF4 e1 e2
            go_wp2
            go_roundg (n - (i + 1))
            case measure => omega
            case rel => exact ⟨i + 1, _, _, _, _, by simp, by omega, by omega, HP5, HQ5, HA4, HD5, HB5, HF5⟩
        · have hqe : (qn.toList == name.toList) = false := by rw [Ord.eq_raw]; exact decide_eq_false hnm
          have HA4 := Lib.hid (HOTH.out hnm)
          clear HSAM HOTH HFUL HCE hnm HPUSH
          go_wp2
          go_roundg (n - (i + 1))
          case measure => omega
          case rel => exact ⟨i + 1, _, _, _, _, by simp, by omega, by omega, HP4, HQ4, HA4, HD4, HB4, HF4⟩
      · obtain rfl : i = n := by omega
        have i1 : ¬ (i : Int) < (i : Int) := by omega
        have HS1 := Lib.hid (fun w h => psamples_any O1 g most retain ss name w h)
        have HS2 := Lib.hid (fun w h => psamples_any O2 g2 1 retain tt name w h)
        have HRW := Lib.hid (fun v w h => rows_any v (wasS name tt) (by have h1 := (HQ.out.ok.was name).1; have h2 := HQ.out.ok.hr; omega) w h)
        have HSM := Lib.hid (fun A B C D w h1 h2 => same_any A B C D (wasS name tt) (by have h1 := (HQ.out.ok.was name).1; have h2 := HQ.out.ok.hr; omega) w h1 h2)
        rw [HA.out.was] at HS1
        clear HA HD HB HAT HSZ HG
        generalize wasS name tt = was at *
        have hs := HS1.out wr HP.out
        unfold ptr at *
        go_wp2_with fail
        refine hs.mono ?_
        clear hs
        rintro e w5 ⟨v5, rfl, hp5, hF5⟩
        have HP5 := Lib.hid hp5
        have hs := HS2.out w5 (HQ.out.fr hF5 (fun _ _ _ f => f))
        have HF5 := Lib.hid (HF.out.trans' hF5)
        clear hp5 hF5 HS1 HS2 HF
        go_wp2_with fail
        refine hs.mono ?_
        clear hs
        rintro e w6 ⟨v6, rfl, hp6, hF6⟩
        have HP6 := Lib.hid hp6
        have HF6 := Lib.hid (HF5.out.trans' hF6)
        have hr := HRW.out v5 w6 (HP5.out.fr0 hF6)
        clear hp6 hF6 HF5 HP5
        go_wp2_with fail
        refine hr.mono ?_
        clear hr
        rintro e w7 ⟨A7, C7, rfl, hp7, hF7⟩
        have HP7 := Lib.hid hp7
        have HF7 := Lib.hid (HF6.out.trans' hF7)
        have hr := HRW.out v6 w7 (HP6.out.fr0 hF7)
        clear hp7 hF7 HF6 HP6
        go_wp2_with fail
        refine hr.mono ?_
        clear hr
        rintro e w8 ⟨A8, C8, rfl, hp8, hF8⟩
        have hs := HSM.out A7 A8 C7 C8 w8 (HP7.out.fr0 hF8) hp8
        have HF8 := Lib.hid (HF7.out.trans' hF8)
        clear hp8 hF8 HF7 HP7
        go_wp2_with fail
        refine hs.mono ?_
        clear hs
        rintro e w9 ⟨rfl, hF9⟩
        have HF9 := Lib.hid (HF8.out.trans' hF9)
        clear hF9 HF8
        go_wp2
        go_ret
        exact ⟨rfl, HF9.out⟩
  · have hnew := HBAD.out w1 hgood
    clear HOK HBAD hgood
    go_wp2_with fail
    refine hnew.mono ?_
    clear hnew
    rintro e w2 ⟨rfl, hF2⟩
    have HF2 := Lib.hid (HF1.out.trans' hF2)
    clear hF2
    by_cases hr : 1 ≤ retain ∧ retain ≤ 64
    · have hn2 := HOK1.out w2 hr
      clear HOK1 HBAD1 hr
      go_wp2_with fail
      refine hn2.mono ?_
      clear hn2
      rintro e w3 ⟨g2, rfl, _, hF3⟩
      have HF3 := Lib.hid (HF2.out.trans' hF3)
      clear hF3
      unfold ptr
      go_wp2
      go_ret
      exact ⟨rfl, HF3.out⟩
    · have hn2 := HBAD1.out w2 (fun h => hr h.2)
      clear HOK1 HBAD1 hr
      go_wp2_with fail
      refine hn2.mono ?_
      clear hn2
      rintro e w3 ⟨rfl, hF3⟩
      have HF3 := Lib.hid (HF2.out.trans' hF3)
      clear hF3
      go_wp2
      go_ret
      exact ⟨rfl, HF3.out⟩
end Go.Proofs.Ytbbmjkligiglmaa.StoreL
