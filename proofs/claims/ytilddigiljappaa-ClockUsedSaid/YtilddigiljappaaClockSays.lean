/-
  Any dial, any hand: as the document says.
-/
import Derived.Test.YtilddigiljappaaClockGo
import Derived.Test.YtilddigiljappaaClockAlike
import Derived.Test.YtilddigiljappaaClockRef
import Derived.Test.YtilddigiljappaaClockAwake
namespace Go.Proofs.Ytilddigiljappaa.Clock
open Go.RowKit Base

theorem i64_good {d : List Int} {h : Int} (hg : goodD d h = true) : ∀ x ∈ d, I64 x := fun x hx => by
  unfold goodD at hg
  simp only [Bool.and_eq_true, List.all_eq_true, decide_eq_true_eq] at hg
  have := hg.1 x hx
  unfold I64
  omega
/-- step k of Order: the dial and the hand then -/
structure On (d0 : List Int) (os : List Nat) (k : Nat) (d : List Int) (h : Int) : Prop where
  len : d.length = d0.length
  sized : ∀ x ∈ d, I64 x
  hand : I64 h
  cap : d0.length ≤ 1000000
  good : goodD d h = true ∧ orderS d h = os.drop k ∨ goodD d h = false ∧ os = []
theorem on_first {d0 : List Int} {n0 : Int} (hc : d0.length ≤ 1000000) (hh : I64 n0) (hs : ∀ x ∈ d0, I64 x) : On d0 (orderS d0 n0) 0 d0 n0 := by
  refine ⟨rfl, hs, hh, hc, ?_⟩
  cases hg : goodD d0 n0 with
  | true => exact .inl ⟨rfl, rfl⟩
  | false => exact .inr ⟨rfl, by unfold orderS; rw [hg]; rfl⟩
theorem On.step {d0 : List Int} {os : List Nat} {k : Nat} {d : List Int} {h : Int} (o : On d0 os k d h) (hk : k < os.length) : ∃ m tz, nextS d h = (os.getD k 0, m, tz) ∧ okD d h = true ∧ On d0 os (k + 1) m ((tz : Nat) : Int) := by
  rcases o.good with ⟨hg, ho⟩ | ⟨_, ho⟩
  · obtain ⟨h1, h2⟩ := order_step hg
    cases hok : okD d h with
    | false =>
      rw [h1 hok] at ho
      have := congrArg List.length ho
      rw [List.length_drop] at this
      simp at this
      omega
    | true =>
      obtain ⟨r, m, tz, e1, e2, e3, e4⟩ := h2 hok
      rw [e4, List.drop_eq_getElem_cons hk] at ho
      simp only [List.cons.injEq] at ho
      obtain ⟨hr, ho⟩ := ho
      refine ⟨m, tz, ?_, rfl, by rw [e2.len]; exact o.len, fun x hx => ?_, ?_, o.cap, .inl ⟨e3, ho⟩⟩
      · rw [e1, List.getD_eq_getElem?_getD, List.getElem?_eq_getElem hk, hr]
        rfl
      · exact i64_good e3 x hx
      · have := e2.to_lt
        have := o.len
        have := o.cap
        unfold I64
        omega
  · subst ho
    simp at hk
theorem On.ends {d0 : List Int} {os : List Nat} {k : Nat} {d : List Int} {h : Int} (o : On d0 os k d h) (hk : os.length ≤ k) : okD d h = false := by
  rcases o.good with ⟨hg, ho⟩ | ⟨hg, _⟩
  · obtain ⟨_, h2⟩ := order_step hg
    cases hok : okD d h with
    | false => rfl
    | true =>
      obtain ⟨r, m, tz, _, _, _, e4⟩ := h2 hok
      rw [e4, List.drop_eq_nil_of_le hk] at ho
      cases ho
  · unfold okD
    rw [hg]
    rfl
set_option maxRecDepth 100000 in
set_option maxHeartbeats 8000000 in
theorem clockSays_walk (v0 : Value) (d0 : List Int) (n0 : Int) (hd : d0.length ≤ 9223372036854775807) (hs : ∀ x ∈ d0, I64 x) (hh : I64 n0) (w : World) (hI : IntsIs w v0 d0) :
    Calls Try.prog 4 #[v0, .int .i64 n0] w fun e w' => e = .returned (.bool true) ∧ Fr0 w w' := by
  obtain ⟨A0, C0, rfl⟩ := ints_form hI
  have HI := Lib.hid hI
  clear hI
  by_cases hlen : 60 < d0.length
  · have l1 : (60 : Int) < (d0.length : Int) := by omega
    generalize d0.length = n at *
    go_enter Try.func4, Try.ntmps4
    go_wp2_with fail
    refine (awake_any w).mono ?_
    rintro e w1 ⟨rfl, hF⟩
    have HF := Lib.hid hF
    clear hF
    go_wp2
    go_ret
    exact ⟨rfl, HF.out⟩
  · have l1 : ¬ (60 : Int) < (d0.length : Int) := by omega
    have HL : Hid (d0.length ≤ 60) := Lib.hid (by omega)
    have HPN := Lib.hid (fun w (hI : IntsIs w (.slice A0 d0.length C0) d0) => pnext_any _ d0 n0 (by omega) hs hh w hI)
    have HRN := Lib.hid (fun w (hI : IntsIs w (.slice A0 d0.length C0) d0) => rnext_any _ d0 n0 (by omega) hs hh w hI)
    have HPG := Lib.hid (fun w (hI : IntsIs w (.slice A0 d0.length C0) d0) => pgood_any _ d0 n0 (by omega) hs hh w hI)
    have HRG := Lib.hid (fun w (hI : IntsIs w (.slice A0 d0.length C0) d0) => rgood_any _ d0 n0 (by omega) hs hh w hI)
    have HPO := Lib.hid (fun w (hI : IntsIs w (.slice A0 d0.length C0) d0) => porder_any _ d0 n0 (by omega) hs hh w hI)
    have HML : Hid ((nextS d0 n0).2.1.length ≤ 60) := Lib.hid (by
      cases ho : okD d0 n0 with
      | false => rw [next_none ho]; simp
      | true =>
        obtain ⟨r, m, tz, h1, h2, _⟩ := next_went ho
        rw [h1, h2.len]
        omega)
    have HOL : Hid ((orderS d0 n0).length ≤ 60) := Lib.hid (by
      cases hg : goodD d0 n0 with
      | false => unfold orderS; rw [hg]; simp
      | true =>
        rw [order_length hg, many_filter]
        have := List.length_filter_le (fun i => decide (0 < d0.getD i 0)) (List.range d0.length)
        rw [List.length_range] at this
        omega)
    have HMS : Hid (∀ x ∈ (nextS d0 n0).2.1, I64 x) := Lib.hid (fun x hx => by
      cases ho : okD d0 n0 with
      | false => rw [next_none ho] at hx; cases hx
      | true =>
        obtain ⟨r, m, tz, h1, h2, h3⟩ := next_went ho
        rw [h1] at hx
        exact i64_good (good_of (h := tz) (h2.good h3) (by rw [h2.len]; exact Nat.le_of_lt h2.to_lt)) x hx)
    have HFIRST : Hid (On d0 (orderS d0 n0) 0 d0 n0) := Lib.hid (on_first (by omega) hh hs)
    clear hd hs hh hlen
    generalize hOS : orderS d0 n0 = os at *
    generalize hNS : nextS d0 n0 = ns at *
    generalize hGS : goodD d0 n0 = gs at *
    generalize hKS : okD d0 n0 = ks at *
    have HN0 : Hid (∀ w e w', NextPost d0 n0 w e w' → ∃ A C, e = .returned (.tuple #[.int .i64 (ns.1 : Int), .slice A ns.2.1.length C, .int .i64 (ns.2.2 : Int), .bool ks]) ∧ IntsIs w' (.slice A ns.2.1.length C) ns.2.1 ∧ Fr0 w w') := Lib.hid (fun w e w' h => by
      obtain ⟨mv, he, hI, hF, _⟩ := h
      rw [hNS, hKS] at he
      rw [hNS] at hI
      obtain ⟨A, C, rfl⟩ := ints_form hI
      exact ⟨A, C, he, hI, hF⟩)
    clear hOS hNS hGS hKS
    generalize hn : d0.length = n at *
    have HN := Lib.hid hn
    clear hn
    go_enter Try.func4, Try.ntmps4
    go_wp2_with fail
    refine (awake_any w).mono ?_
    rintro e w1 ⟨rfl, hF⟩
    have HF1 := Lib.hid hF
    have HI1 := Lib.hid (HI.out.fr0 hF)
    clear hF
    go_wp2_with fail
    refine (HPN.out w1 HI1.out).mono ?_
    intro e w2 hP
    obtain ⟨A1, C1, rfl, hI, hF⟩ := HN0.out _ _ _ hP
    have HM1 := Lib.hid hI
    have HF2 := Lib.hid (HF1.out.trans' hF)
    have HI2 := Lib.hid (HI1.out.fr0 hF)
    clear hP hI hF HPN
    obtain ⟨r0, m0, t0⟩ := ns
    simp only at HML HMS HN0 HM1 ⊢
    generalize hml : m0.length = ml at *
    have HMLN := Lib.hid hml
    clear hml
    go_wp2_with fail
    refine (HRN.out w2 HI2.out).mono ?_
    intro e w3 hP
    obtain ⟨A2, C2, rfl, hI, hF⟩ := HN0.out _ _ _ hP
    have HM2 := Lib.hid hI
    have HM1' := Lib.hid (HM1.out.fr0 hF)
    have HF3 := Lib.hid (HF2.out.trans' hF)
    have HI3 := Lib.hid (HI2.out.fr0 hF)
    have HAL : Hid _ := Lib.hid (alike_any (.slice A1 ml C1) (.slice A2 ml C2) m0 m0 (by have := HML.out; have := HMLN.out; omega) HMS.out w3 HM1'.out HM2.out)
    clear hP hI hF HRN HN0 HM1
    have z0 : (!decide (m0 = m0)) = false := by simp
    have z1 : (ks != ks) = false := by simp
    have z2 : (gs != gs) = false := by simp
    go_wp2_with fail
    refine HAL.out.mono ?_
    rintro e w4 ⟨rfl, hF⟩
    have HF4 := Lib.hid (HF3.out.trans' hF)
    have HI4 := Lib.hid (HI3.out.fr0 hF)
    clear hF HAL
    go_wp2_with fail
    refine (HPG.out w4 HI4.out).mono ?_
    rintro e w5 ⟨rfl, hF⟩
    have HF5 := Lib.hid (HF4.out.trans' hF)
    have HI5 := Lib.hid (HI4.out.fr0 hF)
    clear hF HPG
    go_wp2_with fail
    refine (HRG.out w5 HI5.out).mono ?_
    rintro e w6 ⟨rfl, rfl⟩
    clear HRG
    go_wp2_with fail
    refine (HPO.out w5 HI5.out).mono ?_
    rintro e w6 ⟨ov, rfl, hO, hF⟩
    have HF6 := Lib.hid (HF5.out.trans' hF)
    have HI6 := Lib.hid (HI5.out.fr0 hF)
    obtain ⟨AO, CO, rfl⟩ := ints_form hO
    rw [List.length_map] at *
    have hO2 : IntsIs w6 (.slice AO (os.map fun i : Nat => (i : Int)).length CO) (os.map fun i : Nat => (i : Int)) := by rw [List.length_map]; exact hO
    obtain ⟨pb, po, hA, hC⟩ := ints_cells hO2
    rw [List.length_map] at hA hC
    have HA := Lib.hid hA
    have HC : Hid (∀ w', Fr0 w6 w' → ∀ j, j < os.length → w'.cell? ⟨pb, po + j, none⟩ = some (.int .i64 ((os.getD j 0 : Nat) : Int))) := Lib.hid (fun w' hf j hj => by
      obtain ⟨h1, h2⟩ := hC j hj
      rw [(hf.cell (p := ⟨pb, po + j, none⟩) h1 (fun f => f)).trans h2]
      simp [List.getD_eq_getElem?_getD, List.getElem?_eq_getElem hj])
    clear hF hO hO2 hA hC HPO HI5
    have hol := HOL.out
    generalize hon : os.length = on at *
    have HON := Lib.hid hon
    clear hon
    have HD6 : Hid (IntsIs w6 (.slice A0 n C0) d0) := HI6
    go_wp2
    go_loopg [14, 15, 16] on (fun kx vd vh vi wr => ∃ (k : Nat) (d : List Int) (h : Int) (A C : _), vi = .int .i64 (k : Int) ∧ vh = .int .i64 h ∧ vd = .slice A d.length C ∧ k ≤ on ∧ on - k ≤ kx ∧ Hid (IntsIs wr (.slice A d.length C) d) ∧ Hid (On d0 os k d h) ∧ Hid (Fr0 w6 wr))
    case atStart => exact ⟨0, d0, n0, A0, C0, rfl, rfl, by rw [HN.out], Nat.zero_le _, by omega, by rw [HN.out]; exact HD6, HFIRST, Lib.hid (Fr.refl _ _)⟩
    case round =>
      obtain ⟨k, d, h, A, C, rfl, rfl, rfl, hk, hkx, HD, HON2, HFR⟩ := hrel
      have hdl : d.length ≤ 60 := by have := HON2.out.len; have := HN.out; have := HL.out; omega
      have HR := Lib.hid (rnext_any (.slice A d.length C) d h (by omega) HON2.out.sized HON2.out.hand wr HD.out)
      by_cases hlt : k < on
      · obtain ⟨m, tz, h1, h2, h3⟩ := HON2.out.step (by rw [HON.out]; exact hlt)
        have HX : Hid (∀ e w', NextPost d h wr e w' → ∃ A C, e = .returned (.tuple #[.int .i64 ((os.getD k 0 : Nat) : Int), .slice A m.length C, .int .i64 (tz : Int), .bool true]) ∧ IntsIs w' (.slice A m.length C) m ∧ Fr0 wr w') := Lib.hid (fun e w' hp => by
          obtain ⟨mv, he, hI, hF, _⟩ := hp
          rw [h1, h2] at he
          rw [h1] at hI
          obtain ⟨A, C, rfl⟩ := ints_form hI
          exact ⟨A, C, he, hI, hF⟩)
        have HNX := Lib.hid h3
        obtain rfl := HA.out (by omega)
        clear h1 h2 h3
        have k1 : (k : Int) < (on : Int) := by omega
        have k2 : 0 ≤ (k : Int) := by omega
        go_wp2_with fail
        refine HR.out.mono ?_
        intro e w7 hp
        obtain ⟨A3, C3, rfl, hI3, hF3⟩ := HX.out _ _ hp
        have c7 := HC.out w7 (HFR.out.trans' hF3) k hlt
        have HFR7 := Lib.hid (HFR.out.trans' hF3)
        have HI7 := Lib.hid hI3
        clear hp hI3 hF3 HX HR HD HON2
        generalize os.getD k 0 = o at *
        have HMM : Hid (m.length = m.length) := Lib.hid rfl
        go_wp2
        go_roundg (on - (k + 1))
        case measure => omega
        case rel => exact ⟨k + 1, m, tz, A3, C3, by simp, rfl, rfl, by omega, by omega, HI7, HNX, HFR7⟩
      · obtain rfl : k = on := by omega
        have HE : Hid (∀ e w', NextPost d h wr e w' → ∃ x1 x2 x3, e = .returned (.tuple #[x1, x2, x3, .bool false]) ∧ Fr0 wr w') := Lib.hid (fun e w' hp => by
          obtain ⟨mv, he, hI, hF, _⟩ := hp
          rw [HON2.out.ends (by rw [HON.out]; exact Nat.le_refl _)] at he
          exact ⟨_, _, _, he, hF⟩)
        clear HON2 HC HA
        go_wp2_with fail
        refine HR.out.mono ?_
        intro e w7 hp
        obtain ⟨x1, x2, x3, rfl, hF7⟩ := HE.out _ _ hp
        have HF7 := Lib.hid (HF6.out.trans' (HFR.out.trans' hF7))
        clear hp hF7 HE HR
        go_wp2
        go_ret
        exact ⟨rfl, HF7.out⟩
end Go.Proofs.Ytilddigiljappaa.Clock
