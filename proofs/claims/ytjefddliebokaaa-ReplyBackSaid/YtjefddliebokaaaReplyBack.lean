/-
  ReplyBack walked.
-/
import Derived.Test.YtjefddliebokaaaReplyShare
import Derived.Test.YtjefddliebokaaaReplyFlat
import Derived.Test.YtjefddliebokaaaAppend
namespace Go.Proofs.Ytjefddliebokaaa.ReplyL
open Go.RowKit Base Pack _root_.Go.Proofs.Ytjefddliebokaaa.Reply

set_option maxRecDepth 100000 in
set_option maxHeartbeats 8000000 in
theorem replyBack_walk (L : List Rp) (v0 v1 : Value) (hll : L.length ≤ 9223372036854775807) (hsz : ∀ q ∈ L, SizedR q) (b : List UInt8) (w : World) (hI : Reps w (fun _ => False) v0 L) (hJ : BytesIs w v1 b) :
    Calls Try.prog 5 #[v0, v1] w fun e w' => e = .returned (.bool true) ∧ Fr0 w w' := by
  obtain ⟨A, C, rfl⟩ := hI.form
  obtain ⟨B, D, rfl⟩ := hJ.form
  have HI := Lib.hid hI
  have HB := Lib.hid hJ
  have HSZ : Hid (∀ i, i < L.length → SizedR (L.getD i zero)) := Lib.hid (fun i hi => hsz _ (by rw [List.getD_eq_getElem?_getD, List.getElem?_eq_getElem hi]; exact List.getElem_mem hi))
  have HNXT : Hid (∀ i, i < L.length → flat L (i + 1) = flat L i ++ putB (L.getD i zero)) := Lib.hid (flat_next L)
  clear hI hsz hJ
  generalize hN : L.length = N at *
  have HN := Lib.hid hN
  clear hN
  go_enter Try.func5, Try.ntmps5
  go_wp2_with fail
  refine (awake_any _).mono ?_
  rintro e W1 ⟨rfl, hF1⟩
  have HF1 := Lib.hid hF1
  clear hF1
  by_cases h20 : 20 < (N : Int)
  ·
    go_wp2
    go_ret
    exact ⟨rfl, HF1.out⟩
  · by_cases h1000 : 1000 < (b.length : Int)
    ·
      go_wp2
      go_ret
      exact ⟨rfl, HF1.out⟩
    ·
      have HO1 : Hid (W1.ownsRow w.heap.size 5 1 (.slice none 0 0) 0 (bvals (flat L 0))) := Lib.hid (by rw [flat_zero]; exact World.ownsRow_nil _ _ _ _)
      have HLB := Lib.hid (fun w h => plog_any (.slice B b.length D) b (by omega) w h)
      unfold LogPost at HLB
      go_wp2_with fail
      go_loopg [5, 6, 7, 8] N (fun kx va vi _ _ wr => ∃ (i n : Nat) (Aa : Option Addr) (Ca : Nat), vi = .int .i64 (i : Int) ∧ va = .slice Aa n Ca ∧ i ≤ N ∧ N - i ≤ kx ∧ n ≤ 263 * i ∧ Hid (wr.ownsRow w.heap.size 5 1 (.slice Aa n Ca) n (bvals (flat L i))) ∧ Hid (Goods L i) ∧ Hid (Fr0 w wr))
      case atStart => exact ⟨0, 0, none, 0, rfl, rfl, Nat.zero_le _, by omega, by omega, HO1, Lib.hid (Goods.start L), HF1⟩
      case round =>
        clear HO1
        obtain ⟨i, n, Aa, Ca, rfl, rfl, hi, hk, hn, HO, HGD, HFR⟩ := hrel
        by_cases hlt : i < N
        · obtain ⟨pb, po, B1, D1, rfl, hc1, hb1⟩ := reps_at HI.out i (by have := HN.out; omega)
          have i1 : (i : Int) < (N : Int) := by omega
          have i2 : 0 ≤ (i : Int) := by omega
          have HC1 := Lib.hid hc1
          have HBQ := Lib.hid hb1
          clear hc1 hb1
          
          have HSQ := Lib.hid (HSZ.out i hlt)
          have HNX := Lib.hid (HNXT.out i hlt)
          have HGN := Lib.hid (fun h1 h2 => HGD.out.next h1 h2)
          generalize L.getD i zero = q at *
          cases hg : good q with
          | true =>
            have hput := pput_good hg B1 D1 HSQ.out.1 wr (HBQ.out.fr0 HFR.out)
            unfold rp4 at hput
            have hps := putB_short hg
            obtain ⟨P, hP⟩ : ∃ P, P = (putB q).length := ⟨_, rfl⟩
            rw [← hP] at hput hps
            have HP := Lib.hid hP
            clear hP
            obtain ⟨k0, k1, k2, k3⟩ := HC1.out wr HFR.out
            go_wp2_with fail
            refine hput.mono ?_
            clear hput k0 k1 k2 k3
            rintro e W2 ⟨A2, C2, rfl, hX2, hF2⟩
            have HF2 := Lib.hid (HFR.out.trans' hF2)
            have HFW2 := Lib.hid hF2
            have HX2 := Lib.hid hX2
            have HO2 := Lib.hid (ownsFr hF2 HO.out (fun _ _ f => f))
            clear hX2 hF2
            go_wp2_with (refine wpList_append_bytes rfl (.tmp 46) (.tmp 47) 25 rfl w.heap.size 5 Try.underlying25 Pack.info8 _ _ n (flat L i) (putB q) rfl rfl HO2.out HX2.out (by rw [← HP.out]; omega) HF2.out.size ?_)
            intro v3 W3 hO3 hG3
            rw [← HP.out, ← HNX.out] at hO3
            have HF3 := Lib.hid (HF2.out.grown hG3 (fun k hk e => by have := (HO2.out.lt k e).1; omega))
            obtain ⟨A3, C3, rfl, _⟩ := owns_form hO3
            have HO3 := Lib.hid hO3
            have HG3 := Lib.hid (HGN.out hg HSQ.out.1)
            clear hO3 hG3
            go_wp2
            go_roundg (N - (i + 1))
            case measure => omega
            case rel => exact ⟨i + 1, n + P, A3, C3, by simp, rfl, by omega, by omega, by omega, HO3, HG3, HF3⟩
          | false =>
            have hput := pput_bad hg B1 D1 HSQ.out.1 HSQ.out.2.1 wr (HBQ.out.fr0 HFR.out)
            unfold rp4 at hput
            obtain ⟨k0, k1, k2, k3⟩ := HC1.out wr HFR.out
            go_wp2_with fail
            refine hput.mono ?_
            clear hput k0 k1 k2 k3
            rintro e W2 ⟨A2, C2, rfl, hX2, hF2⟩
            have HF2 := Lib.hid (HFR.out.trans' hF2)
            clear hX2 hF2
            go_wp2
            go_ret
            exact ⟨rfl, HF2.out⟩
        · obtain rfl : i = N := by omega
          have hall := flat_all L
          rw [HN.out] at hall
          have hgd := HGD.out
          rw [← HN.out] at hgd
          have hlp := log_puts L hgd.all
          have hO := HO.out
          rw [hall] at hO
          have HBY := Lib.hid (BytesIs.own hO)
          obtain ⟨Y, hY⟩ : ∃ Y, Y = (L.map putB).flatten := ⟨_, rfl⟩
          have hYl : Y.length = n := by
            have := hO.1
            rw [bvals_length, ← hY] at this
            omega
          rw [← hY] at HBY hlp
          have hlg := plog_any (.slice Aa n Ca) Y (by omega) wr HBY.out
          unfold LogPost at hlg
          rw [hlp] at hlg
          simp only at hlg
          clear hall hgd hlp hO hY hYl HGD HO
          go_wp2_with fail
          refine hlg.mono ?_
          clear hlg
          rintro e W5 ⟨v5, rfl, hL5, hF5⟩
          have HF5 := Lib.hid (HFR.out.trans' hF5)
          have HL5 := Lib.hid hL5
          obtain ⟨A5, C5, rfl⟩ := hL5.form
          rw [HN.out] at HL5
          rw [HN.out]
          clear hL5 hF5 HBY HFR
          go_wp2_with fail
          go_loopg [11] i (fun kx vi wr => ∃ (j : Nat), vi = .int .i64 (j : Int) ∧ j ≤ i ∧ i - j ≤ kx ∧ Hid (Fr0 W5 wr))
          case atStart => exact ⟨0, rfl, Nat.zero_le _, by omega, Lib.hid (Fr.refl _ _)⟩
          case round =>
            obtain ⟨j, rfl, hj, hjk, HFR⟩ := hrel
            by_cases hlt2 : j < i
            · obtain ⟨qb, qo, B2, D2, rfl, hc2, hb2⟩ := reps_at HL5.out j (by have := HN.out; omega)
              obtain ⟨pb, po, B1, D1, rfl, hc1, hb1⟩ := reps_at HI.out j (by have := HN.out; omega)
              have i1 : (j : Int) < (i : Int) := by omega
              have i2 : 0 ≤ (j : Int) := by omega
              have HC1 := Lib.hid hc1
              have HC2 := Lib.hid hc2
              have HB1 := Lib.hid hb1
              have HB2 := Lib.hid hb2
              have hcl : ∀ X, Fr0 W5 X → (X.cell? ⟨pb, po + j * 4, none⟩ = some (.int .i64 (L.getD j zero).st) ∧ X.cell? ⟨pb, po + j * 4 + 1, none⟩ = some (.bool (L.getD j zero).hit) ∧ X.cell? ⟨pb, po + j * 4 + 2, none⟩ = some (.int .u32 ((L.getD j zero).slot : Int)) ∧ X.cell? ⟨pb, po + j * 4 + 3, none⟩ = some (.slice B1 (L.getD j zero).body.length D1) ∧ X.cell? ⟨qb, qo + j * 4, none⟩ = some (.int .i64 (L.getD j zero).st) ∧ X.cell? ⟨qb, qo + j * 4 + 1, none⟩ = some (.bool (L.getD j zero).hit) ∧ X.cell? ⟨qb, qo + j * 4 + 2, none⟩ = some (.int .u32 ((L.getD j zero).slot : Int)) ∧ X.cell? ⟨qb, qo + j * 4 + 3, none⟩ = some (.slice B2 (L.getD j zero).body.length D2)) := fun X h => by
                obtain ⟨a1, a2, a3, a4⟩ := HC1.out X (HF5.out.trans' h)
                obtain ⟨b1, b2, b3, b4⟩ := HC2.out X h
                exact ⟨a1, a2, a3, a4, b1, b2, b3, b4⟩
              have HCL := Lib.hid hcl
              clear hc1 hc2 hb1 hb2 hcl HC1 HC2
              generalize L.getD j zero = q at *
              have HOQ := Lib.hid (fun w => own_any B2 q.body.length D2 q w)
              have HOP := Lib.hid (fun w => own_any B1 q.body.length D1 q w)
              have HSQ := Lib.hid (fun w hA hB => same_self B2 B1 D2 D1 q w hA hB)
              unfold rp4 at HOQ HOP HSQ
              go_wp2
              refine Mix.law (fun X => (X.cell? ⟨pb, po + j * 4, none⟩ = some (.int .i64 q.st) ∧ X.cell? ⟨pb, po + j * 4 + 1, none⟩ = some (.bool q.hit) ∧ X.cell? ⟨pb, po + j * 4 + 2, none⟩ = some (.int .u32 (q.slot : Int)) ∧ X.cell? ⟨pb, po + j * 4 + 3, none⟩ = some (.slice B1 q.body.length D1) ∧ X.cell? ⟨qb, qo + j * 4, none⟩ = some (.int .i64 q.st) ∧ X.cell? ⟨qb, qo + j * 4 + 1, none⟩ = some (.bool q.hit) ∧ X.cell? ⟨qb, qo + j * 4 + 2, none⟩ = some (.int .u32 (q.slot : Int)) ∧ X.cell? ⟨qb, qo + j * 4 + 3, none⟩ = some (.slice B2 q.body.length D2))) [(.sure, 0), (.sure, 1), (.sure, 2), (.sure, 3), (.sure, 5), (.sure, 6), (.sure, 7), (.sure, 8), (.turn, 4), (.turn, 9), (.turn, 10), (.sure, 11)] (by kernel_rfl) (by kernel_rfl) (HCL.out _ HFR.out.drew) ?_
              simp only [List.map_cons, List.map_nil, Mix.nth_zero, Mix.nth_succ]
              have HDR := Lib.hid HFR.out.drew
              generalize wr.drew = wd at *
              repeat (first
                | (refine Mix.go_skipS (by first | exact Mix.wanted_no rfl rfl rfl rfl | exact Mix.wanted_void rfl rfl rfl) ?_; go_frame)
                | (refine Mix.go_skipL (by first | exact Mix.wanted_no rfl rfl rfl rfl | exact Mix.wanted_void rfl rfl rfl) ?_; go_frame)
                | (refine Mix.go_move (by first | exact Mix.wanted_none rfl | exact Mix.wanted_yes rfl rfl rfl) _ rfl _ (by first | (go_simp; done) | (go_simp; rfl)) ?_; go_frame)
                | (refine Mix.go_assign (by first | exact Mix.wanted_none rfl | exact Mix.wanted_yes rfl rfl rfl) _ rfl _ (by first | (go_simp; done) | (go_simp; rfl)) ?_; go_frame)
                | (refine Mix.go_sureW (by first | exact Mix.wanted_none rfl | exact Mix.wanted_yes rfl rfl rfl) _ (by rfl) (by rfl) _ (fun w' ⟨hC1, hC2, hC3, hC4, hC5, hC6, hC7, hC8⟩ => by go_wp2_with fail; refine Mix.stays ?_; go_frame; rfl) ?_; go_frame)
                | (refine Mix.go_lookW (by first | exact Mix.wanted_none rfl | exact Mix.wanted_yes rfl rfl rfl) _ (by rfl) (by rfl) _ (by go_wp2_with fail; refine Mix.stays ?_; go_frame; rfl) ?_; go_frame))
              refine Mix.go_turn ?_
              go_wp2_with fail
              refine (HOQ.out wd).mono ?_
              rintro e wa ⟨rfl, hFa⟩
              have HFA := Lib.hid (HDR.out.trans' hFa)
              clear hFa
              go_wp2
              refine Mix.then_go (HCL.out _ HFA.out) ?_
              refine Mix.go_turn ?_
              go_wp2_with fail
              refine (HOP.out wa).mono ?_
              rintro e wb ⟨rfl, hFa⟩
              have HFB := Lib.hid (HFA.out.trans' hFa)
              clear hFa
              go_wp2
              refine Mix.then_go (HCL.out _ HFB.out) ?_
              refine Mix.go_turn ?_
              go_wp2_with fail
              refine (HSQ.out wb (HB2.out.fr0 HFB.out) (HB1.out.fr0 (HF5.out.trans' HFB.out))).mono ?_
              rintro e we ⟨rfl, hFa⟩
              have HFE := Lib.hid (HFB.out.trans' hFa)
              clear hFa
              go_wp2
              refine Mix.then_go (HCL.out _ HFE.out) ?_
              repeat (first
                | (refine Mix.go_skipS (by first | exact Mix.wanted_no rfl rfl rfl rfl | exact Mix.wanted_void rfl rfl rfl) ?_; go_frame)
                | (refine Mix.go_skipL (by first | exact Mix.wanted_no rfl rfl rfl rfl | exact Mix.wanted_void rfl rfl rfl) ?_; go_frame)
                | (refine Mix.go_move (by first | exact Mix.wanted_none rfl | exact Mix.wanted_yes rfl rfl rfl) _ rfl _ (by first | (go_simp; done) | (go_simp; rfl)) ?_; go_frame)
                | (refine Mix.go_assign (by first | exact Mix.wanted_none rfl | exact Mix.wanted_yes rfl rfl rfl) _ rfl _ (by first | (go_simp; done) | (go_simp; rfl)) ?_; go_frame)
                | (refine Mix.go_sureW (by first | exact Mix.wanted_none rfl | exact Mix.wanted_yes rfl rfl rfl) _ (by rfl) (by rfl) _ (fun w' ⟨hC1, hC2, hC3, hC4, hC5, hC6, hC7, hC8⟩ => by go_wp2_with fail; refine Mix.stays ?_; go_frame; rfl) ?_; go_frame)
                | (refine Mix.go_lookW (by first | exact Mix.wanted_none rfl | exact Mix.wanted_yes rfl rfl rfl) _ (by rfl) (by rfl) _ (by go_wp2_with fail; refine Mix.stays ?_; go_frame; rfl) ?_; go_frame))
              refine Mix.go_end ?_
              go_wp2
              go_roundg (i - (j + 1))
              case measure => omega
              case rel => exact ⟨j + 1, by simp, by omega, by omega, HFE⟩
            · obtain rfl : j = i := by omega
              have HF6 := Lib.hid (HF5.out.trans' HFR.out)
              have hls := log_short b
              have hgr : ∀ r ∈ (log b).l, good r = true ∧ r.slot < 4294967296 := by
                by_cases h : (log b).e = 0
                · have h1 : log b = ⟨(log b).l, 0⟩ := by
                    cases hq : log b
                    rw [hq] at h
                    simp only at h
                    rw [h]
                  exact (puts_log b _ h1).2
                · rw [log_none h]; exact fun r hr => by simp at hr
              have hfb : (log b).e = 0 → flat (log b).l (log b).l.length = b := fun h => by
                have h1 : log b = ⟨(log b).l, 0⟩ := by
                  cases hq : log b
                  rw [hq] at h
                  simp only at h
                  rw [h]
                rw [flat_all]
                exact (puts_log b _ h1).1
              clear HFR HF5 HL5
              generalize log b = G at *
              obtain ⟨R, el⟩ := G
              simp only at hls hgr hfb HLB
              have hlg := HLB.out wr (HB.out.fr0 HF6.out)
              have HGR : Hid (∀ i, i < R.length → good (R.getD i zero) = true ∧ (R.getD i zero).slot < 4294967296) := Lib.hid (fun i hi => hgr _ (by rw [List.getD_eq_getElem?_getD, List.getElem?_eq_getElem hi]; exact List.getElem_mem hi))
              have HFB : Hid (el = 0 → flat R R.length = b) := Lib.hid hfb
              have HNXR : Hid (∀ i, i < R.length → flat R (i + 1) = flat R i ++ putB (R.getD i zero)) := Lib.hid (flat_next R)
              have hRl : R.length ≤ 1000 := by omega
              clear hls hgr hfb HLB
              generalize hM : R.length = M at *
              have HM := Lib.hid hM
              clear hM
              go_wp2_with fail
              refine hlg.mono ?_
              clear hlg
              rintro e W7 ⟨v7, rfl, hL7, hF7⟩
              have HF7 := Lib.hid (HF6.out.trans' hF7)
              have HL7 := Lib.hid hL7
              obtain ⟨A7, C7, rfl⟩ := hL7.form
              rw [HM.out] at HL7
              rw [HM.out]
              have HO7 : Hid (W7.ownsRow W7.heap.size 5 1 (.slice none 0 0) 0 (bvals (flat R 0))) := Lib.hid (by rw [flat_zero]; exact World.ownsRow_nil _ _ _ _)
              clear hL7 hF7 HF6 HNXT HSZ HI
              go_wp2_with fail
              go_loopg [14, 15, 16, 17] M (fun kx va vi _ _ wr => ∃ (i n : Nat) (Aa : Option Addr) (Ca : Nat), vi = .int .i64 (i : Int) ∧ va = .slice Aa n Ca ∧ i ≤ M ∧ M - i ≤ kx ∧ n ≤ 263 * i ∧ Hid (wr.ownsRow W7.heap.size 5 1 (.slice Aa n Ca) n (bvals (flat R i))) ∧ Hid (Fr0 W7 wr))
              case atStart => exact ⟨0, 0, none, 0, rfl, rfl, Nat.zero_le _, by omega, by omega, HO7, Lib.hid (Fr.refl _ _)⟩
              case round =>
                clear HO7
                obtain ⟨i, n, Aa, Ca, rfl, rfl, hi, hk, hn, HO, HFR⟩ := hrel
                by_cases hlt : i < M
                · obtain ⟨pb, po, B1, D1, rfl, hc1, hb1⟩ := reps_at HL7.out i (by have := HM.out; omega)
                  have i1 : (i : Int) < (M : Int) := by omega
                  have i2 : 0 ≤ (i : Int) := by omega
                  have HC1 := Lib.hid hc1
                  have HBQ := Lib.hid hb1
                  clear hc1 hb1
                  
                  have HSQ := Lib.hid (HGR.out i hlt)
                  have HNX := Lib.hid (HNXR.out i hlt)
                  generalize R.getD i zero = q at *
                  have hg := HSQ.out.1
                  have hput := pput_good hg B1 D1 HSQ.out.2 wr (HBQ.out.fr0 HFR.out)
                  unfold rp4 at hput
                  have hps := putB_short hg
                  obtain ⟨P, hP⟩ : ∃ P, P = (putB q).length := ⟨_, rfl⟩
                  rw [← hP] at hput hps
                  have HP := Lib.hid hP
                  clear hP
                  obtain ⟨k0, k1, k2, k3⟩ := HC1.out wr HFR.out
                  go_wp2_with fail
                  refine hput.mono ?_
                  clear hput k0 k1 k2 k3
                  rintro e W2 ⟨A2, C2, rfl, hX2, hF2⟩
                  have HF2 := Lib.hid (HFR.out.trans' hF2)
                  have HFW2 := Lib.hid hF2
                  have HX2 := Lib.hid hX2
                  have HO2 := Lib.hid (ownsFr hF2 HO.out (fun _ _ f => f))
                  clear hX2 hF2
                  go_wp2_with (refine wpList_append_bytes rfl (.tmp 100) (.tmp 101) 25 rfl W7.heap.size 5 Try.underlying25 Pack.info8 _ _ n (flat R i) (putB q) rfl rfl HO2.out HX2.out (by rw [← HP.out]; omega) HF2.out.size ?_)
                  intro v3 W3 hO3 hG3
                  rw [← HP.out, ← HNX.out] at hO3
                  have HF3 := Lib.hid (HF2.out.grown hG3 (fun k hk e => by have := (HO2.out.lt k e).1; omega))
                  obtain ⟨A3, C3, rfl, _⟩ := owns_form hO3
                  have HO3 := Lib.hid hO3
                  clear hO3 hG3
                  go_wp2
                  go_roundg (M - (i + 1))
                  case measure => omega
                  case rel => exact ⟨i + 1, n + P, A3, C3, by simp, rfl, by omega, by omega, by omega, HO3, HF3⟩
                · obtain rfl : i = M := by omega
                  have hO := HO.out
                  have HFZ := Lib.hid (HF7.out.trans' HFR.out)
                  by_cases he : el = 0
                  · rw [HFB.out he] at hO
                    have hc1 := (BytesIs.own hO).convert (P := Try.prog) 25 9 5 Try.underlying25 Try.underlying5 Try.underlying9
                    have hc2 := (HB.out.fr0 HFZ.out).convert (P := Try.prog) 25 9 5 Try.underlying25 Try.underlying5 Try.underlying9
                    have z1 : (el != 0) = false := by rw [he]; rfl
                    clear hO he
                    go_wp2
                    go_ret
                    exact ⟨rfl, HFZ.out⟩
                  · have z1 : (el != 0) = true := bne_iff_ne.2 he
                    clear hO he
                    go_wp2
                    go_ret
                    exact ⟨rfl, HFZ.out⟩
end Go.Proofs.Ytjefddliebokaaa.ReplyL
