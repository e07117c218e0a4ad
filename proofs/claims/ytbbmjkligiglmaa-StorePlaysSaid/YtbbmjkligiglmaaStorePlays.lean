/-
  StorePlays walked.
-/
import Derived.Test.YtbbmjkligiglmaaStoreTwice
import Derived.Test.YtbbmjkligiglmaaStorePush
namespace Go.Proofs.Ytbbmjkligiglmaa.StoreL
open Go.RowKit Base _root_.Go.Proofs.Ytbbmjkligiglmaa.Tenant _root_.Go.Proofs.Ytbbmjkligiglmaa.Series _root_.Go.Proofs.Ytbbmjkligiglmaa.Agg _root_.Go.Proofs.Ytbbmjkligiglmaa.Store
open _root_.Go.Proofs.Ytbbmjkligiglmaa.Ord (Grown ptr Ent)

/-- the names told, and the reference's own -/
theorem tail_facts {O : Nat → Prop} {W : World} {g2 : Nat} {most retain : Int} {es : List Ent} {ss : List SE} {v : Value} (h : RIn O W 44 56 80 g2 most retain es ss) (hs : StrsIs W v (ss.map (·.1))) : ∃ na nc RA RC, v = .slice na es.length nc ∧ W.cell? ⟨g2, 2, none⟩ = some (.slice RA es.length RC) ∧
    ∀ j, j < es.length → ∃ nb no b x, na = some ⟨nb, no, none⟩ ∧ RA = some ⟨b, 0, none⟩ ∧ ∀ W', Fr0 W W' → W'.cell? ⟨nb, no + j, none⟩ = some (.string x) ∧ W'.cell? ⟨b, j * 2, none⟩ = some (.string x) := by
  obtain ⟨na, nc, nb, no, rfl, hle, hna, hnc⟩ := hs
  obtain ⟨RA, RC, hrow, hown, hcells, _⟩ := h.parts
  have hl : (ss.map (·.1)).length = es.length := by rw [List.length_map, h.kept.length]
  rw [hl] at hnc hna
  refine ⟨na, nc, RA, RC, by rw [hl], by rw [cell_of_row _ _ _ _ _ _ hrow]; rfl, fun j hj => ?_⟩
  have he : es[j]? = some es[j] := List.getElem?_eq_getElem hj
  obtain ⟨b, hb, k0, _⟩ := hcells j _ he
  have hx : (ss.map (·.1)).getD j ⟨#[]⟩ = es[j].1 := by
    rw [← h.kept.names, List.getD_eq_getElem?_getD, List.getElem?_map, he]
    rfl
  have hc := hnc j hj
  rw [hx] at hc
  exact ⟨nb, no, b, es[j].1, hna (by omega), hb, fun W' hf => ⟨(hf.cell (World.block_lt_of_cell? W _ hc) (fun f => f)).trans hc, (hf.cell (World.block_lt_of_cell? W _ k0) (fun f => f)).trans k0⟩⟩
set_option maxRecDepth 100000 in
set_option maxHeartbeats 8000000 in
theorem storePlays_walk (most retain : Int) (v0 : Value) (L : List Ac) (hm : inI64 most) (hr : inI64 retain) (hL : ∀ q ∈ L, SizedAc q) (w : World) (hI : ActsIs w v0 L) :
    Calls Try.prog 4 #[.int .i64 most, .int .i64 retain, v0] w fun e w' => e = .returned (.bool true) ∧ Fr0 w w' := by
  obtain ⟨A, cap, rfl, hat⟩ := acts_at hI
  have HAT := Lib.hid hat
  have HSZ := Lib.hid hL
  have HBAD := Lib.hid (fun w h => pnew_bad most retain w hm hr h)
  have HOK := Lib.hid (fun w h1 h2 => pnew_ok most retain w h1 h2)
  clear hI hat hL hm hr
  have HG : Hid (∀ i, i < L.length → ∃ e, L[i]? = some e) := Lib.hid (fun i hi => ⟨_, List.getElem?_eq_getElem hi⟩)
  generalize L.length = n at *
  go_enter Try.func4, Try.ntmps4
  go_wp2_with fail
  refine (awake_any w).mono ?_
  rintro e w1 ⟨rfl, hF1⟩
  have HF1 := Lib.hid hF1
  clear hF1
  by_cases h80 : 80 < n
  · have i3 : (80 : Int) < (n : Int) := by omega
    go_wp2
    go_ret
    exact ⟨rfl, HF1.out⟩
  have i3 : ¬ (80 : Int) < (n : Int) := by omega
  by_cases hgood : (1 ≤ most ∧ most ≤ 16) ∧ (1 ≤ retain ∧ retain ≤ 64)
  · have hnew := HOK.out w1 hgood.1 hgood.2
    obtain ⟨⟨q1, q2⟩, q3, q4⟩ := hgood
    have n1 : ¬ most < 1 := by omega
    have n2 : ¬ 16 < most := by omega
    have n3 : ¬ retain < 1 := by omega
    have n4 : ¬ 64 < retain := by omega
    clear HOK HBAD q1 q2 q3 q4
    go_wp2_with fail
    refine hnew.mono ?_
    clear hnew
    rintro e w2 ⟨g, rfl, hP2, hF2⟩
    have HP3 := Lib.hid (hP2.fr ((Fr.refl (fun _ => False) w2).alloc (.cells #[.int .i64 most, .int .i64 retain, .slice none 0 0] 44)) (fun _ _ _ f => f))
    have HR3 := Lib.hid (rin_new w2 44 56 80 most retain)
    have HF3 := Lib.hid ((HF1.out.trans' hF2).alloc (.cells #[.int .i64 most, .int .i64 retain, .slice none 0 0] 44))
    have HD3 : Hid (∀ k, (w1.heap.size ≤ k ∧ k < w2.heap.size) → ¬ k = w2.heap.size) := Lib.hid (fun k h1 h2 => by omega)
    have HB3 : Hid (∀ k, (w1.heap.size ≤ k ∧ k < w2.heap.size) ∨ k = w2.heap.size → w.heap.size ≤ k ∧ k < (w2.alloc (.cells #[.int .i64 most, .int .i64 retain, .slice none 0 0] 44)).heap.size) := Lib.hid (fun k hk => by
      have h1 := HF1.out.size
      have h3 := hF2.size
      rw [World.size_alloc]
      omega)
    clear hP2 hF2 HF1
    unfold ptr
    go_wp2_with fail
    generalize hg2 : w2.heap.size = g2 at *
    clear hg2
    go_loopg [10] n (fun kx vi wr => ∃ (i : Nat) (ss : List SE) (es : List Ent) (O1 O2 : Nat → Prop), vi = .int .i64 (i : Int) ∧ i ≤ n ∧ n - i ≤ kx ∧ Hid (PAt O1 wr g most retain ss) ∧ Hid (RIn O2 wr 44 56 80 g2 most retain es ss) ∧ Hid (∀ k, O1 k → ¬ O2 k) ∧ Hid (∀ k, O1 k ∨ O2 k → w.heap.size ≤ k ∧ k < wr.heap.size) ∧ Hid (Fr0 w wr))
    case atStart => exact ⟨0, [], [], _, _, rfl, Nat.zero_le _, by omega, HP3, HR3, HD3, HB3, HF3⟩
    case round =>
      obtain ⟨i, ss, es, O1, O2, rfl, hi, hkx, HP, HR, HD, HB, HF⟩ := hrel
      clear HP3 HR3 HD3 HB3 HF3
      by_cases hlt : i < n
      · obtain ⟨q, hq⟩ := HG.out i hlt
        obtain ⟨pb, po, rfl, B, C, hcells⟩ := HAT.out i q hq
        obtain ⟨d0, d1, d2, d3, d4, -⟩ := hcells wr HF.out
        have hsz := HSZ.out q (List.mem_of_getElem? hq)
        have HCE := Lib.hid hcells
        have HZ := Lib.hid hsz
        have i1 : (i : Int) < (n : Int) := by omega
        have i2 : 0 ≤ (i : Int) := by omega
        clear hcells hsz hq
        obtain ⟨op, qn, ql, qf, qt⟩ := q
        simp only at d0 d1 d2 d3 d4 HCE HZ
        by_cases hq60 : 60 < ql.length
        · have i5 : (60 : Int) < (ql.length : Int) := by omega
          generalize ql.length = m at *
          have HX := Lib.hid (HF.out.alloc (.cells #[.int .i64 op, .string qn, .slice B m C, .int .i64 qf, .int .i64 qt] 46))
          go_wp2
          go_ret
          exact ⟨rfl, HX.out⟩
        have i5 : ¬ (60 : Int) < (ql.length : Int) := by omega
        by_cases hq100 : 100 < qn.size
        · have i6 : (100 : Int) < (qn.size : Int) := by omega
          generalize ql.length = m at *
          have HX := Lib.hid (HF.out.alloc (.cells #[.int .i64 op, .string qn, .slice B m C, .int .i64 qf, .int .i64 qt] 46))
          go_wp2
          go_ret
          exact ⟨rfl, HX.out⟩
        have i6 : ¬ (100 : Int) < (qn.size : Int) := by omega
        generalize hml : ql.length = m at *
        have HM := Lib.hid hml
        clear hml
        have HXA := Lib.hid (HF.out.alloc (.cells #[.int .i64 op, .string qn, .slice B m C, .int .i64 qf, .int .i64 qt] 46))
        have HPA := Lib.hid (HP.out.fr ((Fr.refl (fun _ => False) wr).alloc (.cells #[.int .i64 op, .string qn, .slice B m C, .int .i64 qf, .int .i64 qt] 46)) (fun _ _ _ f => f))
        have HRA := Lib.hid (HR.out.fr0 ((Fr.refl (fun _ => False) wr).alloc (.cells #[.int .i64 op, .string qn, .slice B m C, .int .i64 qf, .int .i64 qt] 46)))
        have HNA := Lib.hid (heap_alloc_new wr (.cells #[.int .i64 op, .string qn, .slice B m C, .int .i64 qf, .int .i64 qt] 46))
        have HSW : Hid (wr.heap.size < (wr.alloc (.cells #[.int .i64 op, .string qn, .slice B m C, .int .i64 qf, .int .i64 qt] 46)).heap.size) := Lib.hid (by rw [World.size_alloc]; omega)
        have HOKS := Lib.hid HP.out.ok
        by_cases hop : op = 1
        · subst hop
          have HQ1 := Lib.hid (fun w h => pquery_any O1 g most retain ss qn qf qt w h HZ.out.f HZ.out.t)
          have HQ2 := Lib.hid (fun w h hk => rquery_any 0 g2 most retain es ss qn qf qt w HOKS.out h hk)
          generalize hqo : queryOut qn qf qt ss = qo at *
          generalize hqe : queryErr qn ss = qe at *
          clear hqo hqe
          rw [show a6 qo = #[.int .i64 qo.c, .int .i64 qo.s, .int .i64 qo.n, .int .i64 qo.x, .int .i64 qo.l, .bool qo.o] from rfl] at HQ1 HQ2
          have hq := HQ1.out _ HPA.out
          unfold ptr at *
          go_wp2_with fail
          refine hq.mono ?_
          clear hq
          rintro e w5 ⟨rfl, hF5⟩
          have hf6 := (hF5.alloc (.cells #[.int .i64 qo.c, .int .i64 qo.s, .int .i64 qo.n, .int .i64 qo.x, .int .i64 qo.l, .bool qo.o] 33))
          have HP6 := Lib.hid (HPA.out.fr hf6 (fun _ _ _ f => f))
          have HR6 := Lib.hid (HRA.out.fr0 hf6)
          have HF6 := Lib.hid (HXA.out.trans' hf6)
          have hn6 := hf6.heap HNA.out (fun f => f)
          have HN6 := Lib.hid hn6
          have HBX := Lib.hid (Bx.new 33 w5 qo)
          have hs6 := Nat.lt_of_lt_of_le HSW.out hf6.size
          have HS6 := Lib.hid hs6
          have hq := HQ2.out _ HR6.out.at HR6.out.kept
          generalize hab : wr.heap.size = ab at *
          have HAB := Lib.hid hab
          clear hab hF5 hf6 HPA HRA HXA HNA HSW hs6
          have b1 : (w5.alloc (.cells #[.int .i64 qo.c, .int .i64 qo.s, .int .i64 qo.n, .int .i64 qo.x, .int .i64 qo.l, .bool qo.o] 33)).cell? ⟨ab, 1, none⟩ = some (.string qn) := by rw [cell_of_row _ _ _ _ _ _ hn6]; rfl
          have b3 : (w5.alloc (.cells #[.int .i64 qo.c, .int .i64 qo.s, .int .i64 qo.n, .int .i64 qo.x, .int .i64 qo.l, .bool qo.o] 33)).cell? ⟨ab, 3, none⟩ = some (.int .i64 qf) := by rw [cell_of_row _ _ _ _ _ _ hn6]; rfl
          have b4 : (w5.alloc (.cells #[.int .i64 qo.c, .int .i64 qo.s, .int .i64 qo.n, .int .i64 qo.x, .int .i64 qo.l, .bool qo.o] 33)).cell? ⟨ab, 4, none⟩ = some (.int .i64 qt) := by rw [cell_of_row _ _ _ _ _ _ hn6]; rfl
          clear hn6
          go_wp2_with fail
          generalize hgx : w5.heap.size = gx at *
          clear hgx
          refine hq.mono ?_
          clear hq
          rintro e w6 ⟨rfl, hF6⟩
          have hf7 := (hF6.alloc (.cells #[.int .i64 qo.c, .int .i64 qo.s, .int .i64 qo.n, .int .i64 qo.x, .int .i64 qo.l, .bool qo.o] 47))
          have HP7 := Lib.hid (HP6.out.fr hf7 (fun _ _ _ f => f))
          have HR7 := Lib.hid (HR6.out.fr0 hf7)
          have HF7 := Lib.hid (HF6.out.trans' hf7)
          have HN7 := Lib.hid (hf7.heap HN6.out (fun f => f))
          have HS7 := Lib.hid (Nat.lt_of_lt_of_le HS6.out hf7.size)
          obtain ⟨x0, x1, x2, x3, x4, x5⟩ := (HBX.out.fr0 hf7).cells
          have hbo : (qo.o == qo.o) = true := beq_self_eq_true _
          clear hF6 hf7 HP6 HR6 HF6 HN6 HS6 HBX b1 b3 b4
          have HD7 : Hid (∀ k, O1 k → ¬ O2 k) := HD
          have HB7 : Hid (∀ k, O1 k ∨ O2 k → w.heap.size ≤ k ∧ k < ab) := Lib.hid (fun k hk => by have := HB.out k hk; have := HAB.out; omega)
          have HB8 : Hid (∀ k, O1 k ∨ O2 k → w.heap.size ≤ k ∧ k < (w6.alloc (.cells #[.int .i64 qo.c, .int .i64 qo.s, .int .i64 qo.n, .int .i64 qo.x, .int .i64 qo.l, .bool qo.o] 47)).heap.size) := Lib.hid (fun k hk => by have h1 := HB7.out k hk; have h2 := HS7.out; omega)
          have b1 : (w6.alloc (.cells #[.int .i64 qo.c, .int .i64 qo.s, .int .i64 qo.n, .int .i64 qo.x, .int .i64 qo.l, .bool qo.o] 47)).cell? ⟨ab, 1, none⟩ = some (.string qn) := by rw [cell_of_row _ _ _ _ _ _ HN7.out]; rfl
          clear HN7 HS7 HB7 HB HAB HD HZ HCE HM HOKS HQ1 HQ2
          have hnm := pnames_any _ g most retain _ _ HP7.out
          unfold ptr at *
          go_wp2_with fail
          refine hnm.mono ?_
          clear hnm
          rintro e wn ⟨vn, rfl, hstr, hFn⟩
          obtain ⟨na, nc, RA, RC, rfl, hc2, hall⟩ := tail_facts (HR7.out.fr0 hFn) hstr
          have HPN := Lib.hid (HP7.out.fr hFn (fun _ _ _ f => f))
          have HRN := Lib.hid (HR7.out.fr0 hFn)
          have HFN := Lib.hid (HF7.out.trans' hFn)
          have HSN := Lib.hid hFn.size
          have b1n := (hFn.cell (World.block_lt_of_cell? _ _ b1) (fun f => f)).trans b1
          obtain ⟨N, hN⟩ : ∃ N, es.length = N := ⟨_, rfl⟩
          rw [hN] at hc2 hall ⊢
          have HALL := Lib.hid hall
          have HOK7 := Lib.hid HP7.out.ok
          have HLEN := Lib.hid (fun w h => plen_any O1 g most retain ss w h)
          have HRLEN := Lib.hid (fun w h hk => rlen_any 0 g2 most retain es ss w HOK7.out h hk)
          have HSAM := Lib.hid (fun w h => psamples_any O1 g most retain ss qn w h)
          have HRSAM := Lib.hid (fun w h hk => rsamples_any 0 g2 most retain es ss qn w HOK7.out h hk)
          have HRWS := Lib.hid (fun v w h => rows_any v (wasS qn ss) (by have h1 := (HOK7.out.was qn).1; have h2 := HOK7.out.hr; omega) w h)
          have HSME := Lib.hid (fun A B C D w h1 h2 => same_any A B C D (wasS qn ss) (by have h1 := (HOK7.out.was qn).1; have h2 := HOK7.out.hr; omega) w h1 h2)
          have hN16 : N ≤ 16 := by rw [← hN, HR7.out.kept.length]; have h1 := HOK7.out.le; have h2 := HOK7.out.hm; omega
          generalize lenS ss = ln at *
          generalize wasS qn ss = was at *
          have hln : ((ln : Int) == (ln : Int)) = true := beq_self_eq_true _
          have hnn : ((N : Int) == (N : Int)) = true := beq_self_eq_true _
          clear hstr hall hFn HP7 HR7 HF7 hN HOK7 b1
          unfold ptr at *
          go_wp2
          refine Mix.law (fun W => W.cell? ⟨g2, 2, none⟩ = some (.slice RA N RC) ∧ W.cell? ⟨ab, 1, none⟩ = some (.string qn)) [(.sure, 0), (.sure, 2), (.turn, 1), (.turn, 3), (.sure, 4), (.sure, 5), (.sure, 6), (.sure, 7), (.sure, 8), (.sure, 9), (.sure, 10), (.sure, 11), (.sure, 12), (.sure, 13), (.sure, 14), (.sure, 15), (.sure, 16), (.sure, 17), (.sure, 18), (.sure, 21), (.sure, 22), (.sure, 23), (.turn, 19), (.turn, 20), (.turn, 24), (.turn, 25), (.sure, 26), (.sure, 27)] (by kernel_rfl) (by kernel_rfl) ⟨hc2, b1n⟩ ?_
          simp only [List.map_cons, List.map_nil, Mix.nth_zero, Mix.nth_succ]
          have HC2 := Lib.hid hc2
          have HB1 := Lib.hid b1n
          have HT : Hid (∀ W', Fr0 wn W' → W'.cell? ⟨g2, 2, none⟩ = some (.slice RA N RC) ∧ W'.cell? ⟨ab, 1, none⟩ = some (.string qn)) := Lib.hid (fun W' hf => ⟨(hf.cell (World.block_lt_of_cell? _ _ HC2.out) (fun f => f)).trans HC2.out, (hf.cell (World.block_lt_of_cell? _ _ HB1.out) (fun f => f)).trans HB1.out⟩)
          clear hc2 b1n
          repeat (first
            | ((with_reducible refine Mix.go_skipS ?_ ?_); (focus (first | exact Mix.wanted_no rfl rfl rfl rfl | exact Mix.wanted_void rfl rfl rfl)); go_frame)
            | ((with_reducible refine Mix.go_skipL ?_ ?_); (focus (first | exact Mix.wanted_no rfl rfl rfl rfl | exact Mix.wanted_void rfl rfl rfl)); go_frame)
            | (refine Mix.go_move (by first | exact Mix.wanted_none rfl | exact Mix.wanted_yes rfl rfl rfl) _ rfl _ (by first | (go_simp; done) | (go_simp; rfl)) ?_; go_frame)
            | (refine Mix.go_assign (by first | exact Mix.wanted_none rfl | exact Mix.wanted_yes rfl rfl rfl) _ rfl _ (by first | (go_simp; done) | (go_simp; rfl)) ?_; go_frame)
            | (refine Mix.go_sureW (by first | exact Mix.wanted_none rfl | exact Mix.wanted_yes rfl rfl rfl) _ (by rfl) (by rfl) _ (fun w' hC' => by go_wp2_with fail; refine Mix.stays ?_; go_frame; rfl) ?_; go_frame)
            | (refine Mix.go_lookW (by first | exact Mix.wanted_none rfl | exact Mix.wanted_yes rfl rfl rfl) _ (by rfl) (by rfl) _ (by go_wp2_with fail; refine Mix.stays ?_; go_frame; rfl) ?_; go_frame))
          refine Mix.go_turn ?_
          go_wp2_with fail
          refine (HLEN.out _ (HPN.out.fr (Fr.refl (fun _ => False) wn).drew (fun _ _ _ f => f))).mono ?_
          rintro e wa1 ⟨rfl, hFa⟩
          have HFA : Hid (Fr0 wn wa1) := Lib.hid ((Fr.refl _ _).drew.trans' hFa)
          clear hFa
          go_wp2
          refine Mix.then_go (HT.out _ HFA.out) ?_
          refine Mix.go_turn ?_
          go_wp2_with fail
          refine (HRLEN.out _ (HRN.out.fr0 HFA.out).at (HRN.out.fr0 HFA.out).kept).mono ?_
          rintro e wb ⟨rfl, rfl⟩
          go_wp2
          refine Mix.then_go (HT.out _ HFA.out) ?_
          repeat (first
            | ((with_reducible refine Mix.go_skipS ?_ ?_); (focus (first | exact Mix.wanted_no rfl rfl rfl rfl | exact Mix.wanted_void rfl rfl rfl)); go_frame)
            | ((with_reducible refine Mix.go_skipL ?_ ?_); (focus (first | exact Mix.wanted_no rfl rfl rfl rfl | exact Mix.wanted_void rfl rfl rfl)); go_frame)
            | (refine Mix.go_move (by first | exact Mix.wanted_none rfl | exact Mix.wanted_yes rfl rfl rfl) _ rfl _ (by first | (go_simp; done) | (go_simp; rfl)) ?_; go_frame)
            | (refine Mix.go_assign (by first | exact Mix.wanted_none rfl | exact Mix.wanted_yes rfl rfl rfl) _ rfl _ (by first | (go_simp; done) | (go_simp; rfl)) ?_; go_frame)
            | (refine Mix.go_sureW (by first | exact Mix.wanted_none rfl | exact Mix.wanted_yes rfl rfl rfl) _ (by rfl) (by rfl) _ (fun w' hC' => by go_wp2_with fail; refine Mix.stays ?_; go_frame; rfl) ?_; go_frame)
            | (refine Mix.go_lookW (by first | exact Mix.wanted_none rfl | exact Mix.wanted_yes rfl rfl rfl) _ (by rfl) (by rfl) _ (by go_wp2_with fail; refine Mix.stays ?_; go_frame; rfl) ?_; go_frame))
          refine Mix.go_turn ?_
          go_wp2_with fail
          refine (HSAM.out _ (HPN.out.fr HFA.out (fun _ _ _ f => f))).mono ?_
          rintro e wc ⟨vc, rfl, hpc, hFc⟩
          have HPC := Lib.hid hpc
          have HFC := Lib.hid (HFA.out.trans' hFc)
          clear hpc hFc
          go_wp2
          refine Mix.then_go (HT.out _ HFC.out) ?_
          refine Mix.go_turn ?_
          go_wp2_with fail
          refine (HRWS.out _ _ HPC.out).mono ?_
          rintro e wd ⟨Ad, Cd, rfl, hpd, hFd⟩
          have HPD := Lib.hid hpd
          have HFD := Lib.hid (HFC.out.trans' hFd)
          clear hpd hFd
          go_wp2
          refine Mix.then_go (HT.out _ HFD.out) ?_
          refine Mix.go_turn ?_
          go_wp2_with fail
          refine (HRSAM.out _ (HRN.out.fr0 HFD.out).at (HRN.out.fr0 HFD.out).kept).mono ?_
          rintro e we ⟨Ae, Ce, rfl, hpe, rfl⟩
          have HPE := Lib.hid hpe.is
          clear hpe
          go_wp2
          refine Mix.then_go (HT.out _ HFD.out) ?_
          refine Mix.go_turn ?_
          go_wp2_with fail
          refine (HSME.out _ _ _ _ _ HPD.out HPE.out).mono ?_
          rintro e wf ⟨rfl, hFf⟩
          have HFF := Lib.hid (HFD.out.trans' hFf)
          clear hFf HPC HFC HPD HPE HFD HFA
          go_wp2
          refine Mix.then_go (HT.out _ HFF.out) ?_
          repeat (first
            | ((with_reducible refine Mix.go_skipS ?_ ?_); (focus (first | exact Mix.wanted_no rfl rfl rfl rfl | exact Mix.wanted_void rfl rfl rfl)); go_frame)
            | ((with_reducible refine Mix.go_skipL ?_ ?_); (focus (first | exact Mix.wanted_no rfl rfl rfl rfl | exact Mix.wanted_void rfl rfl rfl)); go_frame)
            | (refine Mix.go_move (by first | exact Mix.wanted_none rfl | exact Mix.wanted_yes rfl rfl rfl) _ rfl _ (by first | (go_simp; done) | (go_simp; rfl)) ?_; go_frame)
            | (refine Mix.go_assign (by first | exact Mix.wanted_none rfl | exact Mix.wanted_yes rfl rfl rfl) _ rfl _ (by first | (go_simp; done) | (go_simp; rfl)) ?_; go_frame)
            | (refine Mix.go_sureW (by first | exact Mix.wanted_none rfl | exact Mix.wanted_yes rfl rfl rfl) _ (by rfl) (by rfl) _ (fun w' hC' => by go_wp2_with fail; refine Mix.stays ?_; go_frame; rfl) ?_; go_frame)
            | (refine Mix.go_lookW (by first | exact Mix.wanted_none rfl | exact Mix.wanted_yes rfl rfl rfl) _ (by rfl) (by rfl) _ (by go_wp2_with fail; refine Mix.stays ?_; go_frame; rfl) ?_; go_frame))
          refine Mix.go_end ?_
          clear HSME HRSAM HSAM HRWS HLEN HRLEN
          go_wp2
          go_loopg [17] N (fun ky vj wx => ∃ j : Nat, vj = .int .i64 (j : Int) ∧ j ≤ N ∧ N - j ≤ ky ∧ Hid (Fr0 wn wx))
          case atStart => exact ⟨0, rfl, Nat.zero_le _, by omega, HFF⟩
          case round =>
            obtain ⟨j, rfl, hj, hky, HFX⟩ := hrel
            by_cases hjn : j < N
            · obtain ⟨nb, no, b, x, rfl, rfl, hxx⟩ := HALL.out j hjn
              obtain ⟨x1, x2⟩ := hxx _ HFX.out
              obtain ⟨t1, -⟩ := HT.out _ HFX.out
              have j1 : (j : Int) < (N : Int) := by omega
              have j2 : 0 ≤ (j : Int) := by omega
              have hxx2 : (x.toList == x.toList) = true := beq_self_eq_true _
              clear hxx
              go_wp2
              go_quiet (fail)
              have HFY := Lib.hid (HFX.out.trans' ((Fr.refl (fun _ => False) _).drewN nq))
              clear x1 x2 t1 hxx2
              go_wp2
              go_roundg (N - (j + 1))
              case measure => omega
              case rel => exact ⟨j + 1, by simp, by omega, by omega, HFY⟩
            · obtain rfl : j = N := by omega
              have j1 : ¬ (j : Int) < (j : Int) := by omega
              go_wp2
              go_roundg (n - (i + 1))
              case measure => omega
              case rel => exact ⟨i + 1, _, _, _, _, by simp, by omega, by omega, Lib.hid (HPN.out.fr HFX.out (fun _ _ _ f => f)), Lib.hid (HRN.out.fr0 HFX.out), HD7, Lib.hid (fun k hk => by have h1 := HB8.out k hk; have h2 := HFX.out.size; have h3 := HSN.out; omega), Lib.hid (HFN.out.trans' HFX.out)⟩
        · have hopb : (op == (1 : Int)) = false := by simpa using hop
          have HPU := Lib.hid (fun w' (hw : Fr0 w w') h => ppush_any O1 g most retain ss qn ql (.slice B m C) w' h HZ.out.nm (by have := HM.out; omega) HZ.out.l (HCE.out w' hw).2.2.2.2.2)
          have HRU := Lib.hid (fun w' u h hu => rpush_any O2 g2 most retain es ss qn ql u w' HOKS.out (by have := HM.out; omega) h hu)
          have HRW := Lib.hid (fun w' (hw : Fr0 w w') => rows_any (.slice B m C) ql (by have := HM.out; omega) w' (HCE.out w' hw).2.2.2.2.2)
          have HOK7 : Hid (OkS most retain (pushSt most retain qn ql ss)) := Lib.hid (HOKS.out.push qn ql HZ.out.l)
          unfold RPushPost at HRU
          generalize pushSt most retain qn ql ss = ss2 at *
          generalize pushErr most retain qn ql ss = er at *
          generalize hab : wr.heap.size = ab at *
          have HAB := Lib.hid hab
          clear hab hop
          generalize hWA : wr.alloc (.cells #[.int .i64 op, .string qn, .slice B m C, .int .i64 qf, .int .i64 qt] 46) = wa at *
          have HWA := Lib.hid hWA
          have a1 : wa.cell? ⟨ab, 1, none⟩ = some (.string qn) := by rw [cell_of_row _ _ _ _ _ _ HNA.out]; rfl
          have a2 : wa.cell? ⟨ab, 2, none⟩ = some (.slice B m C) := by rw [cell_of_row _ _ _ _ _ _ HNA.out]; rfl
          have HA1 := Lib.hid a1
          have HA2 := Lib.hid a2
          have hne : (er == er) = true := beq_self_eq_true _
          clear hWA
          unfold ptr at *
          go_wp2
          rw [HAB.out, HWA.out]
          refine Mix.law (fun W => W.cell? ⟨ab, 1, none⟩ = some (.string qn) ∧ W.cell? ⟨ab, 2, none⟩ = some (.slice B m C)) [(.sure, 0), (.sure, 1), (.sure, 2), (.sure, 3), (.sure, 4), (.sure, 6), (.sure, 7), (.sure, 8), (.sure, 9), (.sure, 10), (.turn, 5), (.turn, 11), (.turn, 12), (.sure, 13)] (by kernel_rfl) (by kernel_rfl) ⟨a1, a2⟩ ?_
          simp only [List.map_cons, List.map_nil, Mix.nth_zero, Mix.nth_succ]
          repeat (first
            | ((with_reducible refine Mix.go_skipS ?_ ?_); (focus (first | exact Mix.wanted_no rfl rfl rfl rfl | exact Mix.wanted_void rfl rfl rfl)); go_frame)
            | ((with_reducible refine Mix.go_skipL ?_ ?_); (focus (first | exact Mix.wanted_no rfl rfl rfl rfl | exact Mix.wanted_void rfl rfl rfl)); go_frame)
            | (refine Mix.go_move (by first | exact Mix.wanted_none rfl | exact Mix.wanted_yes rfl rfl rfl) _ rfl _ (by first | (go_simp; done) | (go_simp; rfl)) ?_; go_frame)
            | (refine Mix.go_assign (by first | exact Mix.wanted_none rfl | exact Mix.wanted_yes rfl rfl rfl) _ rfl _ (by first | (go_simp; done) | (go_simp; rfl)) ?_; go_frame)
            | (refine Mix.go_sureW (by first | exact Mix.wanted_none rfl | exact Mix.wanted_yes rfl rfl rfl) _ (by rfl) (by rfl) _ (fun w' hC' => by go_wp2_with fail; refine Mix.stays ?_; go_frame; rfl) ?_; go_frame)
            | (refine Mix.go_lookW (by first | exact Mix.wanted_none rfl | exact Mix.wanted_yes rfl rfl rfl) _ (by rfl) (by rfl) _ (by go_wp2_with fail; refine Mix.stays ?_; go_frame; rfl) ?_; go_frame))
          refine Mix.go_turn ?_
          go_wp2_with fail
          refine (HPU.out _ (HXA.out.trans' (Fr.refl (fun _ => False) wa).drew) (HPA.out.fr (Fr.refl (fun _ => False) wa).drew (fun _ _ _ f => f))).mono ?_
          rintro e w4 ⟨rfl, hF4, hP4⟩
          have hF4' : Fr O1 wa w4 := Fr.trans (Fr.zero ((Fr.refl (fun _ => False) wa).drew)) hF4 (fun _ _ h => h)
          have hlo : ∀ k, O1 k ∨ O2 k → k < ab := fun k hk => by have h1 := HB.out k hk; have h2 := HAB.out; omega
          have HLO := Lib.hid hlo
          have HF4 : Hid (Fr0 w w4) := Lib.hid (grown_of (fun k hk => (HB.out k (.inl hk)).1) HXA.out hF4')
          have k1 := (hF4'.cell (p := ⟨ab, 1, none⟩) (World.block_lt_of_cell? _ _ HA1.out) (fun h => by have := hlo ab (.inl h); omega)).trans HA1.out
          have k2 := (hF4'.cell (p := ⟨ab, 2, none⟩) (World.block_lt_of_cell? _ _ HA2.out) (fun h => by have := hlo ab (.inl h); omega)).trans HA2.out
          have HK1 := Lib.hid k1
          have HK2 := Lib.hid k2
          have HR4 := Lib.hid (HRA.out.fr hF4' (fun k _ h2 h1 => HD.out k h1 h2))
          have hsa : ab < wa.heap.size := HSW.out
          have HD4 : Hid (∀ k, Grown O1 wa.drew w4 k → ¬ O2 k) := Lib.hid (fun k h1 h2 => by
            rcases h1 with h1 | ⟨h1, _⟩
            · exact HD.out k h1 h2
            · have h3 := hlo k (.inr h2)
              have h4 : wa.heap.size ≤ k := h1
              omega)
          have HB4 : Hid (∀ k, Grown O1 wa.drew w4 k → w.heap.size ≤ k ∧ k < w4.heap.size) := Lib.hid (fun k hk => by
            have h5 := hF4'.size
            have h6 := HXA.out.size
            rcases hk with hk | ⟨h1, h2⟩
            · have := HB.out k (.inl hk); have := hlo k (.inl hk); omega
            · have h7 : wa.heap.size ≤ k := h1
              omega)
          have HS4 := Lib.hid hF4'.size
          have HP4 := Lib.hid hP4
          generalize Grown O1 wa.drew w4 = P1 at *
          clear hF4 hF4' hP4 hlo hsa a1 a2
          go_wp2
          refine Mix.then_go ⟨k1, k2⟩ ?_
          refine Mix.go_turn ?_
          go_wp2_with fail
          refine (HRW.out _ HF4.out).mono ?_
          rintro e w5 ⟨A5, C5, rfl, hp5, hF5⟩
          have HPR5 := Lib.hid hp5
          have HF5 := Lib.hid (HF4.out.trans' hF5)
          have HP5 := Lib.hid (HP4.out.fr hF5 (fun _ _ _ f => f))
          have HR5 := Lib.hid (HR4.out.fr0 hF5)
          have HS5 := Lib.hid hF5.size
          have k1 := (hF5.cell (World.block_lt_of_cell? _ _ HK1.out) (fun f => f)).trans HK1.out
          have k2 := (hF5.cell (World.block_lt_of_cell? _ _ HK2.out) (fun f => f)).trans HK2.out
          have HJ1 := Lib.hid k1
          have HJ2 := Lib.hid k2
          clear hp5 hF5 HP4 HR4 HK1 HK2
          go_wp2
          refine Mix.then_go ⟨k1, k2⟩ ?_
          refine Mix.go_turn ?_
          go_wp2_with fail
          refine (HRU.out _ _ HR5.out HPR5.out).mono ?_
          rintro e w6 ⟨rfl, hF6, es2, hR6⟩
          have HF7 : Hid (Fr0 w w6) := Lib.hid (grown_of (fun k hk => (HB.out k (.inr hk)).1) HF5.out hF6)
          have k1 := (hF6.cell (p := ⟨ab, 1, none⟩) (World.block_lt_of_cell? _ _ HJ1.out) (fun h => by have := HLO.out ab (.inr h); omega)).trans HJ1.out
          have k2 := (hF6.cell (p := ⟨ab, 2, none⟩) (World.block_lt_of_cell? _ _ HJ2.out) (fun h => by have := HLO.out ab (.inr h); omega)).trans HJ2.out
          have HP7 := Lib.hid (HP5.out.fr hF6 (fun k _ h1 h2 => HD4.out k h1 h2))
          have HR7 := Lib.hid hR6
          have HD7 : Hid (∀ k, P1 k → ¬ Grown O2 w5 w6 k) := Lib.hid (fun k h1 h2 => by
            rcases h2 with h2 | ⟨h2, _⟩
            · exact HD4.out k h1 h2
            · have h3 := (HB4.out k h1).2
              have h4 := HS5.out
              omega)
          have HB8 : Hid (∀ k, P1 k ∨ Grown O2 w5 w6 k → w.heap.size ≤ k ∧ k < w6.heap.size) := Lib.hid (fun k hk => by
            have h5 := hF6.size
            have h6 := HF5.out.size
            have h7 := HS5.out
            rcases hk with hk | (hk | ⟨h1, h2⟩)
            · have := HB4.out k hk; omega
            · have h8 := HB.out k (.inr hk); have h9 := HLO.out k (.inr hk); have h10 := HSW.out; have h11 := HS4.out; omega
            · omega)
          generalize Grown O2 w5 w6 = P2 at *
          have b1 := k1
          clear hF6 hR6 HP5 HR5 HJ1 HJ2 HPR5 HF5 HF4 HD4 HB4 HD HB HLO HAB HWA HNA HXA HPA HRA HSW HS4 HS5 HZ HCE HM HOKS HPU HRU HRW HA1 HA2
          go_wp2
          refine Mix.then_go ⟨k1, k2⟩ ?_
          repeat (first
            | ((with_reducible refine Mix.go_skipS ?_ ?_); (focus (first | exact Mix.wanted_no rfl rfl rfl rfl | exact Mix.wanted_void rfl rfl rfl)); go_frame)
            | ((with_reducible refine Mix.go_skipL ?_ ?_); (focus (first | exact Mix.wanted_no rfl rfl rfl rfl | exact Mix.wanted_void rfl rfl rfl)); go_frame)
            | (refine Mix.go_move (by first | exact Mix.wanted_none rfl | exact Mix.wanted_yes rfl rfl rfl) _ rfl _ (by first | (go_simp; done) | (go_simp; rfl)) ?_; go_frame)
            | (refine Mix.go_assign (by first | exact Mix.wanted_none rfl | exact Mix.wanted_yes rfl rfl rfl) _ rfl _ (by first | (go_simp; done) | (go_simp; rfl)) ?_; go_frame)
            | (refine Mix.go_sureW (by first | exact Mix.wanted_none rfl | exact Mix.wanted_yes rfl rfl rfl) _ (by rfl) (by rfl) _ (fun w' hC' => by go_wp2_with fail; refine Mix.stays ?_; go_frame; rfl) ?_; go_frame)
            | (refine Mix.go_lookW (by first | exact Mix.wanted_none rfl | exact Mix.wanted_yes rfl rfl rfl) _ (by rfl) (by rfl) _ (by go_wp2_with fail; refine Mix.stays ?_; go_frame; rfl) ?_; go_frame))
          refine Mix.go_end ?_
          clear k1 k2
          have hnm := pnames_any _ g most retain _ _ HP7.out
          unfold ptr at *
          go_wp2_with fail
          refine hnm.mono ?_
          clear hnm
          rintro e wn ⟨vn, rfl, hstr, hFn⟩
          obtain ⟨na, nc, RA, RC, rfl, hc2, hall⟩ := tail_facts (HR7.out.fr0 hFn) hstr
          have HPN := Lib.hid (HP7.out.fr hFn (fun _ _ _ f => f))
          have HRN := Lib.hid (HR7.out.fr0 hFn)
          have HFN := Lib.hid (HF7.out.trans' hFn)
          have HSN := Lib.hid hFn.size
          have b1n := (hFn.cell (World.block_lt_of_cell? _ _ b1) (fun f => f)).trans b1
          obtain ⟨N, hN⟩ : ∃ N, es2.length = N := ⟨_, rfl⟩
          rw [hN] at hc2 hall ⊢
          have HALL := Lib.hid hall
          have HLEN := Lib.hid (fun w h => plen_any P1 g most retain ss2 w h)
          have HRLEN := Lib.hid (fun w h hk => rlen_any 0 g2 most retain es2 ss2 w HOK7.out h hk)
          have HSAM := Lib.hid (fun w h => psamples_any P1 g most retain ss2 qn w h)
          have HRSAM := Lib.hid (fun w h hk => rsamples_any 0 g2 most retain es2 ss2 qn w HOK7.out h hk)
          have HRWS := Lib.hid (fun v w h => rows_any v (wasS qn ss2) (by have h1 := (HOK7.out.was qn).1; have h2 := HOK7.out.hr; omega) w h)
          have HSME := Lib.hid (fun A B C D w h1 h2 => same_any A B C D (wasS qn ss2) (by have h1 := (HOK7.out.was qn).1; have h2 := HOK7.out.hr; omega) w h1 h2)
          have hN16 : N ≤ 16 := by rw [← hN, HR7.out.kept.length]; have h1 := HOK7.out.le; have h2 := HOK7.out.hm; omega
          generalize lenS ss2 = ln at *
          generalize wasS qn ss2 = was at *
          have hln : ((ln : Int) == (ln : Int)) = true := beq_self_eq_true _
          have hnn : ((N : Int) == (N : Int)) = true := beq_self_eq_true _
          clear hstr hall hFn HP7 HR7 HF7 hN HOK7 b1
          unfold ptr at *
          go_wp2
          refine Mix.law (fun W => W.cell? ⟨g2, 2, none⟩ = some (.slice RA N RC) ∧ W.cell? ⟨ab, 1, none⟩ = some (.string qn)) [(.sure, 0), (.sure, 2), (.turn, 1), (.turn, 3), (.sure, 4), (.sure, 5), (.sure, 6), (.sure, 7), (.sure, 8), (.sure, 9), (.sure, 10), (.sure, 11), (.sure, 12), (.sure, 13), (.sure, 14), (.sure, 15), (.sure, 16), (.sure, 17), (.sure, 18), (.sure, 21), (.sure, 22), (.sure, 23), (.turn, 19), (.turn, 20), (.turn, 24), (.turn, 25), (.sure, 26), (.sure, 27)] (by kernel_rfl) (by kernel_rfl) ⟨hc2, b1n⟩ ?_
          simp only [List.map_cons, List.map_nil, Mix.nth_zero, Mix.nth_succ]
          have HC2 := Lib.hid hc2
          have HB1 := Lib.hid b1n
          have HT : Hid (∀ W', Fr0 wn W' → W'.cell? ⟨g2, 2, none⟩ = some (.slice RA N RC) ∧ W'.cell? ⟨ab, 1, none⟩ = some (.string qn)) := Lib.hid (fun W' hf => ⟨(hf.cell (World.block_lt_of_cell? _ _ HC2.out) (fun f => f)).trans HC2.out, (hf.cell (World.block_lt_of_cell? _ _ HB1.out) (fun f => f)).trans HB1.out⟩)
          clear hc2 b1n
          repeat (first
            | ((with_reducible refine Mix.go_skipS ?_ ?_); (focus (first | exact Mix.wanted_no rfl rfl rfl rfl | exact Mix.wanted_void rfl rfl rfl)); go_frame)
            | ((with_reducible refine Mix.go_skipL ?_ ?_); (focus (first | exact Mix.wanted_no rfl rfl rfl rfl | exact Mix.wanted_void rfl rfl rfl)); go_frame)
            | (refine Mix.go_move (by first | exact Mix.wanted_none rfl | exact Mix.wanted_yes rfl rfl rfl) _ rfl _ (by first | (go_simp; done) | (go_simp; rfl)) ?_; go_frame)
            | (refine Mix.go_assign (by first | exact Mix.wanted_none rfl | exact Mix.wanted_yes rfl rfl rfl) _ rfl _ (by first | (go_simp; done) | (go_simp; rfl)) ?_; go_frame)
            | (refine Mix.go_sureW (by first | exact Mix.wanted_none rfl | exact Mix.wanted_yes rfl rfl rfl) _ (by rfl) (by rfl) _ (fun w' hC' => by go_wp2_with fail; refine Mix.stays ?_; go_frame; rfl) ?_; go_frame)
            | (refine Mix.go_lookW (by first | exact Mix.wanted_none rfl | exact Mix.wanted_yes rfl rfl rfl) _ (by rfl) (by rfl) _ (by go_wp2_with fail; refine Mix.stays ?_; go_frame; rfl) ?_; go_frame))
          refine Mix.go_turn ?_
          go_wp2_with fail
          refine (HLEN.out _ (HPN.out.fr (Fr.refl (fun _ => False) wn).drew (fun _ _ _ f => f))).mono ?_
          rintro e wa1 ⟨rfl, hFa⟩
          have HFA : Hid (Fr0 wn wa1) := Lib.hid ((Fr.refl _ _).drew.trans' hFa)
          clear hFa
          go_wp2
          refine Mix.then_go (HT.out _ HFA.out) ?_
          refine Mix.go_turn ?_
          go_wp2_with fail
          refine (HRLEN.out _ (HRN.out.fr0 HFA.out).at (HRN.out.fr0 HFA.out).kept).mono ?_
          rintro e wb ⟨rfl, rfl⟩
          go_wp2
          refine Mix.then_go (HT.out _ HFA.out) ?_
          repeat (first
            | ((with_reducible refine Mix.go_skipS ?_ ?_); (focus (first | exact Mix.wanted_no rfl rfl rfl rfl | exact Mix.wanted_void rfl rfl rfl)); go_frame)
            | ((with_reducible refine Mix.go_skipL ?_ ?_); (focus (first | exact Mix.wanted_no rfl rfl rfl rfl | exact Mix.wanted_void rfl rfl rfl)); go_frame)
            | (refine Mix.go_move (by first | exact Mix.wanted_none rfl | exact Mix.wanted_yes rfl rfl rfl) _ rfl _ (by first | (go_simp; done) | (go_simp; rfl)) ?_; go_frame)
            | (refine Mix.go_assign (by first | exact Mix.wanted_none rfl | exact Mix.wanted_yes rfl rfl rfl) _ rfl _ (by first | (go_simp; done) | (go_simp; rfl)) ?_; go_frame)
            | (refine Mix.go_sureW (by first | exact Mix.wanted_none rfl | exact Mix.wanted_yes rfl rfl rfl) _ (by rfl) (by rfl) _ (fun w' hC' => by go_wp2_with fail; refine Mix.stays ?_; go_frame; rfl) ?_; go_frame)
            | (refine Mix.go_lookW (by first | exact Mix.wanted_none rfl | exact Mix.wanted_yes rfl rfl rfl) _ (by rfl) (by rfl) _ (by go_wp2_with fail; refine Mix.stays ?_; go_frame; rfl) ?_; go_frame))
          refine Mix.go_turn ?_
          go_wp2_with fail
          refine (HSAM.out _ (HPN.out.fr HFA.out (fun _ _ _ f => f))).mono ?_
          rintro e wc ⟨vc, rfl, hpc, hFc⟩
          have HPC := Lib.hid hpc
          have HFC := Lib.hid (HFA.out.trans' hFc)
          clear hpc hFc
          go_wp2
          refine Mix.then_go (HT.out _ HFC.out) ?_
          refine Mix.go_turn ?_
          go_wp2_with fail
          refine (HRWS.out _ _ HPC.out).mono ?_
          rintro e wd ⟨Ad, Cd, rfl, hpd, hFd⟩
          have HPD := Lib.hid hpd
          have HFD := Lib.hid (HFC.out.trans' hFd)
          clear hpd hFd
          go_wp2
          refine Mix.then_go (HT.out _ HFD.out) ?_
          refine Mix.go_turn ?_
          go_wp2_with fail
          refine (HRSAM.out _ (HRN.out.fr0 HFD.out).at (HRN.out.fr0 HFD.out).kept).mono ?_
          rintro e we ⟨Ae, Ce, rfl, hpe, rfl⟩
          have HPE := Lib.hid hpe.is
          clear hpe
          go_wp2
          refine Mix.then_go (HT.out _ HFD.out) ?_
          refine Mix.go_turn ?_
          go_wp2_with fail
          refine (HSME.out _ _ _ _ _ HPD.out HPE.out).mono ?_
          rintro e wf ⟨rfl, hFf⟩
          have HFF := Lib.hid (HFD.out.trans' hFf)
          clear hFf HPC HFC HPD HPE HFD HFA
          go_wp2
          refine Mix.then_go (HT.out _ HFF.out) ?_
          repeat (first
            | ((with_reducible refine Mix.go_skipS ?_ ?_); (focus (first | exact Mix.wanted_no rfl rfl rfl rfl | exact Mix.wanted_void rfl rfl rfl)); go_frame)
            | ((with_reducible refine Mix.go_skipL ?_ ?_); (focus (first | exact Mix.wanted_no rfl rfl rfl rfl | exact Mix.wanted_void rfl rfl rfl)); go_frame)
            | (refine Mix.go_move (by first | exact Mix.wanted_none rfl | exact Mix.wanted_yes rfl rfl rfl) _ rfl _ (by first | (go_simp; done) | (go_simp; rfl)) ?_; go_frame)
            | (refine Mix.go_assign (by first | exact Mix.wanted_none rfl | exact Mix.wanted_yes rfl rfl rfl) _ rfl _ (by first | (go_simp; done) | (go_simp; rfl)) ?_; go_frame)
            | (refine Mix.go_sureW (by first | exact Mix.wanted_none rfl | exact Mix.wanted_yes rfl rfl rfl) _ (by rfl) (by rfl) _ (fun w' hC' => by go_wp2_with fail; refine Mix.stays ?_; go_frame; rfl) ?_; go_frame)
            | (refine Mix.go_lookW (by first | exact Mix.wanted_none rfl | exact Mix.wanted_yes rfl rfl rfl) _ (by rfl) (by rfl) _ (by go_wp2_with fail; refine Mix.stays ?_; go_frame; rfl) ?_; go_frame))
          refine Mix.go_end ?_
          clear HSME HRSAM HSAM HRWS HLEN HRLEN
          go_wp2
          go_loopg [17] N (fun ky vj wx => ∃ j : Nat, vj = .int .i64 (j : Int) ∧ j ≤ N ∧ N - j ≤ ky ∧ Hid (Fr0 wn wx))
          case atStart => exact ⟨0, rfl, Nat.zero_le _, by omega, HFF⟩
          case round =>
            obtain ⟨j, rfl, hj, hky, HFX⟩ := hrel
            by_cases hjn : j < N
            · obtain ⟨nb, no, b, x, rfl, rfl, hxx⟩ := HALL.out j hjn
              obtain ⟨x1, x2⟩ := hxx _ HFX.out
              obtain ⟨t1, -⟩ := HT.out _ HFX.out
              have j1 : (j : Int) < (N : Int) := by omega
              have j2 : 0 ≤ (j : Int) := by omega
              have hxx2 : (x.toList == x.toList) = true := beq_self_eq_true _
              clear hxx
              go_wp2
              go_quiet (fail)
              have HFY := Lib.hid (HFX.out.trans' ((Fr.refl (fun _ => False) _).drewN nq))
              clear x1 x2 t1 hxx2
              go_wp2
              go_roundg (N - (j + 1))
              case measure => omega
              case rel => exact ⟨j + 1, by simp, by omega, by omega, HFY⟩
            · obtain rfl : j = N := by omega
              have j1 : ¬ (j : Int) < (j : Int) := by omega
              go_wp2
              go_roundg (n - (i + 1))
              case measure => omega
              case rel => exact ⟨i + 1, _, _, _, _, by simp, by omega, by omega, Lib.hid (HPN.out.fr HFX.out (fun _ _ _ f => f)), Lib.hid (HRN.out.fr0 HFX.out), HD7, Lib.hid (fun k hk => by have h1 := HB8.out k hk; have h2 := HFX.out.size; have h3 := HSN.out; omega), Lib.hid (HFN.out.trans' HFX.out)⟩
      · obtain rfl : i = n := by omega
        have i1 : ¬ (i : Int) < (i : Int) := by omega
        clear HP HR HD HB
        go_wp2
        go_ret
        exact ⟨rfl, HF.out⟩
  · have hnew := HBAD.out w1 hgood
    clear HOK HBAD
    go_wp2_with fail
    refine hnew.mono ?_
    clear hnew
    rintro e w2 ⟨rfl, hF2⟩
    have HF2 := Lib.hid (HF1.out.trans' hF2)
    clear hF2
    by_cases m1 : most < 1
    · go_wp2
      go_ret
      exact ⟨rfl, HF2.out⟩
    by_cases m2 : 16 < most
    · go_wp2
      go_ret
      exact ⟨rfl, HF2.out⟩
    by_cases m3 : retain < 1
    · go_wp2
      go_ret
      exact ⟨rfl, HF2.out⟩
    by_cases m4 : 64 < retain
    · go_wp2
      go_ret
      exact ⟨rfl, HF2.out⟩
    exact absurd ⟨⟨by omega, by omega⟩, by omega, by omega⟩ hgood
end Go.Proofs.Ytbbmjkligiglmaa.StoreL
