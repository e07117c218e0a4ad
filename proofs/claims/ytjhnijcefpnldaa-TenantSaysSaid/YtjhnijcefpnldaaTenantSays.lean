/-
  TenantSays walked.
-/
import Derived.Test.YtjhnijcefpnldaaTenantBudgets
import Derived.Test.YtjhnijcefpnldaaTenantRefAll
import Derived.Test.YtjhnijcefpnldaaMixS
namespace Go.Proofs.Ytjhnijcefpnldaa.TenantL
open Go.RowKit Base _root_.Go.Proofs.Ytjhnijcefpnldaa.Tenant

/-- the place of the first one with an ID among the first i, or -1 -/
def AtOf (L : List Tn) (id : Int) (i : Nat) (z : Int) : Prop := (z = -1 ∧ ∀ j, j < i → (L.getD j zero).id ≠ id) ∨ ∃ a : Nat, z = (a : Int) ∧ a < i ∧ (L.getD a zero).id = id ∧ ∀ j, j < a → (L.getD j zero).id ≠ id
theorem AtOf.bound {L : List Tn} {id z : Int} {i : Nat} (h : AtOf L id i z) : -1 ≤ z ∧ z < (i : Int) ∨ z = -1 := by
  rcases h with ⟨h1, _⟩ | ⟨a, h1, h2, _⟩
  · exact .inr h1
  · exact .inl ⟨by omega, by omega⟩
theorem AtOf.keep {L : List Tn} {id z : Int} {i : Nat} (h : AtOf L id i z) (hz : ¬ z < 0) : AtOf L id (i + 1) z := by
  rcases h with ⟨h1, _⟩ | ⟨a, h1, h2, h3⟩
  · omega
  · exact .inr ⟨a, h1, by omega, h3⟩
theorem AtOf.none {L : List Tn} {id z : Int} {i : Nat} (h : AtOf L id i z) (hz : z < 0) : ∀ j, j < i → (L.getD j zero).id ≠ id := by
  rcases h with ⟨_, h2⟩ | ⟨a, h1, _⟩
  · exact h2
  · omega
theorem AtOf.miss {L : List Tn} {id z : Int} {i : Nat} (h : AtOf L id i z) (hz : z < 0) (hn : (L.getD i zero).id ≠ id) : AtOf L id (i + 1) z := by
  refine .inl ⟨by rcases h.bound with h1 | h1 <;> omega, fun j hj => ?_⟩
  rcases Nat.lt_or_eq_of_le (Nat.le_of_lt_succ hj) with h1 | rfl
  · exact h.none hz j h1
  · exact hn
theorem AtOf.hit {L : List Tn} {id z : Int} {i : Nat} (h : AtOf L id i z) (hz : z < 0) (hn : (L.getD i zero).id = id) : AtOf L id (i + 1) (i : Int) := .inr ⟨i, rfl, by omega, hn, h.none hz⟩
theorem at_found {L : List Tn} {id z : Int} {k : Nat} (h : AtOf L id L.length z) (hf : FoundBy L id k true) : z = (k : Int) := by
  obtain ⟨q1, q2, q3⟩ := hf.1 rfl
  rcases h with ⟨_, h2⟩ | ⟨a, h1, h2, h3, h4⟩
  · exact absurd q2 (h2 k q1)
  · rcases Nat.lt_trichotomy k a with hlt | heq | hgt
    · exact absurd q2 (h4 k hlt)
    · omega
    · exact absurd h3 (q3 a hgt)
theorem at_lost {L : List Tn} {id z : Int} {k : Nat} (h : AtOf L id L.length z) (hf : FoundBy L id k false) : z = -1 := by
  rcases h with ⟨h1, _⟩ | ⟨a, h1, h2, h3, _⟩
  · exact h1
  · exact absurd h3 (hf.2 rfl a h2)
set_option maxRecDepth 100000 in
set_option maxHeartbeats 8000000 in
theorem tenantSays_walk (v0 : Value) (L : List Tn) (hll : L.length ≤ 9223372036854775807) (hsz : ∀ t ∈ L, SizedT t) (pool id : Int) (hpo : -9223372036854775808 ≤ pool ∧ pool ≤ 9223372036854775807) (hid : -9223372036854775808 ≤ id ∧ id ≤ 9223372036854775807) (w : World) (hT : Tens w v0 L) :
    Calls Try.prog 4 #[v0, .int .i64 pool, .int .i64 id] w fun e w' => e = .returned (.bool true) ∧ Fr0 w w' := by
  obtain ⟨A, C, rfl⟩ := hT.form
  have HT := Lib.hid hT
  have HPO := Lib.hid hpo
  have HID := Lib.hid hid
  have HSZ : Hid (∀ i, i < L.length → SizedT (L.getD i zero)) := Lib.hid (fun i hi => hsz _ (by rw [List.getD_eq_getElem?_getD, List.getElem?_eq_getElem hi]; exact List.getElem_mem hi))
  clear hT hsz hpo hid
  generalize hN : L.length = N at *
  have HN := Lib.hid hN
  clear hN
  go_enter Try.func4, Try.ntmps4
  go_wp2_with fail
  refine (awake_any _).mono ?_
  rintro e w1 ⟨rfl, hF1⟩
  have HF1 := Lib.hid hF1
  clear hF1
  by_cases h1 : 70 < (N : Int)
  ·
    go_wp2
    go_ret
    exact ⟨rfl, HF1.out⟩
  · have how := owns_any (.slice A N C) L (by rw [HN.out]; omega) w1 (HT.out.fr0 HF1.out)
    go_wp2_with fail
    refine how.mono ?_
    clear how
    rintro e w2 ⟨vr, rfl, hR, hF⟩
    have HF2 := Lib.hid (HF1.out.trans' hF)
    have HR := Lib.hid hR
    obtain ⟨RA, RC, rfl⟩ := hR.form
    rw [HN.out] at HR ⊢
    clear hF hR
    go_wp2_with fail
    go_loopg [8, 9] N (fun kx vz vi wr => ∃ (i : Nat) (z : Int), vi = .int .i64 (i : Int) ∧ vz = .int .i64 z ∧ i ≤ N ∧ N - i ≤ kx ∧ Hid (AtOf L id i z) ∧ Hid (Fr0 w2 wr))
    case atStart => exact ⟨0, -1, rfl, rfl, Nat.zero_le _, by omega, Lib.hid (.inl ⟨rfl, fun j h => absurd h (Nat.not_lt_zero j)⟩), Lib.hid (Fr.refl _ _)⟩
    case round =>
      obtain ⟨i, z, rfl, rfl, hi, hk, HA, HFR⟩ := hrel
      by_cases hlt : i < N
      · obtain ⟨pb, po, B, D, rfl, hc, _⟩ := tens_at HT.out i (by rw [HN.out]; exact hlt)
        obtain ⟨rb, ro, B2, D2, rfl, hc2, _⟩ := tens_at HR.out i (by rw [HN.out]; exact hlt)
        have i1 : (i : Int) < (N : Int) := by omega
        have i2 : 0 ≤ (i : Int) := by omega
        have HF3 := Lib.hid (HF2.out.trans' HFR.out)
        have HC := Lib.hid hc
        have hcl : ∀ X, Fr0 w2 X → X.cell? ⟨pb, po + i * 9, none⟩ = some (.int .i64 (L.getD i zero).id) ∧ X.cell? ⟨pb, po + i * 9 + 1, none⟩ = some (.slice B (L.getD i zero).key.length D) ∧ X.cell? ⟨pb, po + i * 9 + 2, none⟩ = some (.int .i64 (L.getD i zero).ri) ∧ X.cell? ⟨pb, po + i * 9 + 3, none⟩ = some (.int .i64 (L.getD i zero).bu) ∧ X.cell? ⟨pb, po + i * 9 + 4, none⟩ = some (.int .i64 (L.getD i zero).qu) ∧ X.cell? ⟨pb, po + i * 9 + 5, none⟩ = some (.int .i64 (L.getD i zero).ev) ∧ X.cell? ⟨pb, po + i * 9 + 6, none⟩ = some (.int .i64 (L.getD i zero).qe) ∧ X.cell? ⟨pb, po + i * 9 + 7, none⟩ = some (.int .i64 (L.getD i zero).se) ∧ X.cell? ⟨pb, po + i * 9 + 8, none⟩ = some (.int .i64 (L.getD i zero).re) ∧ X.cell? ⟨rb, ro + i * 9, none⟩ = some (.int .i64 (L.getD i zero).id) ∧ X.cell? ⟨rb, ro + i * 9 + 1, none⟩ = some (.slice B2 (L.getD i zero).key.length D2) ∧ X.cell? ⟨rb, ro + i * 9 + 2, none⟩ = some (.int .i64 (L.getD i zero).ri) ∧ X.cell? ⟨rb, ro + i * 9 + 3, none⟩ = some (.int .i64 (L.getD i zero).bu) ∧ X.cell? ⟨rb, ro + i * 9 + 4, none⟩ = some (.int .i64 (L.getD i zero).qu) ∧ X.cell? ⟨rb, ro + i * 9 + 5, none⟩ = some (.int .i64 (L.getD i zero).ev) ∧ X.cell? ⟨rb, ro + i * 9 + 6, none⟩ = some (.int .i64 (L.getD i zero).qe) ∧ X.cell? ⟨rb, ro + i * 9 + 7, none⟩ = some (.int .i64 (L.getD i zero).se) ∧ X.cell? ⟨rb, ro + i * 9 + 8, none⟩ = some (.int .i64 (L.getD i zero).re) := fun X h => by
          obtain ⟨a0, a1, a2, a3, a4, a5, a6, a7, a8⟩ := HC.out X (HF2.out.trans' h)
          obtain ⟨b0, b1, b2, b3, b4, b5, b6, b7, b8⟩ := hc2 X h
          exact ⟨a0, a1, a2, a3, a4, a5, a6, a7, a8, b0, b1, b2, b3, b4, b5, b6, b7, b8⟩
        have HCL := Lib.hid hcl
        have hszq := HSZ.out i hlt
        have HGP := Lib.hid (fun w => pgoodT_any B D (L.getD i zero) hszq.2.1 w)
        have HGR := Lib.hid (fun w => rgoodT_any B2 D2 (L.getD i zero) hszq.2.1 w)
        have HMISS := Lib.hid (fun h1 h2 => HA.out.miss h1 h2)
        have HHIT := Lib.hid (fun h1 h2 => HA.out.hit h1 h2)
        have hk1 := (hc wr HF3.out).2.1
        clear hc hc2 hcl hszq
        generalize L.getD i zero = q at *
        unfold t9 at HGP HGR
        generalize good q = gd at *
        by_cases h200 : 200 < (q.key.length : Int)
        ·
          go_wp2
          go_ret
          exact ⟨rfl, HF3.out⟩
        · go_wp2
          refine Mix.law (fun X => X.cell? ⟨pb, po + i * 9, none⟩ = some (.int .i64 q.id) ∧ X.cell? ⟨pb, po + i * 9 + 1, none⟩ = some (.slice B q.key.length D) ∧ X.cell? ⟨pb, po + i * 9 + 2, none⟩ = some (.int .i64 q.ri) ∧ X.cell? ⟨pb, po + i * 9 + 3, none⟩ = some (.int .i64 q.bu) ∧ X.cell? ⟨pb, po + i * 9 + 4, none⟩ = some (.int .i64 q.qu) ∧ X.cell? ⟨pb, po + i * 9 + 5, none⟩ = some (.int .i64 q.ev) ∧ X.cell? ⟨pb, po + i * 9 + 6, none⟩ = some (.int .i64 q.qe) ∧ X.cell? ⟨pb, po + i * 9 + 7, none⟩ = some (.int .i64 q.se) ∧ X.cell? ⟨pb, po + i * 9 + 8, none⟩ = some (.int .i64 q.re) ∧ X.cell? ⟨rb, ro + i * 9, none⟩ = some (.int .i64 q.id) ∧ X.cell? ⟨rb, ro + i * 9 + 1, none⟩ = some (.slice B2 q.key.length D2) ∧ X.cell? ⟨rb, ro + i * 9 + 2, none⟩ = some (.int .i64 q.ri) ∧ X.cell? ⟨rb, ro + i * 9 + 3, none⟩ = some (.int .i64 q.bu) ∧ X.cell? ⟨rb, ro + i * 9 + 4, none⟩ = some (.int .i64 q.qu) ∧ X.cell? ⟨rb, ro + i * 9 + 5, none⟩ = some (.int .i64 q.ev) ∧ X.cell? ⟨rb, ro + i * 9 + 6, none⟩ = some (.int .i64 q.qe) ∧ X.cell? ⟨rb, ro + i * 9 + 7, none⟩ = some (.int .i64 q.se) ∧ X.cell? ⟨rb, ro + i * 9 + 8, none⟩ = some (.int .i64 q.re)) [(.sure, 0), (.sure, 1), (.sure, 2), (.sure, 3), (.sure, 5), (.sure, 6), (.sure, 7), (.sure, 8), (.turn, 4), (.turn, 9), (.sure, 10)] (by kernel_rfl) (by kernel_rfl) (HCL.out _ HFR.out.drew) ?_
          simp only [List.map_cons, List.map_nil, Mix.nth_zero, Mix.nth_succ]
          have HDR := Lib.hid HFR.out.drew
          generalize wr.drew = wd at *
          repeat (first
            | (refine Mix.go_skipS (by first | exact Mix.wanted_no rfl rfl rfl rfl | exact Mix.wanted_void rfl rfl rfl) ?_; go_frame)
            | (refine Mix.go_skipL (by first | exact Mix.wanted_no rfl rfl rfl rfl | exact Mix.wanted_void rfl rfl rfl) ?_; go_frame)
            | (refine Mix.go_move (by first | exact Mix.wanted_none rfl | exact Mix.wanted_yes rfl rfl rfl) _ rfl _ (by first | (go_simp; done) | (go_simp; rfl)) ?_; go_frame)
            | (refine Mix.go_assign (by first | exact Mix.wanted_none rfl | exact Mix.wanted_yes rfl rfl rfl) _ rfl _ (by first | (go_simp; done) | (go_simp; rfl)) ?_; go_frame)
            | (refine Mix.go_sureW (by first | exact Mix.wanted_none rfl | exact Mix.wanted_yes rfl rfl rfl) _ (by rfl) (by rfl) _ (fun w' ⟨hC1, hC2, hC3, hC4, hC5, hC6, hC7, hC8, hC9, hC10, hC11, hC12, hC13, hC14, hC15, hC16, hC17, hC18⟩ => by go_wp2_with fail; refine Mix.stays ?_; go_frame; rfl) ?_; go_frame)
            | (refine Mix.go_lookW (by first | exact Mix.wanted_none rfl | exact Mix.wanted_yes rfl rfl rfl) _ (by rfl) (by rfl) _ (by go_wp2_with fail; refine Mix.stays ?_; go_frame; rfl) ?_; go_frame))
          refine Mix.go_turn ?_
          go_wp2_with fail
          refine (HGP.out wd).mono ?_
          rintro e wa ⟨rfl, hFa⟩
          have HFA := Lib.hid (HDR.out.trans' hFa)
          clear hFa
          go_wp2
          refine Mix.then_go (HCL.out _ HFA.out) ?_
          refine Mix.go_turn ?_
          go_wp2_with fail
          refine (HGR.out wa).mono ?_
          rintro e wb ⟨rfl, hFa⟩
          have HF4 := Lib.hid (HFA.out.trans' hFa)
          clear hFa
          go_wp2
          refine Mix.then_go (HCL.out _ HF4.out) ?_
          have zg : (gd != gd) = false := bne_self_eq_false _
          repeat (first
            | (refine Mix.go_skipS (by first | exact Mix.wanted_no rfl rfl rfl rfl | exact Mix.wanted_void rfl rfl rfl) ?_; go_frame)
            | (refine Mix.go_skipL (by first | exact Mix.wanted_no rfl rfl rfl rfl | exact Mix.wanted_void rfl rfl rfl) ?_; go_frame)
            | (refine Mix.go_move (by first | exact Mix.wanted_none rfl | exact Mix.wanted_yes rfl rfl rfl) _ rfl _ (by first | (go_simp; done) | (go_simp; rfl)) ?_; go_frame)
            | (refine Mix.go_assign (by first | exact Mix.wanted_none rfl | exact Mix.wanted_yes rfl rfl rfl) _ rfl _ (by first | (go_simp; done) | (go_simp; rfl)) ?_; go_frame)
            | (refine Mix.go_sureW (by first | exact Mix.wanted_none rfl | exact Mix.wanted_yes rfl rfl rfl) _ (by rfl) (by rfl) _ (fun w' ⟨hC1, hC2, hC3, hC4, hC5, hC6, hC7, hC8, hC9, hC10, hC11, hC12, hC13, hC14, hC15, hC16, hC17, hC18⟩ => by go_wp2_with fail; refine Mix.stays ?_; go_frame; rfl) ?_; go_frame)
            | (refine Mix.go_lookW (by first | exact Mix.wanted_none rfl | exact Mix.wanted_yes rfl rfl rfl) _ (by rfl) (by rfl) _ (by go_wp2_with fail; refine Mix.stays ?_; go_frame; rfl) ?_; go_frame))
          refine Mix.go_end ?_
          have c0 := (HC.out wb (HF2.out.trans' HF4.out)).1
          clear hk1 HDR HFA HGP HGR HCL
          by_cases hz : z < 0
          · by_cases hy : q.id = id
            · have zy : (q.id == id) = true := beq_iff_eq.2 hy
              have HA2 := Lib.hid (HHIT.out hz hy)
              clear hy
              generalize q.id = y at *
              go_wp2
              go_roundg (N - (i + 1))
              case measure => omega
              case rel => exact ⟨i + 1, _, by simp, rfl, by omega, by omega, HA2, HF4⟩
            · have zy : (q.id == id) = false := beq_eq_false_iff_ne.2 hy
              have HA2 := Lib.hid (HMISS.out hz hy)
              clear hy
              generalize q.id = y at *
              go_wp2
              go_roundg (N - (i + 1))
              case measure => omega
              case rel => exact ⟨i + 1, _, by simp, rfl, by omega, by omega, HA2, HF4⟩
          · have HA2 := Lib.hid (HA.out.keep hz)
            generalize q.id = y at *
            go_wp2
            go_roundg (N - (i + 1))
            case measure => omega
            case rel => exact ⟨i + 1, _, by simp, rfl, by omega, by omega, HA2, HF4⟩
      · obtain rfl : i = N := by omega
        have HF3 := Lib.hid (HF2.out.trans' HFR.out)
        have hfd := pfind_any (.slice A i C) L id HID.out (by rw [HN.out]; omega) wr (HT.out.fr0 HF3.out)
        go_wp2_with fail
        refine hfd.mono ?_
        clear hfd
        rintro e w4 ⟨k, ok, rfl, hfnd, hF⟩
        have HFB := Lib.hid hfnd
        have HG4 := Lib.hid (HFR.out.trans' hF)
        have HF4 := Lib.hid (HF3.out.trans' hF)
        have hbd := pbud_any (.slice A i C) L (by rw [HN.out]; omega) w4 (HT.out.fr0 HF4.out)
        clear hfnd hF
        go_wp2_with fail
        refine hbd.mono ?_
        clear hbd
        rintro e w5 ⟨vb, rfl, hI, hF⟩
        have HF5 := Lib.hid (HF4.out.trans' hF)
        have HG5 := Lib.hid (HG4.out.trans' hF)
        obtain ⟨ba, bc, bpb, bpo, rfl, hble, hba, hbcell⟩ := hI
        have hml : (L.map (·.bu)).length = i := by rw [List.length_map]; exact HN.out
        rw [hml] at hba hbcell ⊢
        have HBA := Lib.hid hba
        have HBC : Hid (∀ j, j < i → ∀ X, Fr0 w5 X → X.cell? ⟨bpb, bpo + j, none⟩ = some (.int .i64 (L.getD j zero).bu)) := Lib.hid (fun j hj X hfr => by
          have h1 := hbcell j hj
          rw [map_bu L j (by rw [HN.out]; exact hj)] at h1
          rw [hfr.cell (p := ⟨bpb, bpo + j, none⟩) (World.block_lt_of_cell? w5 _ h1) (fun f => f)]
          exact h1)
        clear hF hble hba hbcell hml
        go_wp2_with fail
        go_loopg [13] i (fun kx vj wr => ∃ (j : Nat), vj = .int .i64 (j : Int) ∧ j ≤ i ∧ i - j ≤ kx ∧ Hid (Fr0 w5 wr))
        case atStart => exact ⟨0, rfl, Nat.zero_le _, by omega, Lib.hid (Fr.refl _ _)⟩
        case round =>
          obtain ⟨j, rfl, hj, hjk, HFJ⟩ := hrel
          by_cases hlj : j < i
          · obtain ⟨pb, po, B, D, rfl, hc, _⟩ := tens_at HT.out j (by rw [HN.out]; exact hlj)
            obtain rfl := HBA.out (by omega)
            have j1 : (j : Int) < (i : Int) := by omega
            have j2 : 0 ≤ (j : Int) := by omega
            have c3 := (hc wr (HF5.out.trans' HFJ.out)).2.2.2.1
            have b0 := HBC.out j hlj wr HFJ.out
            clear hc
            generalize (L.getD j zero).bu = x at *
            have zx : (x != x) = false := bne_self_eq_false _
            go_wp2
            go_quiet (fail)
            have HF6 := Lib.hid (HFJ.out.trans' ((Fr.refl (fun _ => False) wr).drewN nq))
            generalize wr.drewN nq = w6 at *
            clear c3 b0
            go_wp2
            go_roundg (i - (j + 1))
            case measure => omega
            case rel => exact ⟨j + 1, by simp, by omega, by omega, HF6⟩
          · obtain rfl : j = i := by omega
            have HF6 := Lib.hid (HF5.out.trans' HFJ.out)
            have HG6 := Lib.hid (HG5.out.trans' HFJ.out)
            have hpa := pall_any (.slice A j C) L pool HPO.out (by rw [HN.out]; omega) (fun m hm => (HSZ.out m (by rw [← HN.out]; exact hm)).2.1) wr (HT.out.fr0 HF6.out)
            have HRA := Lib.hid (fun w h => rall_any (.slice RA j RC) L pool HPO.out (by rw [HN.out]; omega) (fun m hm => (HSZ.out m (by rw [← HN.out]; exact hm)).2.1) w h)
            have hz : ok = true → z = (k : Int) := fun h => by
              subst h
              exact at_found (by rw [HN.out]; exact HA.out) HFB.out
            have hz2 : ok = false → z = -1 := fun h => by
              subst h
              exact at_lost (by rw [HN.out]; exact HA.out) HFB.out
            generalize allErr L pool = er at *
            go_wp2_with fail
            refine hpa.mono ?_
            clear hpa
            rintro e w7 ⟨rfl, hF⟩
            have HF7 := Lib.hid (HF6.out.trans' hF)
            have hra := HRA.out w7 (HR.out.fr0 (HG6.out.trans' hF))
            clear hF HRA
            go_wp2_with fail
            refine hra.mono ?_
            clear hra
            rintro e w8 ⟨rfl, hF⟩
            have HF8 := Lib.hid (HF7.out.trans' hF)
            have ze : (er == er) = true := beq_self_eq_true _
            clear hF
            cases ok with
            | true =>
              have HZ := Lib.hid (hz rfl)
              have k1 : 0 ≤ z := by have := HZ.out; omega
              have k2 : ((k : Int) == z) = true := beq_iff_eq.2 HZ.out.symm
              clear hz hz2
              go_wp2
              go_ret
              exact ⟨rfl, HF8.out⟩
            | false =>
              have k1 : decide (0 ≤ z) = false := decide_eq_false (by have := hz2 rfl; omega)
              clear hz hz2
              go_wp2
              go_ret
              exact ⟨rfl, HF8.out⟩
end Go.Proofs.Ytjhnijcefpnldaa.TenantL
