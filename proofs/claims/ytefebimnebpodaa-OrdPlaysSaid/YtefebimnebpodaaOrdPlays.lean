/-
  OrdPlays: any calls: what is there, in order, is as the document says: the walk.
-/
import Derived.Test.YtefebimnebpodaaOrdAwake
import Derived.Test.YtefebimnebpodaaOrdRegs
import Derived.Shelf.RegionOpenPlain
import Derived.Test.YtefebimnebpodaaLawT
import Derived.StillTailTactics
import Derived.Deep.DeepCutAuto
import Derived.Deep.CutBlock
namespace Go.Proofs.Ytefebimnebpodaa.Ord
open Go.RowKit Base

abbrev OrdI (w : World) (B g most : Nat) (es : List Ent) : Prop := OrdAt w B 42 44 46 g most es
abbrev FrI (B : Nat) (w w' : World) : Prop := FrO B 42 44 46 w w'
abbrev ActT : TypeId := 27

set_option maxHeartbeats 16000000 in
set_option maxRecDepth 100000 in
theorem ordPlays_walk (m : Int) (v1 : Value) (L : List Trip) (hL : L.length ≤ 9223372036854775807) (w : World) (hI : TripsIs w v1 L) :
    Calls Try.prog 3 #[.int .i64 m, v1] w fun e w' => e = .returned (.bool true) ∧ Fr0 w w' := by
  obtain ⟨a1, c1, pb, po, rfl, hcap, ha1, hc1⟩ := hI
  have HA := Lib.hid ha1
  have HC := Lib.hid hc1
  clear ha1 hc1
  by_cases h150 : 150 < L.length
  · go_enter Try.func3, Try.ntmps3
    go_wp2_with fail
    refine (awake_any w).mono ?_
    rintro e w1 ⟨rfl, hF1⟩
    have HF1 := Lib.hid hF1
    clear hF1
    go_wp2
    go_ret
    exact ⟨rfl, HF1.out⟩
  · go_enter Try.func3, Try.ntmps3
    go_wp2_with fail
    refine (awake_any w).mono ?_
    rintro e w1 ⟨rfl, hF1⟩
    have HF1 := Lib.hid hF1
    clear hF1
    go_wp2_with fail
    refine (new_int m w.heap.size w1 HF1.out.size).mono ?_
    rintro e w2 ⟨g, rfl, _, hO2, hF2⟩
    have HF2 := Lib.hid (HF1.out.trans' hF2)
    have HO2 : Hid (OrdI w2 w.heap.size g (held m) []) := Lib.hid hO2
    clear hO2 hF2 HF1
    generalize hH : held m = H at *
    have hH1 : 1 ≤ H := by rw [← hH]; exact held_pos m
    have hH2 : H ≤ 4096 := by rw [← hH]; exact held_le m
    have HHE : Hid ((H : Int) = min (max m 1) 4096) := Lib.hid (by rw [← hH]; exact held_int m)
    clear hH
    unfold ptr
    go_upto_if 29 with fail
    go_cut [6] (fun s6 wx => s6 = .int .i64 (max m 1) ∧ wx = w2)
    case first => as_aux_lemma =>
      by_cases hm1 : m < 1
      · go_wp2
        go_meet
        exact ⟨by rw [show max m 1 = 1 by omega], rfl⟩
      · go_wp2
        go_meet
        exact ⟨by rw [show max m 1 = m by omega], rfl⟩
    case rest => as_aux_lemma =>
      obtain ⟨rfl, rfl⟩ := hcut
      go_upto_if 31 with fail
      go_cut [6] (fun s6 wx => s6 = .int .i64 (H : Int) ∧ wx = wc)
      case first => as_aux_lemma =>
        by_cases hm1 : 4096 < max m 1
        · go_wp2
          go_meet
          exact ⟨by rw [HHE.out, show min (max m 1) 4096 = 4096 by omega], rfl⟩
        · go_wp2
          go_meet
          exact ⟨by rw [HHE.out, show min (max m 1) 4096 = max m 1 by omega], rfl⟩
      case rest => as_aux_lemma =>
        obtain ⟨rfl, rfl⟩ := hcut
        clear HHE
        go_wp2
        go_loopg [7, 8] L.length (fun kx v i wr => ∃ (k : Nat) (ws : List Trip), i = .int .i64 k ∧ k ≤ L.length ∧ L.length - k ≤ kx ∧ ws.length ≤ k ∧ Hid (wr.ownsRow w.heap.size ActT 3 v ws.length (wcells ws)) ∧ Hid (OrdI wr w.heap.size g H (ents ws)) ∧ Hid (Fr0 w wr))
        case atStart => exact ⟨0, [], rfl, Nat.zero_le _, by omega, Nat.le_refl _, Lib.hid (World.ownsRow_nil _ _ _ _), HO2, HF2⟩
        case round =>
          clear HO2 HF2
          obtain ⟨k, ws, rfl, hk, hg, hwk, HW, HO, HF⟩ := hrel
          by_cases hlt : k < L.length
          · obtain ⟨t, ht⟩ : ∃ t, L[k]? = some t := ⟨_, List.getElem?_eq_getElem hlt⟩
            have ha := HA.out (by omega)
            subst ha
            obtain ⟨q0, q1, q2⟩ := HC.out k t ht
            obtain ⟨op, vv, nm⟩ := t
            simp only at q0 q1 q2
            have k0 := (HF.out.cell (p := ⟨pb, po + k * 3, none⟩) (World.block_lt_of_cell? w _ q0) (fun f => f)).trans q0
            have k1 := (HF.out.cell (p := ⟨pb, po + k * 3 + 1, none⟩) (World.block_lt_of_cell? w _ q1) (fun f => f)).trans q1
            have k2 := (HF.out.cell (p := ⟨pb, po + k * 3 + 2, none⟩) (World.block_lt_of_cell? w _ q2) (fun f => f)).trans q2
            have hi1 : (k : Int) < (L.length : Int) := by omega
            have hi2 : 0 ≤ (k : Int) := by omega
            obtain ⟨A, C, hv⟩ := owns_slice HW.out
            subst hv
            clear ht q0 q1 q2
            by_cases h100 : 100 < nm.size
            · have HX := Lib.hid (HF.out.alloc (.cells #[.int .i64 op, .int .i64 vv, .string nm] ActT))
              go_wp2
              go_ret
              exact ⟨rfl, HX.out⟩
            · have hN := heap_alloc_new wr (.cells #[.int .i64 op, .int .i64 vv, .string nm] ActT)
              have hfa : Fr0 wr (wr.alloc (.cells #[.int .i64 op, .int .i64 vv, .string nm] ActT)) := (Fr.refl _ _).alloc _
              have HWa := Lib.hid (owns_fr hfa HW.out (fun _ _ f => f))
              have HOa : Hid (OrdI _ w.heap.size g H (ents ws)) := Lib.hid (HO.out.fr0 hfa)
              have HFa := Lib.hid (HF.out.trans' hfa)
              have HN := Lib.hid hN
              have HNB : Hid (w.heap.size ≤ wr.heap.size) := Lib.hid HF.out.size
              go_upto_region 16 with fail
              generalize wr.alloc (.cells #[.int .i64 op, .int .i64 vv, .string nm] ActT) = wa at *
              obtain ⟨N, hNN⟩ : ∃ N, wr.heap.size = N := ⟨_, rfl⟩
              rw [hNN] at HN HNB hN ⊢
              clear hNN HW HO HF hfa k0 k1 k2
              have b2 : wa.cell? ⟨N, 2, none⟩ = some (.string nm) := by rw [cell_of_row _ _ _ _ _ _ hN]; rfl
              clear hN
              obtain ⟨n, hn⟩ : ∃ n, ws.length = n := ⟨_, rfl⟩
              have HLN := Lib.hid hn
              rw [hn] at hwk HWa ⊢
              clear hn
              obtain ⟨P, hP⟩ : ∃ P, place nm (ents ws) = P := ⟨_, rfl⟩
              have HP := Lib.hid hP
              have hPn : P ≤ n := by rw [← hP, ← HLN.out, ← ents_length]; exact place_le _ _
              clear hP
              have HACT : Hid (∀ wx, Fr0 wa wx → n = 0 ∨ ∃ b, A = some ⟨b, 0, none⟩ ∧ ∀ j t, ws[j]? = some t → wx.cell? ⟨b, j * 3, none⟩ = some (.int .i64 t.1) ∧ wx.cell? ⟨b, j * 3 + 1, none⟩ = some (.int .i64 t.2.1) ∧ wx.cell? ⟨b, j * 3 + 2, none⟩ = some (.string t.2.2)) := Lib.hid (fun wx hf => by
                have ho := owns_fr hf HWa.out (fun _ _ f => f)
                rw [← HLN.out] at ho
                obtain ⟨A', C', hv, hc, hx⟩ := (acts_own ho).form
                rcases hx with h0 | ⟨b, hA', hx⟩
                · left; rw [← HLN.out, h0]; rfl
                · cases hv; exact .inr ⟨b, hA', hx⟩)
              have HSRT : Hid (Sorted (ents ws)) := Lib.hid HOa.out.srt
              have mixed : Try.prog.follows .mixedOrders = true := by kernel_rfl
              go_upto_block 2 with fail
              go_cut [10] (fun s10 wx => s10 = .int .i64 (P : Int) ∧ Hid (Fr0 wa wx))
              case first => as_aux_lemma =>
                go_wp2_with fail
                go_loopg [10] n (fun kx s10 wx => ∃ j : Nat, s10 = .int .i64 j ∧ j ≤ P ∧ n - j ≤ kx ∧ Hid (Fr0 wa wx))
                case atStart => exact ⟨0, rfl, Nat.zero_le _, by omega, Lib.hid (Fr.refl _ _)⟩
                case round =>
                  obtain ⟨j, rfl, hjP, hgj, HFx⟩ := hrel
                  have d2 := (HFx.out.cell (p := ⟨N, 2, none⟩) (lt_of_heap HN.out) (fun f => f)).trans b2
                  by_cases hjn : j < n
                  · obtain ⟨t, ht⟩ : ∃ t, ws[j]? = some t := ⟨_, List.getElem?_eq_getElem (by rw [HLN.out]; exact hjn)⟩
                    obtain ⟨b, rfl, hx⟩ := (HACT.out _ HFx.out).resolve_left (by omega)
                    obtain ⟨_, _, x2⟩ := hx j t ht
                    have hj1 : (j : Int) < (n : Int) := by omega
                    have hj2 : 0 ≤ (j : Int) := by omega
                    have het : (ents ws)[j]? = some (tent t) := by rw [ents_get, ht]; rfl
                    by_cases hlt2 : j < P
                    · have hls : Op.bytesLess t.2.2.toList nm.toList = true := by
                        rw [lt_raw]
                        exact place_lt nm (ents ws) j (tent t) (by rw [HP.out]; exact hlt2) het
                      clear hx het ht
                      go_wp2_with fail
                      go_quiet (fail)
                      go_wp2
                      go_roundg (n - (j + 1))
                      case measure => omega
                      case rel => exact ⟨j + 1, by simp, by omega, by omega, Lib.hid (HFx.out.drewN _)⟩
                    · obtain rfl : j = P := by omega
                      have hls : Op.bytesLess t.2.2.toList nm.toList = false := by
                        rw [lt_raw]
                        exact place_at nm (ents ws) (tent t) (by rw [HP.out]; exact het)
                      clear hx het ht
                      go_wp2_with fail
                      go_quiet (fail)
                      go_wp2
                      go_meet
                      exact ⟨rfl, Lib.hid (HFx.out.drewN _)⟩
                  · obtain rfl : j = P := by omega
                    obtain rfl : n = j := by omega
                    go_wp2_with fail
                    go_quiet (fail)
                    go_wp2
                    go_meet
                    exact ⟨rfl, Lib.hid (HFx.out.drewN _)⟩
              case rest => as_aux_lemma =>
                obtain ⟨rfl, HFx⟩ := hcut
                go_upto_region 21 with fail
                obtain ⟨S, hS⟩ : ∃ S, has nm (ents ws) = S := ⟨_, rfl⟩
                have HS := Lib.hid hS
                clear hS
                go_cut [11] (fun s11 wx => s11 = .bool S ∧ Hid (Fr0 wa wx))
                case first => as_aux_lemma =>
                  have d2 := (HFx.out.cell (p := ⟨N, 2, none⟩) (lt_of_heap HN.out) (fun f => f)).trans b2
                  by_cases hPl : P < n
                  · obtain ⟨t, ht⟩ : ∃ t, ws[P]? = some t := ⟨_, List.getElem?_eq_getElem (by rw [HLN.out]; exact hPl)⟩
                    obtain ⟨b, rfl, hx⟩ := (HACT.out _ HFx.out).resolve_left (by omega)
                    obtain ⟨_, _, x2⟩ := hx P t ht
                    have hj1 : (P : Int) < (n : Int) := by omega
                    have hj2 : 0 ≤ (P : Int) := by omega
                    have hq : (t.2.2.toList == nm.toList) = S := by
                      rw [eq_raw, ← HS.out]
                      unfold has
                      rw [HP.out, ents_get, ht]
                      rfl
                    clear hx ht
                    go_quiet (fail)
                    go_wp2
                    go_meet
                    exact ⟨rfl, Lib.hid (HFx.out.drewN _)⟩
                  · obtain rfl : P = n := by omega
                    have hq : S = false := by
                      rw [← HS.out]
                      unfold has
                      rw [HP.out, List.getElem?_eq_none (by rw [ents_length, HLN.out]; exact Nat.le_refl _)]
                    subst hq
                    go_quiet (fail)
                    go_wp2
                    go_meet
                    exact ⟨rfl, Lib.hid (HFx.out.drewN _)⟩
                case rest => as_aux_lemma =>
                  clear HFx
                  obtain ⟨rfl, HFx⟩ := hcut
                  have HWc := Lib.hid (owns_fr HFx.out HWa.out (fun _ _ f => f))
                  have HOc : Hid (OrdI wc w.heap.size g H (ents ws)) := Lib.hid (HOa.out.fr0 HFx.out)
                  have HFc := Lib.hid (HFa.out.trans' HFx.out)
                  have hNc := HFx.out.heap HN.out (fun f => f)
                  have HNc := Lib.hid hNc
                  have b0 : wc.cell? ⟨N, 0, none⟩ = some (.int .i64 op) := by rw [cell_of_row _ _ _ _ _ _ hNc]; rfl
                  have b1 : wc.cell? ⟨N, 1, none⟩ = some (.int .i64 vv) := by rw [cell_of_row _ _ _ _ _ _ hNc]; rfl
                  have b2' : wc.cell? ⟨N, 2, none⟩ = some (.string nm) := by rw [cell_of_row _ _ _ _ _ _ hNc]; rfl
                  clear hNc HWa HOa HFa HN HACT HFx b2
                  have hinf : (Try.prog.info? ActT).map (fun i => (i.zero, i.size, i.bytes)) = some (some (.agg #[.int .i64 0, .int .i64 0, .string ⟨#[]⟩]), 3, 32) := by kernel_rfl
                  have HINF := Lib.hid hinf
                  clear hinf
                  go_upto_if 78 with fail
                  go_cut [7] (fun s7 wx => ∃ ws' : List Trip, ws'.length ≤ n + 1 ∧ (∃ A C, s7 = .slice A ws'.length C) ∧ Hid (wx.ownsRow w.heap.size ActT 3 s7 ws'.length (wcells ws')) ∧ Hid (OrdI wx w.heap.size g H (ents ws')) ∧ Hid (Fr0 w wx))
                  case first => as_aux_lemma =>
                    by_cases hop : op = 1
                    · subst hop
                      have hdrop : Calls Try.prog 6 #[ptr g, .string nm] wc fun e w' => e = .returned (.bool S) ∧ OrdI w' w.heap.size g H (drop nm (ents ws)) ∧ FrI w.heap.size wc w' := by
                        cases S with
                        | true => exact drop_int_some _ g H (ents ws) nm wc HOc.out HS.out
                        | false =>
                          refine (drop_int_none _ g H (ents ws) nm wc HOc.out HS.out).mono ?_
                          rintro e w' ⟨rfl, rfl⟩
                          exact ⟨rfl, by unfold drop; rw [HS.out]; exact HOc.out, Fr.refl _ _⟩
                      have HD := Lib.hid hdrop
                      clear hdrop
                      unfold ptr at HD
                      go_wp2_with fail
                      refine HD.out.mono ?_
                      rintro e w5 ⟨rfl, hO5, hF5⟩
                      have HO5 := Lib.hid hO5
                      have HW5 := Lib.hid (FrO.owns hF5 HWc.out (by decide))
                      have HF5 := Lib.hid (FrO.fr0 HFc.out hF5 (Nat.le_refl _))
                      clear hO5 hF5 HD HOc HWc HFc HNc b0 b1 b2'
                      cases S with
                      | false =>
                        go_wp2
                        go_meet
                        exact ⟨ws, by rw [HLN.out]; omega, ⟨A, C, by rw [HLN.out]⟩, by rw [HLN.out]; exact HW5, Lib.hid (by
                          have := HO5.out
                          rw [ents_drop, HS.out] at this
                          exact this), HF5⟩
                      | true =>
                        have hPl : P < n := by
                          have := has_lt HS.out
                          rw [HP.out, ents_length, HLN.out] at this
                          exact this
                        have hn150 : n ≤ 150 := by omega
                        obtain ⟨⟨S1, s1, v1⟩, _⟩ := acts_cuts (P := Try.prog) (t := AT) Try.underlying22 (by kernel_rfl) HW5.out HLN.out P (by omega)
                        obtain ⟨_, ⟨S2, s2, v2⟩⟩ := acts_cuts (P := Try.prog) (t := AT) Try.underlying22 (by kernel_rfl) HW5.out HLN.out (P + 1) (by omega)
                        have HS1 := Lib.hid s1
                        have HS2 := Lib.hid s2
                        have HV1 := Lib.hid v1
                        have HV2 := Lib.hid v2
                        have HFIN : Hid (∀ (v : Value) (W : World), Fr0 w5 W → W.ownsRow w5.heap.size ActT 3 v (n - 1) (wcells (ws.take P ++ ws.drop (P + 1))) → ∃ ws' : List Trip, ws'.length ≤ n + 1 ∧ (∃ A C, v = .slice A ws'.length C) ∧ Hid (W.ownsRow w.heap.size ActT 3 v ws'.length (wcells ws')) ∧ Hid (OrdI W w.heap.size g H (ents ws')) ∧ Hid (Fr0 w W)) := Lib.hid (fun v W hf ho => by
                          have hls : (ws.take P ++ ws.drop (P + 1)).length = n - 1 := by simp; rw [HLN.out]; omega
                          have h1 := HO5.out.fr0 hf
                          rw [ents_drop, HS.out, HP.out] at h1
                          obtain ⟨A3, C3, hv⟩ := owns_slice ho
                          exact ⟨_, by omega, ⟨A3, C3, by rw [hls]; exact hv⟩, Lib.hid (by rw [hls]; exact owns_base ho HF5.out.size), Lib.hid h1, Lib.hid (HF5.out.trans' hf)⟩)
                        clear s1 s2 v1 v2 HO5 HW5 HF5
                        go_wp2_with fail
                        refine r26 (V := .slice A n C) (S1 := S1) (S2 := S2) (n := n) (P := P) (ws := ws) ⟨rfl, rfl, rfl, HS1.out, fun wx => HS2.out _ (by omega) wx, HV1.out, HV2.out, HLN.out, by omega, by omega⟩ ?_
                        intro vals w6 hf6 ho6
                        obtain ⟨A3, C3, hv7⟩ := owns_slice ho6
                        have HREL := Lib.hid (HFIN.out _ _ hf6 ho6)
                        rw [hv7] at HREL
                        clear hf6 ho6 HFIN HS1 HS2 HV1 HV2
                        rw [show dsts ops26 = [86, 87, 88, 89, 90, 91, 92, 93, 94, 95, 7] by kernel_rfl]
                        simp only [frm, List.mapIdx_toArray, List.mapIdx_cons, List.mapIdx_nil, Nat.zero_add, Nat.reduceAdd, List.contains_cons, List.contains_nil, Nat.reduceBEq, Bool.or_false, Bool.false_or, Bool.or_true, Bool.true_or, Bool.or_self, Bool.false_eq_true, if_true, if_false, hv7]
                        clear hv7
                        go_wp2
                        go_meet
                        exact HREL.out
                    · have hopb : ((op == 1) : Bool) = false := by simp [hop]
                      cases S with
                      | true =>
                        have hPl : P < n := by
                          have := has_lt HS.out
                          rw [HP.out, ents_length, HLN.out] at this
                          exact this
                        go_wp2_with fail
                        refine (put_int_there _ g H (ents ws) nm vv wc HOc.out HS.out).mono ?_
                        rintro e w5 ⟨rfl, hO5, hF5⟩
                        have HO5 : Hid (OrdI w5 w.heap.size g H _) := Lib.hid hO5
                        have HW5 := Lib.hid (FrO.owns hF5 HWc.out (by decide))
                        have HF5 := Lib.hid (FrO.fr0 HFc.out hF5 (Nat.le_refl _))
                        have hN5 := FrO.cells hF5 HNc.out (by decide)
                        have b1 : w5.cell? ⟨N, 1, none⟩ = some (.int .i64 vv) := by rw [cell_of_row _ _ _ _ _ _ hN5]; rfl
                        clear hO5 hF5 hN5 HOc HWc HFc HNc b0 b2' hopb
                        obtain ⟨t, ht⟩ : ∃ t, ws[P]? = some t := ⟨_, List.getElem?_eq_getElem (by rw [HLN.out]; exact hPl)⟩
                        obtain ⟨b, rfl, hgb, hbb, hx⟩ : ∃ b, A = some ⟨b, 0, none⟩ ∧ (∃ cs, w5.heap[b]? = some (.cells cs ActT (0, 0))) ∧ w.heap.size ≤ b ∧ w5.cell? ⟨b, P * 3 + 1, none⟩ = some (.int .i64 t.2.1) := by
                          have ho := HW5.out
                          rw [← HLN.out] at ho
                          obtain ⟨A', C', hv, hc, hx⟩ := (acts_own ho).form
                          rcases hx with h0 | ⟨b, hA', hx⟩
                          · rw [h0] at ht; simp at ht
                          · cases hv
                            subst hA'
                            obtain ⟨hb, cs, hcs⟩ := owns_heap ho rfl
                            exact ⟨b, rfl, ⟨cs, hcs⟩, hb, (hx P t ht).2.1⟩
                        obtain ⟨cs, hgb⟩ := hgb
                        have hfz : w5.frozen? ⟨b, P * 3 + 1, none⟩ = false := by simp [World.frozen?, hgb]
                        have hfr : Fr (fun q => q = b) w5 (w5.setCell ⟨b, P * 3 + 1, none⟩ (.int .i64 vv)) := Fr.setCell (S := fun q => q = b) (Fr.refl _ w5) (p := ⟨b, P * 3 + 1, none⟩) (fun _ => rfl) _
                        have HFIN : Hid ((w5.setCell ⟨b, P * 3 + 1, none⟩ (.int .i64 vv)).ownsRow w.heap.size ActT 3 (.slice (some ⟨b, 0, none⟩) n C) n (wcells (ws.set P (t.1, vv, t.2.2))) ∧ OrdI (w5.setCell ⟨b, P * 3 + 1, none⟩ (.int .i64 vv)) w.heap.size g H (ents (ws.set P (t.1, vv, t.2.2))) ∧ Fr0 w (w5.setCell ⟨b, P * 3 + 1, none⟩ (.int .i64 vv)) ∧ (ws.set P (t.1, vv, t.2.2)).length = n) := Lib.hid ⟨(by
                          have := owns_set HW5.out (P * 3 + 1) (by rw [wcells_length, HLN.out]; omega) (.int .i64 vv)
                          rw [wcells_set ws P t vv ht] at this
                          exact this), (by
                          have h1 := HO5.out
                          rw [ents_put_there vv nm ws t HS.out (by rw [HP.out]; exact ht), HP.out] at h1
                          refine h1.fr hfr fun q ⟨_, cs', t', fr', hx', hk'⟩ e => ?_
                          have e' : q = b := e
                          subst e'
                          rw [hgb] at hx'
                          cases hx'
                          revert hk'
                          decide), Fr.trans HF5.out hfr (fun i hi e => by have e' : i = b := e; omega), by rw [List.length_set]; exact HLN.out⟩
                        have z1 : (P : Int) < (n : Int) := by omega
                        have z2 : 0 ≤ (P : Int) := by omega
                        clear hfr hgb HO5 HW5 HF5 ht
                        go_wp2
                        go_meet
                        obtain ⟨f1, f2, f3, f4⟩ := HFIN.out
                        exact ⟨ws.set P (t.1, vv, t.2.2), by omega, ⟨_, C, by rw [f4]⟩, by rw [f4]; exact f1, f2, f3⟩
                      | false =>
                        by_cases hfull : H ≤ n
                        · go_wp2_with fail
                          refine (put_int_full _ g H (ents ws) nm vv wc HOc.out HS.out (by rw [ents_length, HLN.out]; exact hfull)).mono ?_
                          rintro e w5 ⟨rfl, hF5⟩
                          have HO5 : Hid (OrdI w5 w.heap.size g H (ents ws)) := Lib.hid (HOc.out.fr0 hF5)
                          have HW5 := Lib.hid (owns_fr hF5 HWc.out (fun _ _ f => f))
                          have HF5 := Lib.hid (HFc.out.trans' hF5)
                          have z1 : (H : Int) ≤ (n : Int) := by omega
                          clear hF5 HOc HWc HFc HNc b0 b1 b2' hopb
                          go_wp2
                          go_meet
                          exact ⟨ws, by rw [HLN.out]; omega, ⟨A, C, by rw [HLN.out]⟩, by rw [HLN.out]; exact HW5, HO5, HF5⟩
                        · go_wp2_with fail
                          refine (put_int_new _ g H (ents ws) nm vv wc HOc.out HS.out (by rw [ents_length, HLN.out]; omega) (by omega)).mono ?_
                          rintro e w5 ⟨rfl, hO5, hF5⟩
                          have HO5 : Hid (OrdI w5 w.heap.size g H _) := Lib.hid hO5
                          have HW5 := Lib.hid (FrO.owns hF5 HWc.out (by decide))
                          have HF5 := Lib.hid (FrO.fr0 HFc.out hF5 (Nat.le_refl _))
                          have hN5 := FrO.cells hF5 HNc.out (by decide)
                          have d0 : w5.cell? ⟨N, 0, none⟩ = some (.int .i64 op) := by rw [cell_of_row _ _ _ _ _ _ hN5]; rfl
                          have d1 : w5.cell? ⟨N, 1, none⟩ = some (.int .i64 vv) := by rw [cell_of_row _ _ _ _ _ _ hN5]; rfl
                          have d2 : w5.cell? ⟨N, 2, none⟩ = some (.string nm) := by rw [cell_of_row _ _ _ _ _ _ hN5]; rfl
                          have z1 : ¬ (H : Int) ≤ (n : Int) := by omega
                          clear hO5 hF5 HOc HWc HFc HNc b0 b1 b2' hopb
                          have hn150 : n ≤ 150 := by omega
                          obtain ⟨⟨S1, s1, v1⟩, ⟨S2, s2, v2⟩⟩ := acts_cuts (P := Try.prog) (t := AT) Try.underlying22 (by kernel_rfl) HW5.out HLN.out P hPn
                          have HS1 := Lib.hid s1
                          have HS2 := Lib.hid s2
                          have HV1 := Lib.hid v1
                          have HV2 := Lib.hid v2
                          have HN5 := Lib.hid hN5
                          have HFIN : Hid (∀ (v : Value) (W : World), Fr0 w5 W → W.ownsRow w5.heap.size ActT 3 v (n + 1) (wcells (ws.take P ++ (op, vv, nm) :: ws.drop P)) → ∃ ws' : List Trip, ws'.length ≤ n + 1 ∧ (∃ A C, v = .slice A ws'.length C) ∧ Hid (W.ownsRow w.heap.size ActT 3 v ws'.length (wcells ws')) ∧ Hid (OrdI W w.heap.size g H (ents ws')) ∧ Hid (Fr0 w W)) := Lib.hid (fun v W hf ho => by
                            have hls : (ws.take P ++ (op, vv, nm) :: ws.drop P).length = n + 1 := by simp; rw [HLN.out]; omega
                            have h1 := HO5.out.fr0 hf
                            rw [ents_put_new op vv nm ws HS.out, HP.out] at h1
                            obtain ⟨A3, C3, hv⟩ := owns_slice ho
                            exact ⟨_, by omega, ⟨A3, C3, by rw [hls]; exact hv⟩, Lib.hid (by rw [hls]; exact owns_base ho HF5.out.size), Lib.hid h1, Lib.hid (HF5.out.trans' hf)⟩)
                          clear s1 s2 v1 v2 HO5 HW5 HF5 hN5
                          go_wp2_with fail
                          refine r30 (t := (op, vv, nm)) (N := N) (V := .slice A n C) (S1 := S1) (S2 := S2) (n := n) (P := P) (ws := ws) ⟨rfl, rfl, rfl, HS1.out, fun wx => HS2.out _ rfl wx, HV1.out, HV2.out, HLN.out, hPn, by omega⟩ rfl HN5.out ?_
                          intro vals w6 hf6 ho6
                          obtain ⟨A3, C3, hv7⟩ := owns_slice ho6
                          have HREL := Lib.hid (HFIN.out _ _ hf6 ho6)
                          rw [hv7] at HREL
                          clear hf6 ho6 HFIN HS1 HS2 HV1 HV2 HN5
                          rw [show dsts ops30 = [111, 112, 113, 114, 115, 116, 117, 118, 119, 120, 121, 122, 7] by kernel_rfl]
                          simp only [frm, List.mapIdx_toArray, List.mapIdx_cons, List.mapIdx_nil, Nat.zero_add, Nat.reduceAdd, List.contains_cons, List.contains_nil, Nat.reduceBEq, Bool.or_false, Bool.false_or, Bool.or_true, Bool.true_or, Bool.or_self, Bool.false_eq_true, if_true, if_false, hv7]
                          clear hv7
                          go_wp2
                          go_meet
                          exact HREL.out
                  case rest => as_aux_lemma =>
                    obtain ⟨ws2, hl2, ⟨A2, C2, rfl⟩, HW2, HO2, HF2⟩ := hcut
                    have hn2 : ws2.length ≤ 151 := by omega
                    have hl3 : ws2.length ≤ k + 1 := by omega
                    clear HWc HOc HFc HNc b0 b1 b2' HS HSRT HP HLN
                    go_wp2_with fail
                    refine (names_int _ g H _ _ HO2.out).mono ?_
                    rintro e w6 ⟨b6, rfl, hb6, hN6, hF6⟩
                    have HO6 : Hid (OrdI w6 w.heap.size g H (ents ws2)) := Lib.hid (HO2.out.fr0 hF6)
                    have HW6 := Lib.hid (owns_fr hF6 HW2.out (fun _ _ f => f))
                    have HN6 := Lib.hid hN6
                    have HF6 := Lib.hid (HF2.out.trans' hF6)
                    clear hN6 hF6 HO2 HW2 HF2 hb6
                    go_wp2_with fail
                    refine (len_int _ g H _ _ HO6.out).mono ?_
                    rintro e w7 ⟨rfl, rfl⟩
                    obtain ⟨n2, hn2'⟩ : ∃ n2, ws2.length = n2 := ⟨_, rfl⟩
                    have HL2 := Lib.hid hn2'
                    rw [ents_length, hn2']
                    rw [hn2'] at hn2 hl3
                    clear hn2' hl2
                    go_wp2
                    go_loopg [10] n2 (fun kx s10 wx => ∃ j : Nat, s10 = .int .i64 j ∧ j ≤ n2 ∧ n2 - j ≤ kx ∧ Hid (Fr0 w7 wx))
                    case atStart => exact ⟨0, rfl, Nat.zero_le _, by omega, Lib.hid (Fr.refl _ _)⟩
                    case round =>
                      obtain ⟨j, rfl, hjn, hgj, HFx⟩ := hrel
                      by_cases hjl : j < n2
                      · obtain ⟨t, ht⟩ : ∃ t, ws2[j]? = some t := ⟨_, List.getElem?_eq_getElem (by rw [HL2.out]; exact hjl)⟩
                        have het : (ents ws2)[j]? = some (t.2.2, .int .i64 t.2.1) := by rw [ents_get, ht]; rfl
                        have HET := Lib.hid het
                        have HTT := Lib.hid ht
                        clear het ht
                        go_wp2_with fail
                        refine (at_int_some _ g H _ j t.2.2 (.int .i64 t.2.1) _ (HO6.out.fr0 HFx.out) HET.out).mono ?_
                        rintro e w8 ⟨rfl, hF8⟩
                        have hF78 := HFx.out.trans' hF8
                        have HF8 := Lib.hid hF78
                        have ho := owns_fr hF78 HW6.out (fun _ _ f => f)
                        obtain ⟨A', C', hv, hc, hx⟩ := (acts_own ho).form
                        obtain ⟨b, hA', hy⟩ := hx.resolve_left (fun h0 => by have := HTT.out; rw [h0] at this; simp at this)
                        rw [HL2.out] at hv
                        cases hv
                        subst hA'
                        obtain ⟨_, x1, x2⟩ := hy j t HTT.out
                        have hnm := owns_fr hF78 HN6.out (fun _ _ f => f)
                        have x3 := own_names hnm j _ HET.out
                        have hget := HO6.out.srt.getAt HET.out
                        simp only at hget x3
                        have HGET := Lib.hid hget
                        have z1 : (j : Int) < (n2 : Int) := by omega
                        have z2 : 0 ≤ (j : Int) := by omega
                        clear hF8 hF78 ho hx hy hnm hget
                        go_wp2_with fail
                        refine (get_int_some _ g H _ t.2.2 (.int .i64 t.2.1) _ (HO6.out.fr0 HF8.out) HGET.out).mono ?_
                        rintro e w9 ⟨rfl, rfl⟩
                        go_wp2
                        go_roundg (n2 - (j + 1))
                        case measure => omega
                        case rel => exact ⟨j + 1, by simp, by omega, by omega, HF8⟩
                      · obtain rfl : j = n2 := by omega
                        have HW9 := Lib.hid (owns_fr HFx.out HW6.out (fun _ _ f => f))
                        have HO9 : Hid (OrdI _ w.heap.size g H (ents ws2)) := Lib.hid (HO6.out.fr0 HFx.out)
                        have HF9 := Lib.hid (HF6.out.trans' HFx.out)
                        clear HN6
                        go_wp2
                        go_roundg (L.length - (k + 1))
                        case measure => omega
                        case rel => exact ⟨k + 1, ws2, by simp, by omega, by omega, by rw [HL2.out]; exact hl3, Lib.hid (by have := HW9.out; simp only [HL2.out] at this ⊢; exact this), HO9, HF9⟩
          · go_wp2
            go_ret
            exact ⟨rfl, HF.out⟩
end Go.Proofs.Ytefebimnebpodaa.Ord
