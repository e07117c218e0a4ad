/-
  FrameParts: however a stream is parted, the same pieces come: the walk.
-/
import Derived.Test.YtggdpmfghbnhcaaDoorFrameGath
import Derived.Test.YtggdpmfghbnhcaaDoorLaw
namespace Go.Proofs.YtggdpmfghbnhcaaDoor.Frame
open Go.RowKit Base Pack Crc

/-- a Feed more, b from f on to m -/
theorem feed_on {b : List UInt8} {f m : Nat} {acc : List Pc} {wt : List UInt8} {d : Bool} (h : feed [] false (b.take f) = ⟨acc, wt, d⟩) (hm : f ≤ m) :
    feed [] false (b.take m) = ⟨acc ++ (feed wt d ((b.drop f).take (m - f))).l, (feed wt d ((b.drop f).take (m - f))).w, (feed wt d ((b.drop f).take (m - f))).d⟩ := by
  have e : b.take m = b.take f ++ (b.drop f).take (m - f) := by
    rw [show b.take m = b.take (f + (m - f)) by congr 1; omega, List.take_add]
  rw [e, feed_two [] false _ _ (by unfold Ok; simpa using fro_nil), h]
theorem feed_le (b : List UInt8) (m : Nat) (hb : b.length ≤ 2000) : (feed [] false (b.take m)).l.length ≤ 2517 := by
  have := feed_count [] false (b.take m) (by unfold Ok; simpa using fro_nil)
  rw [List.length_take] at this
  omega
/-- where an element of a []int that came in lies -/
theorem ints_at {w : World} {a1 : Option Addr} {n cap : Nat} {l : List Int} (h : IntsIs w (.slice a1 n cap) l) (j : Nat) (hj : j < l.length) : ∃ pb po, a1 = some ⟨pb, po, none⟩ ∧ ∀ wr, Fr0 w wr → wr.cell? ⟨pb, po + j, none⟩ = some (.int .i64 (l.getD j 0)) := by
  obtain ⟨A1, C1, pb, po, hv1, _, hpa, hpc⟩ := h
  simp only [Value.slice.injEq] at hv1
  obtain ⟨rfl, _, rfl⟩ := hv1
  have c0 := hpc j hj
  exact ⟨pb, po, hpa (by omega), fun wr hf => (hf.cell (p := ⟨pb, po + j, none⟩) (World.block_lt_of_cell? w _ c0) (fun f => f)).trans c0⟩
set_option maxRecDepth 100000 in
set_option maxHeartbeats 4000000 in
theorem frameParts_walk (v0 v1 : Value) (b : List UInt8) (hb : b.length ≤ 9223372036854775807) (cs : List Int) (hcs : cs.length ≤ 9223372036854775807) (hcr : ∀ n ∈ cs, -9223372036854775808 ≤ n ∧ n ≤ 9223372036854775807) (w : World) (hA : BytesIs w v0 b) (hC : IntsIs w v1 cs) (hR : Rests w) :
    Calls Tryd.prog 5 #[v0, v1] w fun e w' => e = .returned (.bool true) ∧ Fr0 w w' := by
  obtain ⟨a1, cap1, hv1⟩ : ∃ a c, v1 = .slice a cs.length c := by obtain ⟨a, c, _, _, hv, _⟩ := hC; exact ⟨a, c, hv⟩
  subst hv1
  obtain ⟨a0, cap0, rfl⟩ := hA.form
  have HR := Lib.hid hR
  have HA := Lib.hid hA
  have HC := Lib.hid hC
  have HCR := Lib.hid hcr
  clear hR hA hC hcr
  by_cases hbig : 2000 < b.length ∨ 60 < cs.length
  · go_enter Tryd.func5, Tryd.ntmps5
    go_wp2_with fail
    refine (awake_any w HR.out).mono ?_
    rintro e w1 ⟨rfl, hF1⟩
    have HF1 := Lib.hid hF1
    clear hF1
    by_cases h1 : 2000 < b.length
    · go_wp2
      go_ret
      exact ⟨rfl, HF1.out⟩
    · have h2 : 60 < cs.length := by omega
      clear hbig
      go_wp2
      go_ret
      exact ⟨rfl, HF1.out⟩
  · have h1 : ¬ 2000 < b.length := by omega
    have h2 : ¬ 60 < cs.length := by omega
    clear hbig
    go_enter Tryd.func5, Tryd.ntmps5
    go_wp2_with fail
    refine (awake_any w HR.out).mono ?_
    rintro e w1 ⟨rfl, hF1⟩
    have HF1 := Lib.hid hF1
    clear hF1
    go_wp2_with fail
    refine (made w w1 HF1.out).mono ?_
    rintro e w2 ⟨g, rfl, hg, hM, hF2⟩
    have HM2 := Lib.hid hM
    have HF2 : Hid (Fr0 w w2) := Lib.hid (HF1.out.trans' hF2)
    clear hM hF2 hg
    go_wp2_with fail
    refine (made w w2 HF2.out).mono ?_
    rintro e w3 ⟨g2, rfl, hg2, hN, hF3⟩
    have hgg : g < g2 := Nat.lt_of_lt_of_le HM2.out.at_.lt hg2
    have HM3 := Lib.hid (HM2.out.fr0 hF3)
    have HN3 := Lib.hid hN
    have HF3 : Hid (Fr0 w w3) := Lib.hid (HF2.out.trans' hF3)
    have HG2 : Hid (g2 < w3.heap.size) := Lib.hid hN.at_.lt
    clear hN hF3 hg2 HM2
    have hfd := fed_any w w3 g none [] false b _ HM3.out HF3.out HR.out (by omega) (HA.out.fr0 HF3.out) (HM3.out.old HA.out)
    unfold ptr at *
    go_wp2_with fail
    refine hfd.mono ?_
    clear hfd
    rintro e w4 ⟨v4, q4, rfl, hM4, hQ4, hP4, hf4, hF4⟩
    -- cutter g, its pieces and its bytes don't lie in g2
    have HV4 : Hid (∀ k, V g q4 k → k ≠ g2) := Lib.hid (fun k hk e => by
      subst e
      rcases hk with hk | hk
      · omega
      · rcases hQ4 with rfl | hq
        · cases hk
        · have := hq _ hk; have := HG2.out; omega)
    have HN4 : Hid (Mine w w4 g2 none [] false) := Lib.hid (HN3.out.fr hf4 (fun k hk e => by
      rcases hk with rfl | hk
      · rcases e with e | e
        · omega
        · cases e
      · cases hk))
    have HP4 : Hid (Pieces w4 (fun k => k = g2) v4 (feed [] false b).l) := Lib.hid (hP4.keep (Fr.refl (fun _ => False) w4) (fun _ _ f => f.elim) (fun k _ e => by subst e; exact .inl HG2.out))
    have HM4 := Lib.hid hM4
    have HF4 := Lib.hid hF4
    obtain ⟨A4, C4, rfl⟩ := hP4.form
    clear hM4 hQ4 hP4 hf4 hF4 HM3 HN3
    have hwl := feed_le b b.length (by omega)
    rw [List.take_length] at hwl
    have hS0 : ∃ S, S = feed [] false b := ⟨_, rfl⟩
    obtain ⟨⟨W, wt1, d1⟩, hS⟩ := hS0
    rw [← hS] at HM4 HP4 hwl ⊢
    simp only at HM4 HP4 hwl ⊢
    have HS := Lib.hid hS
    clear hS
    have HG4 : Hid (Gath w4 w4 g2 none (.slice none 0 0) [] []) := Lib.hid (Gath.start w4 g2 HN4.out.at_.lt)
    have hcl : ¬ 60 < cs.length := h2
    go_wp2_with fail
    go_loopg [8, 9, 10] cs.length (fun kx vp vf vi wr => ∃ (j f : Nat) (acc : List Pc) (wt : List UInt8) (d : Bool) (q : Option Nat) (X : List (Value × Int)) (Ap : Option Addr) (Cp : Nat), vi = .int .i64 (j : Int) ∧ vf = .int .i64 (f : Int) ∧ vp = .slice Ap acc.length Cp ∧ j ≤ cs.length ∧ f ≤ b.length ∧ cs.length - j ≤ kx ∧ Hid (feed [] false (b.take f) = ⟨acc, wt, d⟩) ∧ Hid (Mine w wr g2 q wt d) ∧ Hid (Gath w4 wr g2 q (.slice Ap acc.length Cp) acc X))
    case atStart => exact ⟨0, 0, [], [], false, none, [], none, 0, rfl, rfl, rfl, Nat.zero_le _, Nat.zero_le _, by omega, Lib.hid rfl, HN4, HG4⟩
    case round =>
      clear HN4 HG4
      obtain ⟨j, f, acc, wt, d, q, X, Ap, Cp, rfl, rfl, rfl, hj, hf, hk, HE, HM, HG⟩ := hrel
      have HF : Hid (Fr0 w wr) := Lib.hid (HF4.out.trans HG.out.fr (fun i hi e => by have := HM.out.g0; omega))
      by_cases hlt : j < cs.length
      · obtain ⟨pb, po, rfl, hpc⟩ := ints_at HC.out j hlt
        have c0 := hpc wr HF.out
        have i1 : (j : Int) < (cs.length : Int) := by omega
        have i2 : 0 ≤ (j : Int) := by omega
        have HPC := Lib.hid hpc
        clear hpc
        have hnr := HCR.out (cs.getD j 0) (by rw [List.getD_eq_getElem?_getD, List.getElem?_eq_getElem hlt]; exact List.getElem_mem hlt)
        generalize cs.getD j 0 = n at *
        by_cases ha : n < (f : Int)
        · go_wp2
          go_roundg (cs.length - (j + 1))
          case measure => omega
          case rel => exact ⟨j + 1, f, acc, wt, d, q, X, Ap, Cp, by simp, rfl, rfl, by omega, by omega, by omega, HE, HM, HG⟩
        · by_cases hbb : (b.length : Int) < n
          · go_wp2
            go_roundg (cs.length - (j + 1))
            case measure => omega
            case rel => exact ⟨j + 1, f, acc, wt, d, q, X, Ap, Cp, by simp, rfl, rfl, by omega, by omega, by omega, HE, HM, HG⟩
          · obtain ⟨m, rfl⟩ := Int.eq_ofNat_of_zero_le (show 0 ≤ n by omega)
            have hfm : f ≤ m := by omega
            have hmb : m ≤ b.length := by omega
            obtain ⟨A5, r5, b5, k5⟩ := cut_bytes (P := Tryd.prog) 23 5 Tryd.underlying23 (by kernel_rfl) HA.out f m hfm hmb (f : Int) (m : Int) rfl rfl
            have hE := feed_on HE.out hfm
            have hll := feed_le b m (by omega)
            have hxl : ((b.drop f).take (m - f)).length ≤ 2000 := by rw [List.length_take, List.length_drop]; omega
            have hle : ((b.drop f).take (m - f)).length = m - f := by rw [List.length_take, List.length_drop]; omega
            generalize (b.drop f).take (m - f) = x at *
            have hfd := fed_any w wr g2 q wt d x _ HM.out HF.out HR.out (by omega) (b5.fr0 HF.out) (HM.out.old b5)
            unfold ptr at hfd
            have HHE := Lib.hid hE
            clear hE b5 k5
            go_wp2_with fail
            refine hfd.mono ?_
            clear hfd
            rintro e w5 ⟨v5, q5, rfl, hM5, hQ5, hP5, hf5, hF5⟩
            have hvb : ∀ k, (Value.slice Ap acc.length Cp).ownBlock = some k → k < wr.heap.size := fun k hk => (HG.out.row.lt k hk).2
            have hws : w4.heap.size ≤ wr.heap.size := HG.out.fr.size
            have hGf := HG.out.fed HM.out.at_ hf5 hQ5
            obtain ⟨Y, hY, hV, _⟩ := hP5
            have HE' := HHE.out
            rw [HE'] at hll
            simp only [List.length_append] at hll
            have hL5 : (feed wt d x).l.length ≤ 2517 := by omega
            have HM5 := Lib.hid hM5
            have HF5 := Lib.hid hF5
            have HGF := Lib.hid hGf
            have HY := Lib.hid hY
            have HVV := Lib.hid hV
            have HHY := Lib.hid hY.1
            have HVB := Lib.hid hvb
            have HWS := Lib.hid hws
            clear hM5 hQ5 hf5 hF5 hGf hY hV hvb hws HM HG HF HE'
            generalize feed wt d x = S5 at *
            obtain ⟨L5, wt5, d5⟩ := S5
            simp only at *
            have hkl := kcells_length Y
            go_wp2_with (refine wpList_append_valsM rfl (.tmp 48) (.tmp 57) 29 rfl w4.heap.size 33 Tryd.underlying29 (.agg #[.slice none 0 0, .int .i64 0]) 2 32 infoPc rfl (by decide) _ _ acc.length L5.length (kcells X) (kcells Y) rfl rfl HGF.out.row HVV.out (by rw [hkl, HHY.out]) (kcells_one HY.out) (by unfold maxLen; omega) (by omega) HGF.out.fr.size ?_)
            intro v6 w6 hO6 hG6 hN6
            have hGM := HGF.out.more HY.out HWS.out HVB.out hO6 hG6 hN6
            obtain ⟨A6, C6, rfl, _⟩ := owns_form hO6
            have hM6 : Mine w w6 g2 q5 wt5 d5 := HM5.out.fr (Fr.of_grown (S := fun k => (Value.slice Ap acc.length Cp).ownBlock = some k) hG6 (fun k _ e => e)) (fun k hk e => by
              rcases hk with rfl | hk
              · have := (HGF.out.row.lt _ e).1; have := HGF.out.g0; omega
              · exact gath_ne HM5.out.at_ HGF.out.row k e hk)
            have HM6 := Lib.hid hM6
            have HGM := Lib.hid hGM
            have hal : (acc ++ L5).length = acc.length + L5.length := List.length_append
            clear hM6 hGM hO6 hG6 hN6
            have c6 := HPC.out w6 (HF4.out.trans HGM.out.fr (fun i hi e => by have := HM6.out.g0; omega))
            clear c0
            go_wp2
            go_roundg (cs.length - (j + 1))
            case measure => omega
            case rel => exact ⟨j + 1, m, acc ++ L5, wt5, d5, q5, X ++ Y, A6, C6, by simp, rfl, by rw [hal], by omega, by omega, by omega, HHE, HM6, by rw [hal]; exact HGM⟩
      · obtain rfl : j = cs.length := by omega
        obtain ⟨A5, C5, b5, r5, k5⟩ := cut_lo_b (P := Tryd.prog) 23 5 Tryd.underlying23 (by kernel_rfl) HA.out f hf (f : Int) rfl
        have hE := feed_on HE.out hf
        rw [List.take_length] at hE
        have hx5 : (b.drop f).take (b.length - f) = b.drop f := List.take_of_length_le (by rw [List.length_drop]; omega)
        rw [hx5] at hE
        have hxl : (b.drop f).length ≤ 2000 := by rw [List.length_drop]; omega
        have hle : (b.drop f).length = b.length - f := by rw [List.length_drop]
        generalize b.drop f = x at *
        have hfd := fed_any w wr g2 q wt d x _ HM.out HF.out HR.out (by omega) (b5.fr0 HF.out) (HM.out.old b5)
        unfold ptr at hfd
        have hE' := HS.out.trans hE
        simp only [St.mk.injEq] at hE'
        have HHE := Lib.hid hE'
        clear hE b5 k5 hE' hx5
        go_wp2_with fail
        refine hfd.mono ?_
        clear hfd
        rintro e w5 ⟨v5, q5, rfl, hM5, hQ5, hP5, hf5, hF5⟩
        have hvb : ∀ k, (Value.slice Ap acc.length Cp).ownBlock = some k → k < wr.heap.size := fun k hk => (HG.out.row.lt k hk).2
        have hws : w4.heap.size ≤ wr.heap.size := HG.out.fr.size
        have hGf := HG.out.fed HM.out.at_ hf5 hQ5
        obtain ⟨Y, hY, hV, _⟩ := hP5
        have HM5 := Lib.hid hM5
        have HGF := Lib.hid hGf
        have HY := Lib.hid hY
        have HVV := Lib.hid hV
        have HHY := Lib.hid hY.1
        have HVB := Lib.hid hvb
        have HWS := Lib.hid hws
        clear hM5 hQ5 hf5 hF5 hGf hY hV hvb hws HM HG HF
        generalize feed wt d x = S5 at *
        obtain ⟨L5, wt5, d5⟩ := S5
        simp only at *
        obtain ⟨hW, rfl, rfl⟩ := HHE.out
        have hWl : W.length = acc.length + L5.length := by rw [hW, List.length_append]
        have HW := Lib.hid hW
        clear hW HHE
        have hkl := kcells_length Y
        go_wp2_with (refine wpList_append_valsM rfl (.tmp 63) (.tmp 68) 29 rfl w4.heap.size 33 Tryd.underlying29 (.agg #[.slice none 0 0, .int .i64 0]) 2 32 infoPc rfl (by decide) _ _ acc.length L5.length (kcells X) (kcells Y) rfl rfl HGF.out.row HVV.out (by rw [hkl, HHY.out]) (kcells_one HY.out) (by unfold maxLen; omega) (by omega) HGF.out.fr.size ?_)
        intro v6 w6 hO6 hG6 hN6
        have hGM := HGF.out.more HY.out HWS.out HVB.out hO6 hG6 hN6
        obtain ⟨A6, C6, rfl, _⟩ := owns_form hO6
        have hM6 : Mine w w6 g2 q5 wt1 d1 := HM5.out.fr (Fr.of_grown (S := fun k => (Value.slice Ap acc.length Cp).ownBlock = some k) hG6 (fun k _ e => e)) (fun k hk e => by
          rcases hk with rfl | hk
          · have := (HGF.out.row.lt _ e).1; have := HGF.out.g0; omega
          · exact gath_ne HM5.out.at_ HGF.out.row k e hk)
        have hF6 : Fr0 w w6 := HF4.out.trans hGM.fr (fun i hi e => by have := hM6.g0; omega)
        have hC1 : Mine w w6 g q4 wt1 d1 := HM4.out.fr hGM.fr (fun k hk e => HV4.out k hk e)
        have hP6 : Pieces w6 (fun _ => False) (.slice A4 W.length C4) W := HP4.out.keep hGM.fr (fun k _ e => e) (fun _ _ f => f.elim)
        have hP7 : Pieces w6 (fun _ => False) (.slice A6 W.length C6) W := by
          rw [hWl]
          have := hGM.pieces
          rw [← HW.out] at this
          exact this.keep (Fr.refl (fun _ => False) w6) (fun _ _ f => f.elim) (fun _ _ f => f.elim)
        rw [← hWl]
        have HF6 := Lib.hid hF6
        have HP6 := Lib.hid hP6
        have HP7 := Lib.hid hP7
        have hwa := waits_any g q4 wt1 d1 w6 hC1.at_
        have hwb := waits_any g2 q5 wt1 d1 w6 hM6.at_
        have hda := dead_any g q4 wt1 d1 w6 hC1.at_
        have hdb := dead_any g2 q5 wt1 d1 w6 hM6.at_
        unfold ptr at hwa hwb hda hdb
        clear hM6 hF6 hC1 hP6 hP7 hO6 hG6 hN6 hGM hWl hkl
        go_wp2_with fail
        refine hwa.mono ?_
        clear hwa
        rintro e w7 ⟨rfl, rfl⟩
        go_wp2_with fail
        refine hwb.mono ?_
        clear hwb
        rintro e w7 ⟨rfl, rfl⟩
        go_wp2_with fail
        refine hda.mono ?_
        clear hda
        rintro e w7 ⟨rfl, rfl⟩
        go_wp2_with fail
        refine hdb.mono ?_
        clear hdb
        rintro e w7 ⟨rfl, rfl⟩
        have hWn : W.length ≤ 2517 := hwl
        go_wp2_with fail
        go_loopg [11] W.length (fun kx vi wr => ∃ i : Nat, vi = .int .i64 (i : Int) ∧ i ≤ W.length ∧ W.length - i ≤ kx ∧ Hid (Fr0 w6 wr))
        case atStart => exact ⟨0, rfl, Nat.zero_le _, by omega, Lib.hid (Fr.refl _ _)⟩
        case round =>
          obtain ⟨i, rfl, hi, hk2, HFR⟩ := hrel
          by_cases hil : i < W.length
          · obtain ⟨pb, po, rfl, hat⟩ := (HP6.out.fr0 HFR.out).at.2 (by omega)
            obtain ⟨sv, k0, k1, hb1, _⟩ := hat i hil
            obtain ⟨pb', po', rfl, hat'⟩ := (HP7.out.fr0 HFR.out).at.2 (by omega)
            obtain ⟨sv', k0', k1', hb2, _⟩ := hat' i hil
            have i1 : (i : Int) < (W.length : Int) := by omega
            have i2 : 0 ≤ (i : Int) := by omega
            have hcv1 := fun nq : Nat => (hb1.fr0 ((Fr.refl _ wr).drewN nq)).convert (P := Tryd.prog) 23 9 5 Tryd.underlying23 Tryd.underlying5 Tryd.underlying9
            have hcv2 := fun nq : Nat => (hb2.fr0 ((Fr.refl _ wr).drewN nq)).convert (P := Tryd.prog) 23 9 5 Tryd.underlying23 Tryd.underlying5 Tryd.underlying9
            clear hb1 hb2 hat hat'
            generalize W[i].e = en at *
            generalize (⟨W[i].b.toArray⟩ : ByteArray) = st at *
            go_wp2
            go_quiet (fail)
            go_wp2
            have HFR2 := Lib.hid (HFR.out.drewN nq)
            generalize wr.drewN nq = w9 at *
            go_roundg (W.length - (i + 1))
            case measure => omega
            case rel => exact ⟨i + 1, by simp, by omega, by omega, HFR2⟩
          · obtain rfl : i = W.length := by omega
            go_wp2
            go_ret
            exact ⟨rfl, HF6.out.trans' HFR.out⟩
end Go.Proofs.YtggdpmfghbnhcaaDoor.Frame
