/-
  FramePlays: any bytes, in any parts: which pieces come is as the reference says: the walk.
-/
import Derived.Test.YtggdpmfghbnhcaaDoorFrameSame
import Derived.Test.YtggdpmfghbnhcaaDoorLawB
import Derived.Test.YtggdpmfghbnhcaaDoorMix
namespace Go.Proofs.YtggdpmfghbnhcaaDoor.Frame
open Go.RowKit Base Pack Crc

/-- the two cutters lie apart -/
def Aloof (g : Nat) (q1 : Option Nat) (g2 : Nat) (q2 : Option Nat) (l : List UInt8) : Prop := ¬ V g q1 g2 ∧ (0 < l.length → ∀ k, q2 = some k → ¬ V g q1 k)
set_option maxRecDepth 100000 in
set_option maxHeartbeats 4000000 in
theorem framePlays_walk (v0 : Value) (ps : List (List UInt8)) (w : World) (hv : ∃ a c, v0 = .slice a ps.length c) (hm : ps.length ≤ 9223372036854775807) (hp : ps.length ≤ 1152921504606846976 → PartsIs w v0 ps) (hlen : ∀ p ∈ ps, p.length ≤ 9223372036854775807) (hR : Rests w) :
    Calls Tryd.prog 4 #[v0] w fun e w' => e = .returned (.bool true) ∧ Fr0 w w' := by
  obtain ⟨a1, cap1, rfl⟩ := hv
  have HR := Lib.hid hR
  have HP := Lib.hid hp
  have HLEN := Lib.hid hlen
  clear hR hp hlen
  by_cases h2 : 40 < ps.length
  · go_enter Tryd.func4, Tryd.ntmps4
    go_wp2_with fail
    refine (awake_any w HR.out).mono ?_
    rintro e w1 ⟨rfl, hF1⟩
    have HF1 := Lib.hid hF1
    clear hF1
    go_wp2
    go_ret
    exact ⟨rfl, HF1.out⟩
  · have HPS := Lib.hid (HP.out (by omega))
    clear HP
    go_enter Tryd.func4, Tryd.ntmps4
    go_wp2_with fail
    refine (awake_any w HR.out).mono ?_
    rintro e w1 ⟨rfl, hF1⟩
    have HF1 := Lib.hid hF1
    clear hF1
    go_wp2_with fail
    refine (made w w1 HF1.out).mono ?_
    rintro e w2 ⟨g, rfl, hg, hM, hF2⟩
    have HM2 : Hid (Mine w (w2.alloc (.cells #[.slice none 0 0, .bool false] 37)) g none [] false) := Lib.hid (hM.fr0 ((Fr.refl _ _).alloc _))
    have HF2 : Hid (Fr0 w (w2.alloc (.cells #[.slice none 0 0, .bool false] 37))) := Lib.hid ((HF1.out.trans' hF2).alloc _)
    have HA2 : Hid (RefAt (w2.alloc (.cells #[.slice none 0 0, .bool false] 37)) w2.heap.size none [] false) := Lib.hid ⟨.slice none 0 0, rfl, rowIs_new w2 _ _ 2 _ rfl (fun i hi => by
      match i, hi with
      | 0, _ => rfl
      | 1, _ => rfl), BytesIs.nil _⟩
    have HL2 : Hid (Aloof g none w2.heap.size none []) := Lib.hid ⟨fun e => (by
      rcases e with e | e
      · have := hM.at_.lt; omega
      · cases e), fun h => absurd h (by simp)⟩
    have hg2 : w.heap.size ≤ w2.heap.size := (HF1.out.trans' hF2).size
    clear hM hF2 hg
    unfold ptr at *
    go_wp2_with fail
    generalize w2.alloc (.cells #[.slice none 0 0, .bool false] 37) = w3 at *
    generalize w2.heap.size = g2 at *
    go_loopg [5] ps.length (fun kx vi wr => ∃ (j : Nat) (wt : List UInt8) (d : Bool) (q1 q2 : Option Nat), vi = .int .i64 (j : Int) ∧ j ≤ ps.length ∧ ps.length - j ≤ kx ∧ Hid (Mine w wr g q1 wt d) ∧ Hid (RefAt wr g2 q2 wt d) ∧ Hid (Aloof g q1 g2 q2 wt) ∧ Hid (Fr0 w wr))
    case atStart => exact ⟨0, [], false, none, none, rfl, Nat.zero_le _, by omega, HM2, HA2, HL2, HF2⟩
    case round =>
      clear HM2 HA2 HL2 HF2
      obtain ⟨j, wt, d, q1, q2, rfl, hj, hk, HM, HA, HL, HF⟩ := hrel
      by_cases hlt : j < ps.length
      · obtain ⟨pb, po, sa, sc, rfl, hpc, hB0⟩ := parts_at HPS.out j hlt
        have c0 := hpc wr HF.out
        have HPC := Lib.hid hpc
        have hpl := HLEN.out (ps.getD j []) (by simp [hlt])
        have i1 : (j : Int) < (ps.length : Int) := by omega
        have i2 : 0 ≤ (j : Int) := by omega
        have HB0 := Lib.hid hB0
        clear hpc hB0
        generalize ps.getD j [] = p at *
        by_cases h15 : 1500 < p.length
        · go_wp2
          go_ret
          exact ⟨rfl, HF.out⟩
        · have hput := put_any _ p hpl wr (HB0.out.fr0 HF.out) (HR.out.fr HF.out (fun f => f))
          go_wp2_with fail
          refine hput.mono ?_
          clear hput
          rintro e w4 ⟨v4, rfl, hB4, hF4⟩
          have c4 := HPC.out w4 (HF.out.trans' hF4)
          have hrf := refFrame_any _ p hpl w4 (HB0.out.fr0 (HF.out.trans' hF4))
          clear c0
          go_wp2_with fail
          refine hrf.mono ?_
          clear hrf
          rintro e w5 ⟨v5, rfl, hB5, hF5⟩
          have hF6 : Fr0 wr w5.drew := (hF4.trans' hF5).drew
          have HF6 := Lib.hid hF6
          have HFW : Hid (Fr0 w w5.drew) := Lib.hid (HF.out.trans' hF6)
          have HM6 := Lib.hid (HM.out.fr0 hF6)
          have HA6 := Lib.hid (HA.out.fr0 hF6)
          have hcv1 := (hB4.fr0 hF5.drew).convert (P := Tryd.prog) 23 9 5 Tryd.underlying23 Tryd.underlying5 Tryd.underlying9
          have hcv2 := (hB5.fr0 (Fr.refl _ w5).drew).convert (P := Tryd.prog) 23 9 5 Tryd.underlying23 Tryd.underlying5 Tryd.underlying9
          have c6 := HPC.out w5.drew HFW.out
          clear hB4 hF4 hB5 hF5 hF6 c4 HM HA HF
          generalize (⟨(putOut p).toArray⟩ : ByteArray) = st at *
          generalize putErr p = er at *
          have hfd := fed_any w w5.drew g q1 wt d p _ HM6.out HFW.out HR.out (by omega) (HB0.out.fr0 HFW.out) (HM6.out.old HB0.out)
          unfold ptr at hfd
          go_wp2
          refine Mix.law (fun W => W.cell? ⟨pb, po + j, none⟩ = some (.slice sa p.length sc)) [(.sure, 0), (.look, 1), (.sure, 2), (.look, 3), (.sure, 4), (.sure, 5), (.sure, 6), (.sure, 7), (.sure, 8), (.sure, 9), (.sure, 10), (.sure, 11), (.sure, 12), (.sure, 13), (.sure, 14), (.sure, 15), (.sure, 17), (.sure, 18), (.sure, 19), (.sure, 20), (.sure, 21), (.turn, 16), (.turn, 22), (.turn, 23), (.sure, 24), (.sure, 25), (.sure, 26), (.sure, 27), (.look, 28), (.sure, 29), (.sure, 30), (.sure, 31), (.look, 32), (.sure, 33), (.sure, 34), (.sure, 35), (.sure, 36), (.look, 37), (.sure, 38), (.sure, 39), (.sure, 40), (.look, 41), (.sure, 42), (.sure, 43), (.sure, 44)] (by kernel_rfl) (by kernel_rfl) c6 ?_
          simp only [List.map_cons, List.map_nil, Mix.nth_zero, Mix.nth_succ]
          repeat (first
            | (refine Mix.go_skipS (by exact Mix.wanted_no rfl rfl rfl rfl) ?_; go_frame)
            | (refine Mix.go_skipL (by exact Mix.wanted_no rfl rfl rfl rfl) ?_; go_frame)
            | (refine Mix.go_move (by first | exact Mix.wanted_none rfl | exact Mix.wanted_yes rfl rfl rfl) _ rfl _ (by first | (go_simp; done) | (go_simp; rfl)) ?_; go_frame)
            | (refine Mix.go_assign (by first | exact Mix.wanted_none rfl | exact Mix.wanted_yes rfl rfl rfl) _ rfl _ (by first | (go_simp; done) | (go_simp; rfl)) ?_; go_frame)
            | (refine Mix.go_sureW (by first | exact Mix.wanted_none rfl | exact Mix.wanted_yes rfl rfl rfl) _ (by rfl) (by rfl) _ (fun w' hC' => by go_wp2_with fail; refine Mix.stays ?_; go_frame; rfl) ?_; go_frame)
            | (refine Mix.go_lookW (by first | exact Mix.wanted_none rfl | exact Mix.wanted_yes rfl rfl rfl) _ (by rfl) (by rfl) _ (by go_wp2_with fail; refine Mix.stays ?_; go_frame; rfl) ?_; go_frame))
          refine Mix.go_turn ?_
          go_wp2_with fail
          refine hfd.mono ?_
          clear hfd
          rintro e w7 ⟨v7, q7, rfl, hM7, hQ7, hP7, hf7, hF7⟩
          have hg26 := HA6.out.lt
          have hv7 : ¬ V g q7 g2 := fun e => by
            rcases e with e | e
            · exact HL.out.1 (.inl e)
            · rcases hQ7 with rfl | hq
              · exact HL.out.1 (.inr e)
              · have := hq _ e; omega
          have hw7 : 0 < wt.length → ∀ k, q2 = some k → ¬ V g q7 k := fun h0 k hk e => by
            have hk6 := HA6.out.q_lt h0 k hk
            rcases e with e | e
            · exact HL.out.2 h0 k hk (.inl e)
            · rcases hQ7 with rfl | hq
              · exact HL.out.2 h0 k hk (.inr e)
              · have := hq _ e; omega
          have hA7 : RefAt w7 g2 q2 wt d := HA6.out.frB hf7 HL.out.1 HL.out.2
          have c7 := HPC.out w7 hF7
          have hrf := rfed_any g2 q2 wt d p _ w7 HM6.out.ok hA7 (by omega) (HB0.out.fr0 hF7)
          have HM7 := Lib.hid hM7
          have HF7 := Lib.hid hF7
          have HP7 := Lib.hid hP7
          have HV7 := Lib.hid hv7
          have HCN := Lib.hid (feed_count wt d p HM6.out.ok)
          have HWT := Lib.hid HM6.out.ok.le
          unfold ptr at hrf
          clear hM7 hQ7 hP7 hf7 hF7 hA7 hv7 hw7 HM6 HL
          go_wp2
          refine Mix.then_go c7 ?_
          refine Mix.go_turn ?_
          go_wp2_with fail
          refine hrf.mono ?_
          clear hrf
          rintro e w8 ⟨v8, q8, rfl, hA8, hN8, hP8, hf8⟩
          have hF8 : Fr0 w w8 := HF7.out.trans hf8 (fun k hk e => by have e' : k = g2 := e; omega)
          have c8 := HPC.out w8 hF8
          have hM8 : Mine w w8 g q7 (feed wt d p).w (feed wt d p).d := HM7.out.fr hf8 (fun k hk e => by have e' : k = g2 := e; subst e'; exact HV7.out hk)
          have hP78 := HP7.out.keep (U := fun _ => False) hf8 (fun k _ e => .inl (by have e' : k = g2 := e; omega)) (fun _ _ f => f.elim)
          have hL8 : Aloof g q7 g2 q8 (feed wt d p).w := ⟨HV7.out, fun h0 k hk e => by
            rcases hN8 with h | h
            · rw [h] at h0; exact absurd h0 (by simp)
            · have := h k hk; have := HM7.out.at_.v_lt k e; omega⟩
          have hsm := same_any v7 v8 _ _ _ w8 (by have := HCN.out; omega) hP78 hP8
          have HA8 := Lib.hid hA8
          have HM8 := Lib.hid hM8
          have HF8 := Lib.hid hF8
          have HL8 := Lib.hid hL8
          clear hA8 hN8 hP8 hf8 hF8 hM8 hP78 hL8 HM7 HP7 HV7 HCN c7
          generalize feed wt d p = S at *
          obtain ⟨L, wt8, d8⟩ := S
          simp only at *
          go_wp2
          refine Mix.then_go c8 ?_
          refine Mix.go_turn ?_
          go_wp2_with fail
          refine hsm.mono ?_
          clear hsm
          rintro e w9 ⟨rfl, hF9⟩
          have HA9 := Lib.hid (HA8.out.fr0 hF9)
          have HM9 := Lib.hid (HM8.out.fr0 hF9)
          have HF9 := Lib.hid (HF8.out.trans' hF9)
          have c9 := HPC.out w9 HF9.out
          obtain ⟨sv, hsq, hrow, hb9⟩ := HA9.out
          have k0 : w9.cell? ⟨g2, 0, none⟩ = some sv := hrow.cell (i := 0) (by decide)
          have k1 : w9.cell? ⟨g2, 1, none⟩ = some (.bool d8) := hrow.cell (i := 1) (by decide)
          obtain ⟨A9, C9, rfl⟩ := hb9.form
          have hdd := dead_any g q7 wt8 d8 w9 HM9.out.at_
          have hww := waits_any g q7 wt8 d8 w9 HM9.out.at_
          unfold ptr at hdd hww
          clear hF9 HA8 HM8 HF8 hsq hrow hb9 c8 c6
          go_wp2
          refine Mix.then_go c9 ?_
          repeat (first
            | (refine Mix.go_skipS (by exact Mix.wanted_no rfl rfl rfl rfl) ?_; go_frame)
            | (refine Mix.go_skipL (by exact Mix.wanted_no rfl rfl rfl rfl) ?_; go_frame)
            | (refine Mix.go_move (by first | exact Mix.wanted_none rfl | exact Mix.wanted_yes rfl rfl rfl) _ rfl _ (by first | (go_simp; done) | (go_simp; rfl)) ?_; go_frame)
            | (refine Mix.go_assign (by first | exact Mix.wanted_none rfl | exact Mix.wanted_yes rfl rfl rfl) _ rfl _ (by first | (go_simp; done) | (go_simp; rfl)) ?_; go_frame)
            | (refine Mix.go_sureW (by first | exact Mix.wanted_none rfl | exact Mix.wanted_yes rfl rfl rfl) _ (by rfl) (by rfl) _ (fun w' hC' => by go_wp2_with fail; refine Mix.stays ?_; go_frame; rfl) ?_; go_frame)
            | (refine Mix.go_lookW (by first | exact Mix.wanted_none rfl | exact Mix.wanted_yes rfl rfl rfl) _ (by rfl) (by rfl) _ (by go_wp2_with fail; refine Mix.stays ?_; go_frame; rfl) ?_; go_frame))
          refine Mix.go_lookW (by first | exact Mix.wanted_none rfl | exact Mix.wanted_yes rfl rfl rfl) _ (by rfl) (by rfl) _ (by go_wp2_with fail; refine hdd.mono ?_; rintro e w1 ⟨rfl, rfl⟩; go_wp2; refine Mix.stays ?_; go_frame; rfl) ?_
          go_frame
          repeat (first
            | (refine Mix.go_skipS (by exact Mix.wanted_no rfl rfl rfl rfl) ?_; go_frame)
            | (refine Mix.go_skipL (by exact Mix.wanted_no rfl rfl rfl rfl) ?_; go_frame)
            | (refine Mix.go_move (by first | exact Mix.wanted_none rfl | exact Mix.wanted_yes rfl rfl rfl) _ rfl _ (by first | (go_simp; done) | (go_simp; rfl)) ?_; go_frame)
            | (refine Mix.go_assign (by first | exact Mix.wanted_none rfl | exact Mix.wanted_yes rfl rfl rfl) _ rfl _ (by first | (go_simp; done) | (go_simp; rfl)) ?_; go_frame)
            | (refine Mix.go_sureW (by first | exact Mix.wanted_none rfl | exact Mix.wanted_yes rfl rfl rfl) _ (by rfl) (by rfl) _ (fun w' hC' => by go_wp2_with fail; refine Mix.stays ?_; go_frame; rfl) ?_; go_frame)
            | (refine Mix.go_lookW (by first | exact Mix.wanted_none rfl | exact Mix.wanted_yes rfl rfl rfl) _ (by rfl) (by rfl) _ (by go_wp2_with fail; refine Mix.stays ?_; go_frame; rfl) ?_; go_frame))
          refine Mix.go_lookW (by first | exact Mix.wanted_none rfl | exact Mix.wanted_yes rfl rfl rfl) _ (by rfl) (by rfl) _ (by go_wp2_with fail; refine hww.mono ?_; rintro e w1 ⟨rfl, rfl⟩; go_wp2; refine Mix.stays ?_; go_frame; rfl) ?_
          go_frame
          repeat (first
            | (refine Mix.go_skipS (by exact Mix.wanted_no rfl rfl rfl rfl) ?_; go_frame)
            | (refine Mix.go_skipL (by exact Mix.wanted_no rfl rfl rfl rfl) ?_; go_frame)
            | (refine Mix.go_move (by first | exact Mix.wanted_none rfl | exact Mix.wanted_yes rfl rfl rfl) _ rfl _ (by first | (go_simp; done) | (go_simp; rfl)) ?_; go_frame)
            | (refine Mix.go_assign (by first | exact Mix.wanted_none rfl | exact Mix.wanted_yes rfl rfl rfl) _ rfl _ (by first | (go_simp; done) | (go_simp; rfl)) ?_; go_frame)
            | (refine Mix.go_sureW (by first | exact Mix.wanted_none rfl | exact Mix.wanted_yes rfl rfl rfl) _ (by rfl) (by rfl) _ (fun w' hC' => by go_wp2_with fail; refine Mix.stays ?_; go_frame; rfl) ?_; go_frame)
            | (refine Mix.go_lookW (by first | exact Mix.wanted_none rfl | exact Mix.wanted_yes rfl rfl rfl) _ (by rfl) (by rfl) _ (by go_wp2_with fail; refine Mix.stays ?_; go_frame; rfl) ?_; go_frame))
          refine Mix.go_end ?_
          go_wp2
          go_roundg (ps.length - (j + 1))
          case measure => omega
          case rel => exact ⟨j + 1, wt8, d8, q7, q8, by simp, by omega, by omega, HM9, HA9, HL8, HF9⟩
      · obtain rfl : j = ps.length := by omega
        go_wp2
        go_ret
        exact ⟨rfl, HF.out⟩
end Go.Proofs.YtggdpmfghbnhcaaDoor.Frame
