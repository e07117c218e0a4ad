/-
  FrameDead: once it has given up nothing comes any more: the walk.
-/
import Derived.Test.YtggdpmfghbnhcaaDoorFrameAwake
import Derived.Test.YtggdpmfghbnhcaaDoorLawB
namespace Go.Proofs.YtggdpmfghbnhcaaDoor.Frame
open Go.RowKit Base Pack Crc

/-- the last piece tells whether it died -/
theorem cut_last (s : List UInt8) : ((cut s).l = [] → (cut s).d = false) ∧ ∀ i (h : i < (cut s).l.length), i + 1 = (cut s).l.length → ((cut s).l[i].e = 2 ↔ (cut s).d = true) := by
  induction hn : s.length using Nat.strongRecOn generalizing s with
  | ind n ih =>
    by_cases h1 : s.length < 2
    · rw [cut_short h1]; exact ⟨fun _ => rfl, fun i h => absurd h (by simp)⟩
    by_cases h2 : 512 < len2 s
    · rw [cut_dead (by omega) h2]
      refine ⟨(fun h => by cases h), fun i h hi => ?_⟩
      have : i = 0 := by simpa using hi
      subst this
      simp
    by_cases h3 : s.length < len2 s + 6
    · rw [cut_wait (by omega) h3]; exact ⟨fun _ => rfl, fun i h => absurd h (by simp)⟩
    rw [cut_whole (by omega) (by omega)]
    have hr := ih _ (by rw [List.length_drop]; omega) (s.drop (len2 s + 6)) rfl
    generalize cut (s.drop (len2 s + 6)) = r at *
    refine ⟨(fun h => by cases h), fun i h hi => ?_⟩
    cases i with
    | zero =>
      have hl : r.l = [] := List.eq_nil_of_length_eq_zero (by simpa using hi.symm)
      have hd := hr.1 hl
      simp only [List.getElem_cons_zero, hd, Bool.false_eq_true, iff_false]
      unfold judge
      split <;> simp
    | succ i =>
      have := hr.2 i (by simpa using h) (by simpa using hi)
      simpa using this
theorem feed_last (l b : List UInt8) (d : Bool) : ((feed l d b).l = [] ∨ ∃ m, ∃ h : m < (feed l d b).l.length, m + 1 = (feed l d b).l.length ∧ ((feed l d b).l[m].e = 2 ↔ (feed l d b).d = true)) := by
  unfold feed
  cases d with
  | true => exact .inl rfl
  | false =>
    simp only [Bool.false_eq_true, if_false]
    rcases Nat.eq_zero_or_pos (cut (l ++ b)).l.length with h | h
    · exact .inl (List.eq_nil_of_length_eq_zero h)
    · exact .inr ⟨(cut (l ++ b)).l.length - 1, by omega, by omega, (cut_last (l ++ b)).2 _ (by omega) (by omega)⟩
set_option maxRecDepth 100000 in
set_option maxHeartbeats 4000000 in
theorem frameDead_walk (v0 v1 : Value) (a : List UInt8) (ha : a.length ≤ 9223372036854775807) (ps : List (List UInt8)) (w : World) (hA : BytesIs w v0 a) (hv : ∃ a c, v1 = .slice a ps.length c) (hm : ps.length ≤ 9223372036854775807) (hp : ps.length ≤ 1152921504606846976 → PartsIs w v1 ps) (hlen : ∀ p ∈ ps, p.length ≤ 9223372036854775807) (hR : Rests w) :
    Calls Tryd.prog 8 #[v0, v1] w fun e w' => e = .returned (.bool true) ∧ Fr0 w w' := by
  obtain ⟨a1, cap1, rfl⟩ := hv
  obtain ⟨a0, cap0, rfl⟩ := hA.form
  have HR := Lib.hid hR
  have HA := Lib.hid hA
  have HP := Lib.hid hp
  have HLEN := Lib.hid hlen
  clear hR hp hlen hA
  by_cases hbig : 300 < a.length ∨ 20 < ps.length
  · go_enter Tryd.func8, Tryd.ntmps8
    go_wp2_with fail
    refine (awake_any w HR.out).mono ?_
    rintro e w1 ⟨rfl, hF1⟩
    have HF1 := Lib.hid hF1
    clear hF1
    by_cases h1 : 300 < a.length
    · go_wp2
      go_ret
      exact ⟨rfl, HF1.out⟩
    · have h2 : 20 < ps.length := by omega
      clear hbig
      go_wp2
      go_ret
      exact ⟨rfl, HF1.out⟩
  · have h1 : ¬ 300 < a.length := by omega
    have h2 : ¬ 20 < ps.length := by omega
    clear hbig
    have HPS := Lib.hid (HP.out (by omega))
    clear HP
    go_enter Tryd.func8, Tryd.ntmps8
    go_wp2_with fail
    refine (awake_any w HR.out).mono ?_
    rintro e w1 ⟨rfl, hF1⟩
    have HF1 := Lib.hid hF1
    clear hF1
    go_wp2_with fail
    refine (made w w1 HF1.out).mono ?_
    rintro e w2 ⟨g, rfl, hg, hM, hF2⟩
    have HM2 := Lib.hid hM
    have HF2 : Hid (Fr0 w w2) := Lib.hid (HF1.out.trans' hF2)
    clear hM hF2 hg
    have hfd := fed_any w w2 g none [] false a _ HM2.out HF2.out HR.out (by omega) (HA.out.fr0 HF2.out) (HM2.out.old HA.out)
    unfold ptr at *
    go_wp2_with fail
    refine hfd.mono ?_
    clear hfd
    rintro e w3 ⟨v3, q3, rfl, hM3, _, _, _, hF3⟩
    have HM3 := Lib.hid hM3
    have HF3 := Lib.hid hF3
    clear hM3 hF3
    generalize feed [] false a = S at *
    obtain ⟨_, wt, dd⟩ := S
    simp only at *
    have hdd := dead_any g q3 wt dd w3 HM3.out.at_
    unfold ptr at hdd
    go_wp2_with fail
    refine hdd.mono ?_
    clear hdd
    rintro e w4 ⟨rfl, rfl⟩
    go_wp2_with fail
    go_loopg [6, 7] ps.length (fun kx vd vi wr => ∃ (j : Nat) (dd : Bool) (wt : List UInt8) (q : Option Nat), vi = .int .i64 (j : Int) ∧ vd = .bool dd ∧ j ≤ ps.length ∧ ps.length - j ≤ kx ∧ Hid (Mine w wr g q wt dd) ∧ Hid (Fr0 w wr))
    case atStart => exact ⟨0, dd, wt, q3, rfl, rfl, Nat.zero_le _, by omega, HM3, HF3⟩
    case round =>
      clear HM3 HF3
      obtain ⟨j, dd, wt, q, rfl, rfl, hj, hk, HM, HF⟩ := hrel
      by_cases hlt : j < ps.length
      · obtain ⟨pb, po, sa, sc, rfl, hpc, hB0⟩ := parts_at HPS.out j hlt
        have c0 := hpc wr HF.out
        have hB := hB0.fr0 HF.out
        have hpl := HLEN.out (ps.getD j []) (by simp [hlt])
        have i1 : (j : Int) < (ps.length : Int) := by omega
        have i2 : 0 ≤ (j : Int) := by omega
        have HB := Lib.hid hB
        have HB0 := Lib.hid hB0
        clear hpc hB hB0
        generalize ps.getD j [] = p at *
        by_cases h700 : 700 < p.length
        · go_wp2
          go_ret
          exact ⟨rfl, HF.out⟩
        · have hfd := fed_any w wr g q wt dd p _ HM.out HF.out HR.out (by omega) HB.out (HM.out.old HB0.out)
          unfold ptr at hfd
          go_wp2_with fail
          refine hfd.mono ?_
          clear hfd
          rintro e w5 ⟨v5, q5, rfl, hM5, _, hP5, _, hF5⟩
          have HM5 := Lib.hid hM5
          have HF5 := Lib.hid hF5
          have HL := Lib.hid (feed_last wt p dd)
          have hcn := feed_count wt dd p HM.out.ok
          obtain ⟨a5, c5, rfl⟩ := hP5.form
          have HPC := Lib.hid hP5
          clear hM5 hF5 hP5 c0
          cases dd with
          | true =>
            have hF : feed wt true p = ⟨[], [], true⟩ := rfl
            rw [hF] at HM5
            clear HL HPC hF hcn
            rw [show (feed wt true p).l.length = 0 from rfl]
            obtain ⟨wt5, d5, hwd⟩ : ∃ (wt5 : List UInt8) (d5 : Bool), wt5 = [] ∧ d5 = true := ⟨_, _, rfl, rfl⟩
            have hd1 := dead_any g q5 [] true w5 HM5.out.at_
            have hd2 := waits_any g q5 [] true w5 HM5.out.at_
            unfold ptr at hd1 hd2
            go_wp2_with fail
            refine hd1.mono ?_
            clear hd1
            rintro e w6 ⟨rfl, rfl⟩
            go_wp2_with fail
            refine hd2.mono ?_
            clear hd2
            rintro e w7 ⟨rfl, rfl⟩
            go_wp2
            go_quiet (fail)
            have HM9 := Lib.hid (HM5.out.fr0 ((Fr.refl _ w5).drewN nq))
            have HF9 := Lib.hid (HF5.out.drewN nq)
            generalize w5.drewN nq = w9 at *
            obtain ⟨rfl, rfl⟩ := hwd
            have HM9 : Hid (Mine w w9 g q5 [] true) := HM9
            have hd3 := dead_any g q5 [] true w9 HM9.out.at_
            unfold ptr at hd3
            go_wp2_with fail
            refine hd3.mono ?_
            clear hd3
            rintro e w10 ⟨rfl, rfl⟩
            go_wp2
            go_roundg (ps.length - (j + 1))
            case measure => omega
            case rel => exact ⟨j + 1, true, [], q5, by simp, rfl, by omega, by omega, HM9, HF9⟩
          | false =>
            rcases HL.out with hl0 | ⟨m, hm1, hm2, hm3⟩
            · rw [hl0, List.length_nil]
              generalize feed wt false p = S at *
              obtain ⟨_, wt5, d5⟩ := S
              simp only at *
              go_wp2
              go_quiet (fail)
              have HM9 := Lib.hid (HM5.out.fr0 ((Fr.refl _ w5).drewN nq))
              have HF9 := Lib.hid (HF5.out.drewN nq)
              generalize w5.drewN nq = w9 at *
              have hd3 := dead_any g q5 wt5 d5 w9 HM9.out.at_
              unfold ptr at hd3
              go_wp2_with fail
              refine hd3.mono ?_
              clear hd3
              rintro e w10 ⟨rfl, rfl⟩
              go_wp2
              go_roundg (ps.length - (j + 1))
              case measure => omega
              case rel => exact ⟨j + 1, d5, wt5, q5, by simp, rfl, by omega, by omega, HM9, HF9⟩
            · obtain ⟨pb5, po5, hpb, hat⟩ := (HPC.out.at).2 (by omega)
              obtain ⟨sv, hk0, k1, hb1, hb2⟩ := hat m hm1
              clear hk0 hb1 hb2
              generalize feed wt false p = S at *
              obtain ⟨L, wt5, d5⟩ := S
              simp only at *
              generalize L[m].e = en at *
              have hmb : m ≤ 2000 := by omega
              rw [← hm2]
              subst hpb
              clear HL HPC hat hm1 hm2 hcn
              have hdq := fun n : Nat => dead_any g q5 wt5 d5 (w5.drewN n) (HM5.out.at_.fr0 ((Fr.refl _ _).drewN n))
              unfold ptr at hdq
              cases d5 with
              | true =>
                have hen : en = 2 := hm3.2 rfl
                subst hen
                clear hm3
                go_wp2
                go_quiet ((go_at_call 14; exact quiet_eq (hdq _)))
                clear hdq k1
                have HM9 := Lib.hid (HM5.out.fr0 ((Fr.refl _ w5).drewN nq))
                have HF9 := Lib.hid (HF5.out.drewN nq)
                generalize w5.drewN nq = w9 at *
                have hd3 := dead_any g q5 wt5 true w9 HM9.out.at_
                unfold ptr at hd3
                go_wp2_with fail
                refine hd3.mono ?_
                clear hd3
                rintro e w10 ⟨rfl, rfl⟩
                go_wp2
                go_roundg (ps.length - (j + 1))
                case measure => omega
                case rel => exact ⟨j + 1, true, wt5, q5, by simp, rfl, by omega, by omega, HM9, HF9⟩
              | false =>
                have hen : ¬ en = 2 := fun h => by cases hm3.1 h
                have hen1 : (en == 2) = false := beq_eq_false_iff_ne.2 hen
                have hen2 : decide (en = 2) = false := decide_eq_false hen
                clear hm3
                go_wp2
                go_quiet ((go_at_call 14; exact quiet_eq (hdq _)))
                clear hdq k1 hen hen1 hen2
                have HM9 := Lib.hid (HM5.out.fr0 ((Fr.refl _ w5).drewN nq))
                have HF9 := Lib.hid (HF5.out.drewN nq)
                generalize w5.drewN nq = w9 at *
                have hd3 := dead_any g q5 wt5 false w9 HM9.out.at_
                unfold ptr at hd3
                go_wp2_with fail
                refine hd3.mono ?_
                clear hd3
                rintro e w10 ⟨rfl, rfl⟩
                go_wp2
                go_roundg (ps.length - (j + 1))
                case measure => omega
                case rel => exact ⟨j + 1, false, wt5, q5, by simp, rfl, by omega, by omega, HM9, HF9⟩
      · obtain rfl : j = ps.length := by omega
        go_wp2
        go_ret
        exact ⟨rfl, HF.out⟩
end Go.Proofs.YtggdpmfghbnhcaaDoor.Frame
