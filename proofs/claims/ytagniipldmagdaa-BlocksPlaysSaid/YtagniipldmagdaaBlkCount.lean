/-
  BlocksCount: those that are free and those that are given out are all; what is taken and given again leaves all as it was: the walk.
-/
import Derived.Test.YtagniipldmagdaaBlkAwake
namespace Go.Proofs.Ytagniipldmagdaa.Blocks
open Go.RowKit Base Arena

theorem fr0_ints {w0 w w' : World} {g : Nat} {v : Value} {l : List Int} (h : IntsIs w v l) (hn : Fresh w0 v) (hf : Fr1 g w w') (hg : g < w0.heap.size) : IntsIs w' v l := ints_fr h hf (fun a n c hv e => by have h1 := hn a n c hv; omega)
theorem nints_dec (a : List Int) : decide (a = a) = true := decide_eq_true rfl
set_option maxHeartbeats 8000000 in
set_option maxRecDepth 100000 in
theorem blocksCount_walk (bytes : Int) (v1 : Value) (l : List Int) (hl : l.length ≤ 9223372036854775807) (hbd : ∀ n ∈ l, -9223372036854775808 ≤ n ∧ n ≤ 9223372036854775807) (hb : -9223372036854775808 ≤ bytes ∧ bytes ≤ 9223372036854775807) (w : World) (hI : IntsIs w v1 l) :
    Calls Try.prog 5 #[.int .i64 bytes, v1] w fun e w' => e = .returned (.bool true) ∧ Fr0 w w' := by
  obtain ⟨a, cap, pb, po, rfl, hcap, ha, hc⟩ := hI
  have HA := Lib.hid ha
  have HC := Lib.hid hc
  have HBD := Lib.hid hbd
  clear ha hc hbd hcap
  by_cases hbad : bytes < 0 ∨ 3000 < bytes ∨ 30 < l.length
  · have HX := Lib.hid hbad
    clear hbad
    go_enter Try.func5, Try.ntmps5
    go_wp2_with fail
    refine (awake_any w).mono ?_
    rintro e w1 ⟨rfl, hF1⟩
    have HF1 := Lib.hid hF1
    clear hF1
    by_cases h1 : bytes < 0
    · go_wp2
      go_ret
      exact ⟨rfl, HF1.out⟩
    · by_cases h2 : 3000 < bytes
      · go_wp2
        go_ret
        exact ⟨rfl, HF1.out⟩
      · have h3 : 30 < l.length := by have := HX.out; omega
        go_wp2
        go_ret
        exact ⟨rfl, HF1.out⟩
  · have h1 : ¬ bytes < 0 := by omega
    have h2 : ¬ 3000 < bytes := by omega
    have h3 : ¬ 30 < l.length := by omega
    clear hbad
    go_enter Try.func5, Try.ntmps5
    go_wp2_with fail
    refine (awake_any w).mono ?_
    rintro e w1 ⟨rfl, hF1⟩
    have HF1 := Lib.hid hF1
    clear hF1
    go_wp2_with fail
    refine (new_any bytes hb w1).mono ?_
    rintro e w2 ⟨g, ob0, rfl, hB, hf⟩
    have HB2 : Hid (BlkP w2 w.heap.size g ob0 (List.replicate (whole bytes) false)) := Lib.hid (hB.base HF1.out.size)
    have HF2 : Hid (Fr0 w w2) := Lib.hid (HF1.out.trans' hf)
    have HWH : Hid (((whole bytes : Nat) : Int) = bytes / 32) := Lib.hid (by unfold whole; omega)
    have hdv : 0 ≤ bytes / 32 ∧ bytes / 32 ≤ 100 := by omega
    clear hB hf
    go_wp2
    go_loopg [6] l.length (fun kx i wr => ∃ (k ob : Nat) (O : List Bool), i = .int .i64 k ∧ k ≤ l.length ∧ l.length - k ≤ kx ∧ Hid (BlkP wr w.heap.size g ob O) ∧ Hid (((O.length : Nat) : Int) = bytes / 32) ∧ Hid (Fr0 w wr))
    case atStart => exact ⟨0, ob0, _, rfl, Nat.zero_le _, by omega, HB2, Lib.hid (by rw [List.length_replicate]; exact HWH.out), HF2⟩
    case round =>
      clear HB2 HF2 HF1 HWH
      obtain ⟨k, ob, O, rfl, hk, hg, HB, HOL, HF⟩ := hrel
      by_cases hlt : k < l.length
      · obtain rfl := HA.out (by omega)
        have hx := HBD.out (l.getD k 0) (by simp [hlt])
        have HD0 := Lib.hid (HC.out k hlt)
        have i1 : (k : Int) < (l.length : Int) := by omega
        have i2 : 0 ≤ (k : Int) := by omega
        generalize l.getD k 0 = n at *
        go_wp2_with fail
        refine (list_any _ g ob O wr HB.out).mono ?_
        rintro e w3 ⟨vw, rfl, hI, hf, hn⟩
        have HBa : Hid (BlkP w3 w.heap.size g ob O) := Lib.hid (HB.out.fr0 hf)
        have HFa : Hid (Fr0 w w3) := Lib.hid (HF.out.trans' hf)
        have HIa := Lib.hid hI
        have HNa := Lib.hid hn
        have HOB := Lib.hid HB.out.ob_lt
        have HG := Lib.hid HB.out.g_lt
        have d0 := (HFa.out.cell (p := ⟨pb, po + k, none⟩) (World.block_lt_of_cell? w _ HD0.out) (fun f => f)).trans HD0.out
        clear hI hf hn HB HF
        go_wp2_with fail
        refine (take_any _ g ob O n hx w3 HBa.out).mono ?_
        rintro e w4 ⟨vt, rfl, hI, hn, hB, hf⟩
        have HBb : Hid (BlkP w4 w.heap.size g ob (took O n)) := Lib.hid hB
        have HFb : Hid (Fr0 w w4) := Lib.hid (fr0_of_fr1 HFa.out hf hB.oB)
        have HIb := Lib.hid (fr0_ints HIa.out HNa.out hf HOB.out)
        have HTb := Lib.hid hI
        have HSb : Hid (w3.heap.size ≤ w4.heap.size) := Lib.hid hf.size
        have HLb : Hid (((took O n).length : Int) = bytes / 32) := Lib.hid (by rw [took_length]; exact HOL.out)
        obtain ⟨tA, tC, tb, tq, rfl, _⟩ := hI
        rw [nints_length]
        rw [nints_length] at HTb
        clear hn hB hf HBa HFa HIa d0
        go_wp2_with fail
        refine (free_any _ g ob _ w4 HBb.out).mono ?_
        rintro e w5 ⟨rfl, hf⟩
        have HBc := Lib.hid (HBb.out.fr0 hf)
        have HFc := Lib.hid (HFb.out.trans' hf)
        have HIc := Lib.hid (HIb.out.fr0 hf)
        have HTc := Lib.hid (HTb.out.fr0 hf)
        clear hf HBb HFb HIb HTb
        have hs0 : (((frees (took O n)).length : Nat) : Int) + (((outs (took O n)).length : Nat) : Int) = bytes / 32 := by have := both_length (took O n); have := HLb.out; omega
        have hs1 : (((frees (took O n)).length : Nat) : Int) ≤ 100 := by omega
        have hs2 : (((outs (took O n)).length : Nat) : Int) ≤ 100 := by omega
        have HS0 := Lib.hid hs0
        clear hs0
        go_wp2_with fail
        refine (list_any _ g ob _ w5 HBc.out).mono ?_
        rintro e w6 ⟨vu, rfl, hI, hf, _⟩
        have HBd := Lib.hid (HBc.out.fr0 hf)
        have HFd := Lib.hid (HFc.out.trans' hf)
        have HId := Lib.hid (HIc.out.fr0 hf)
        have HTd := Lib.hid (HTc.out.fr0 hf)
        obtain ⟨uA, uC, _, _, rfl, _⟩ := hI
        rw [nints_length]
        clear hf HBc HFc HIc HTc
        generalize (frees (took O n)).length = fa at *
        generalize (outs (took O n)).length = fb at *
        go_wp2_with fail
        refine (all_any _ g ob _ w6 HBd.out).mono ?_
        rintro e w7 ⟨rfl, rfl⟩
        rw [HLb.out]
        have hss := HS0.out
        go_wp2_with fail
        refine (all_any _ g ob _ w7 HBd.out).mono ?_
        rintro e w8 ⟨rfl, rfl⟩
        rw [HLb.out]
        clear hss
        have d1 := (HFd.out.cell (p := ⟨pb, po + k, none⟩) (World.block_lt_of_cell? w _ HD0.out) (fun f => f)).trans HD0.out
        by_cases he : terr O n = 0
        · obtain ⟨m, hm, hmf⟩ := terr_iff he
          have HTL : Hid ((tout O n).length = m) := Lib.hid (by rw [hm, tout_ok hmf, List.length_take]; omega)
          rw [he, HTL.out]
          rw [HTL.out] at HTd
          clear hmf
          subst hm
          by_cases hodd : k % 2 = 1
          · have ho1 : (k : Int) % 2 = 1 := by omega
            have HTI : Hid ((nints (tout O (m : Int))).length = m) := Lib.hid (by rw [nints_length]; exact HTL.out)
            have HGT := Lib.hid (gave_some (give_took O (m : Int)))
            clear hodd
            go_wp2_with fail
            refine (give_any _ g ob _ _ (nints (tout O (m : Int))) (by rw [HTI.out]; omega) (fun x hx => by
              obtain ⟨y, hy, rfl⟩ := nints_mem.1 hx
              have h4 := (tout_free hy).1
              have h5 := HOL.out
              omega) w8 HBd.out HTd.out).mono ?_
            rintro e w9 ⟨rfl, q, hB, hq, hf⟩
            rw [HGT.out.2]
            rw [HGT.out.1] at hB
            have HBe := Lib.hid hB
            have HFe := Lib.hid (fr0_of_fr1 HFd.out hf hB.gB)
            have HIe := Lib.hid (fr0_ints HId.out HNa.out hf HG.out)
            clear hB hf hq HBd HFd HId HTd d1
            go_wp2_with fail
            refine (list_any _ g q _ w9 HBe.out).mono ?_
            rintro e w10 ⟨vu, rfl, hI, hf, _⟩
            have HBf := Lib.hid (HBe.out.fr0 hf)
            have HFf := Lib.hid (HFe.out.trans' hf)
            have HIf := Lib.hid (HIe.out.fr0 hf)
            have HUf := Lib.hid hI
            clear hI hf HBe HFe HIe
            go_wp2_with fail
            refine (alike_any _ _ (nints (outs O)) (nints (outs O)) (by rw [nints_length]; have := outs_length O; have := HOL.out; omega) (fun x hx => by
              obtain ⟨y, hy, rfl⟩ := nints_mem.1 hx
              have h4 := (outs_mem.1 hy).1
              have h5 := HOL.out
              omega) w10 HUf.out HIf.out).mono ?_
            rintro e w11 ⟨rfl, hf⟩
            have HBh := Lib.hid (HBf.out.fr0 hf)
            have HFh := Lib.hid (HFf.out.trans' hf)
            rw [nints_dec]
            clear hf HBf HFf HIf HUf
            go_wp2
            go_roundg (l.length - (k + 1))
            case measure => omega
            case rel => exact ⟨k + 1, q, O, by simp, by omega, by omega, HBh, HOL, HFh⟩
          · have ho1 : ¬ (k : Int) % 2 = 1 := by omega
            have ho2 : (k : Int) % 2 = 0 := by omega
            clear hodd ho1
            go_wp2
            go_roundg (l.length - (k + 1))
            case measure => omega
            case rel => exact ⟨k + 1, ob, _, by simp, by omega, by omega, HBd, HLb, HFd⟩
        · have HTK := Lib.hid (took_bad he)
          have HCASE : Hid ((n < 0 ∧ terr O n = 1) ∨ (¬ n < 0 ∧ terr O n = 6)) := Lib.hid (by
            by_cases hn0 : n < 0
            · exact .inl ⟨hn0, terr_neg hn0⟩
            · refine .inr ⟨hn0, ?_⟩
              unfold terr at he ⊢
              rw [if_neg hn0] at he ⊢
              split at he
              · rename_i h; rw [if_pos h]
              · exact absurd rfl he)
          rw [HTK.out] at HBd
          rcases HCASE.out with ⟨hn0, ht⟩ | ⟨hn0, ht⟩
          all_goals
            rw [ht]
            have hdn : decide (n < 0) = decide (n < 0) := rfl
            clear he ht hdn
            go_wp2_with fail
            refine (list_any _ g ob _ w8 HBd.out).mono ?_
            rintro e w10 ⟨vu, rfl, hI, hf, _⟩
            have HBf := Lib.hid (HBd.out.fr0 hf)
            have HFf := Lib.hid (HFd.out.trans' hf)
            have HIf := Lib.hid (HId.out.fr0 hf)
            have HUf := Lib.hid hI
            clear hI hf d1
            go_wp2_with fail
            refine (alike_any _ _ (nints (outs O)) (nints (outs O)) (by rw [nints_length]; have := outs_length O; have := HOL.out; omega) (fun x hx => by
              obtain ⟨y, hy, rfl⟩ := nints_mem.1 hx
              have h4 := (outs_mem.1 hy).1
              have h5 := HOL.out
              omega) w10 HUf.out HIf.out).mono ?_
            rintro e w11 ⟨rfl, hf⟩
            have HBh := Lib.hid (HBf.out.fr0 hf)
            have HFh := Lib.hid (HFf.out.trans' hf)
            have d2 := (HFh.out.cell (p := ⟨pb, po + k, none⟩) (World.block_lt_of_cell? w _ HD0.out) (fun f => f)).trans HD0.out
            rw [nints_dec]
            clear hf HBf HFf HIf HUf
            go_wp2
            go_roundg (l.length - (k + 1))
            case measure => omega
            case rel => exact ⟨k + 1, ob, O, by simp, by omega, by omega, HBh, HOL, HFh⟩
      · obtain rfl : k = l.length := by omega
        go_wp2
        go_ret
        exact ⟨rfl, HF.out⟩
end Go.Proofs.Ytagniipldmagdaa.Blocks
