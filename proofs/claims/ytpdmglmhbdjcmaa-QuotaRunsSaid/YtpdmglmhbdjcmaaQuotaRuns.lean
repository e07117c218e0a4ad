/-
  QuotaRuns walked.
-/
import Derived.Test.YtpdmglmhbdjcmaaQuotaAwake
import Derived.Deep.DeepCutAuto
import Derived.Deep.LoopGhost
namespace Go.Proofs.Ytpdmglmhbdjcmaa.QuotaL
open Go.RowKit Base _root_.Go.Proofs.Ytpdmglmhbdjcmaa.Quota _root_.Go.Proofs.Ytpdmglmhbdjcmaa.Tenant

theorem good_of (of : Int) (E : Nat) (l a : Int) (o1 : 0 ≤ of) (o2 : of ≤ 1048576) (e1 : 1 ≤ E) (e2 : E ≤ 1048576) (l1 : 0 ≤ l) (l2 : l ≤ of) (a1 : 0 ≤ a) (a2 : a + 1 ≤ (E : Int)) : goodQ ⟨of, (E : Int), l, a⟩ = true := (_root_.Go.Proofs.Ytpdmglmhbdjcmaa.Quota.good_iff _).2 ⟨⟨o1, o2⟩, ⟨by show (1 : Int) ≤ (E : Int); omega, by show (E : Int) ≤ 1048576; omega⟩, ⟨l1, l2⟩, ⟨a1, by show a ≤ (E : Int) - 1; omega⟩⟩
theorem slot_step (of : Int) (E : Nat) (l : Int) (A : Nat) (o1 : 0 ≤ of ∧ of ≤ 1048576) (e1 : 1 ≤ E ∧ E ≤ 1048576) (s1 : 0 ≤ l ∧ l ≤ of) (a1 : A < E) :
    ∃ (l1 : Int) (A1 : Nat), (∀ w, Calls Try.prog 9 #[.agg #[.int .i64 of, .int .i64 ((E : Int)), .int .i64 l, .int .i64 ((A : Int))]] w fun e w' => e = .returned (.agg #[.int .i64 of, .int .i64 ((E : Int)), .int .i64 l1, .int .i64 ((A1 : Int))]) ∧ Fr0 w w') ∧ (A + 1 = E → l1 = of ∧ A1 = 0) ∧ (A + 1 ≠ E → l1 = l ∧ A1 = A + 1) := by
  have hg := good_of of E l (A : Int) o1.1 o1.2 e1.1 e1.2 s1.1 s1.2 (by omega) (by omega)
  by_cases he : A + 1 = E
  · refine ⟨of, 0, fun w => ?_, fun _ => ⟨rfl, rfl⟩, fun h => absurd he h⟩
    have h := pslot_any ⟨of, (E : Int), l, (A : Int)⟩ (good_sized hg) w
    have e : slotQ ⟨of, (E : Int), l, (A : Int)⟩ = ⟨of, (E : Int), of, 0⟩ := by
      unfold slotQ
      rw [if_pos hg, if_pos (by show (A : Int) + 1 = (E : Int); omega)]
    rw [e] at h
    exact h
  · refine ⟨l, A + 1, fun w => ?_, fun h => absurd h he, fun _ => ⟨rfl, rfl⟩⟩
    have h := pslot_any ⟨of, (E : Int), l, (A : Int)⟩ (good_sized hg) w
    have e : slotQ ⟨of, (E : Int), l, (A : Int)⟩ = ⟨of, (E : Int), l, ((A + 1 : Nat) : Int)⟩ := by
      unfold slotQ
      rw [if_pos hg, if_neg (by show ¬ (A : Int) + 1 = (E : Int); omega)]
      rfl
    rw [e] at h
    exact h
theorem use_yes (of : Int) (E : Nat) (l : Int) (A : Nat) (o1 : 0 ≤ of ∧ of ≤ 1048576) (e1 : 1 ≤ E ∧ E ≤ 1048576) (s1 : 0 < l ∧ l ≤ of) (a1 : A < E) (w : World) :
    Calls Try.prog 8 #[.agg #[.int .i64 of, .int .i64 ((E : Int)), .int .i64 l, .int .i64 ((A : Int))]] w fun e w' => e = .returned (.tuple #[.agg #[.int .i64 of, .int .i64 ((E : Int)), .int .i64 (l - 1), .int .i64 ((A : Int))], .bool true]) ∧ Fr0 w w' := by
  have hg := good_of of E l (A : Int) o1.1 o1.2 e1.1 e1.2 (by omega) s1.2 (by omega) (by omega)
  have h := puse_any ⟨of, (E : Int), l, (A : Int)⟩ (good_sized hg) w
  have e : useOk ⟨of, (E : Int), l, (A : Int)⟩ = true := by
    unfold useOk
    rw [hg]
    exact decide_eq_true (by show l ≠ 0; omega)
  have e2 : useQ ⟨of, (E : Int), l, (A : Int)⟩ = ⟨of, (E : Int), l - 1, (A : Int)⟩ := by
    unfold useQ
    rw [if_pos e]
  rw [e, e2] at h
  exact h
theorem use_no (of : Int) (E : Nat) (l : Int) (A : Nat) (o1 : 0 ≤ of ∧ of ≤ 1048576) (e1 : 1 ≤ E ∧ E ≤ 1048576) (s1 : l = 0) (a1 : A < E) (w : World) :
    Calls Try.prog 8 #[.agg #[.int .i64 of, .int .i64 ((E : Int)), .int .i64 l, .int .i64 ((A : Int))]] w fun e w' => e = .returned (.tuple #[.agg #[.int .i64 of, .int .i64 ((E : Int)), .int .i64 l, .int .i64 ((A : Int))], .bool false]) ∧ Fr0 w w' := by
  have hg := good_of of E l (A : Int) o1.1 o1.2 e1.1 e1.2 (by omega) (by omega) (by omega) (by omega)
  have h := puse_any ⟨of, (E : Int), l, (A : Int)⟩ (good_sized hg) w
  have e : useOk ⟨of, (E : Int), l, (A : Int)⟩ = false := by
    unfold useOk
    rw [hg]
    exact decide_eq_false (by show ¬ l ≠ 0; omega)
  have e2 : useQ ⟨of, (E : Int), l, (A : Int)⟩ = ⟨of, (E : Int), l, (A : Int)⟩ := by
    unfold useQ
    rw [e]
    rfl
  rw [e, e2] at h
  exact h
theorem good_yes (of : Int) (E : Nat) (l : Int) (A : Nat) (o1 : 0 ≤ of ∧ of ≤ 1048576) (e1 : 1 ≤ E ∧ E ≤ 1048576) (s1 : 0 ≤ l ∧ l ≤ of) (a1 : A < E) (w : World) :
    Calls Try.prog 11 #[.agg #[.int .i64 of, .int .i64 ((E : Int)), .int .i64 l, .int .i64 ((A : Int))]] w fun e w' => e = .returned (.bool true) ∧ Fr0 w w' := by
  have hg := good_of of E l (A : Int) o1.1 o1.2 e1.1 e1.2 s1.1 s1.2 (by omega) (by omega)
  have h := pgood_any ⟨of, (E : Int), l, (A : Int)⟩ (good_sized hg) w
  rw [hg] at h
  exact h
theorem mod_step (i E : Nat) (h : 1 ≤ i) (A : Nat) (hA : A = (i - 1) % E) (he : 1 ≤ E) : A < E ∧ (A + 1 = E → i % E = 0) ∧ (A + 1 < E → i % E = A + 1) := by
  have h1 : (A + 1) % E = i % E := by
    rw [hA, Nat.mod_add_mod, Nat.sub_add_cancel h]
  refine ⟨by rw [hA]; exact Nat.mod_lt _ (by omega), fun h2 => ?_, fun h2 => ?_⟩
  · rw [← h1, h2, Nat.mod_self]
  · rw [← h1, Nat.mod_eq_of_lt h2]
set_option maxRecDepth 100000 in
set_option maxHeartbeats 8000000 in
theorem quotaRuns_walk (of ev n : Int) (ho : -9223372036854775808 ≤ of ∧ of ≤ 9223372036854775807) (he : -9223372036854775808 ≤ ev ∧ ev ≤ 9223372036854775807) (hn : -9223372036854775808 ≤ n ∧ n ≤ 9223372036854775807) (w : World) :
    Calls Try.prog 5 #[.int .i64 of, .int .i64 ev, .int .i64 n] w fun e w' => e = .returned (.bool true) ∧ Fr0 w w' := by
  have HNEW := Lib.hid (fun w => pnew_any of ev ho he w)
  have HNO : Hid (newOk of ev = false → newErr of ev = 1) := Lib.hid (fun h => by unfold newErr; rw [h]; rfl)
  have HYES : Hid (newOk of ev = true → newErr of ev = 0 ∧ newQ of ev = ⟨of, ev, of, 0⟩ ∧ (0 ≤ of ∧ of ≤ 1048576) ∧ (1 ≤ ev ∧ ev ≤ 1048576)) := Lib.hid (fun h => ⟨by unfold newErr; rw [if_pos h], by unfold newQ; rw [if_pos h], by unfold newOk at h; simpa only [Bool.and_eq_true, inn_iff] using h⟩)
  unfold q4 at HNEW
  generalize newErr of ev = er at *
  generalize newQ of ev = nq at *
  go_enter Try.func5, Try.ntmps5
  go_wp2_with fail
  refine (awake_any _).mono ?_
  rintro e w1 ⟨rfl, hF1⟩
  have HF1 := Lib.hid hF1
  clear hF1
  go_wp2_with fail
  refine (HNEW.out _).mono ?_
  rintro e w2 ⟨rfl, hF2⟩
  have HF2 := Lib.hid (HF1.out.trans' hF2)
  have HFA := Lib.hid (HF2.out.alloc (.cells #[.int .i64 nq.o, .int .i64 nq.e, .int .i64 nq.l, .int .i64 nq.a] 24))
  have HBA := Lib.hid (Bx.new 24 w2 nq)
  clear hF2 HF1 HNEW
  cases hok : newOk of ev with
  | false =>
    obtain rfl := HNO.out hok
    clear hok
    go_wp2
    go_ret
    exact ⟨rfl, HFA.out⟩
  | true =>
    obtain ⟨rfl, rfl, ⟨o1, o2⟩, ⟨e1, e2⟩⟩ := HYES.out hok
    clear hok HNO HYES
    by_cases h1 : 60 < of
    · go_wp2
      go_ret
      exact ⟨rfl, HFA.out⟩
    · by_cases h2 : 100 < ev
      · go_wp2
        go_ret
        exact ⟨rfl, HFA.out⟩
      · by_cases h3 : n < 0
        · go_wp2
          go_ret
          exact ⟨rfl, HFA.out⟩
        · by_cases h4 : 300 < n
          · go_wp2
            go_ret
            exact ⟨rfl, HFA.out⟩
          · obtain ⟨N, rfl⟩ := Int.eq_ofNat_of_zero_le (show 0 ≤ n by omega)
            obtain ⟨E, rfl⟩ := Int.eq_ofNat_of_zero_le (show 0 ≤ ev by omega)
            have HG0 : Hid (w.heap.size ≤ w2.heap.size) := Lib.hid HF2.out.size
            go_wp2_with fail
            generalize w2.heap.size = g at *
            have HGE := HG0
            go_loopg [9, 10] (N + 1) (fun kx vs vi wr => ∃ (i : Nat) (sv l : Int) (A : Nat), vi = .int .i64 (i : Int) ∧ vs = .int .i64 sv ∧ 1 ≤ i ∧ i ≤ N + 1 ∧ N + 1 - i ≤ kx ∧ 0 ≤ sv ∧ sv ≤ of ∧ 0 ≤ l ∧ A < E ∧ Hid (l + sv = of) ∧ Hid (A = (i - 1) % E) ∧ Hid (Bx 24 wr g ⟨of, (E : Int), l, (A : Int)⟩) ∧ Hid (Fr0 w wr))
            case atStart => exact ⟨1, 0, of, 0, rfl, rfl, by omega, by omega, by omega, by omega, by omega, by omega, by omega, Lib.hid (by omega), Lib.hid (by simp), HBA, HFA⟩
            case round =>
              obtain ⟨i, sv, l, A, rfl, rfl, i1, i2, hk, s1, s2, s3, a1, HS, HA, HBr, HFr⟩ := hrel
              clear HBA HFA HF2
              have s4 : l ≤ of := by have := HS.out; omega
              by_cases hlt : i ≤ N
              · have hlt' : (i : Int) ≤ (N : Int) := by omega
                obtain ⟨-, m1, m2⟩ := mod_step i E i1 A HA.out (by omega)
                obtain ⟨l1, A1, hsl, hs1, hs2⟩ := slot_step of E l A (by omega) (by omega) (by omega) a1
                have HSLOT := Lib.hid hsl
                obtain ⟨M, hM⟩ : ∃ M : Int, Int.tmod (i : Int) (E : Int) = M := ⟨_, rfl⟩
                have hM2 : ((i % E : Nat) : Int) = M := by rw [← hM, Int.ofNat_tmod]
                have HLAST : Hid (A + 1 = E → l1 = of ∧ M = 0) := Lib.hid (fun h => ⟨(hs1 h).1, by rw [← hM2, m1 h]; rfl⟩)
                have HNEXT : Hid (A + 1 ≠ E → l1 = l ∧ M ≠ 0) := Lib.hid (fun h => ⟨(hs2 h).1, by rw [← hM2, m2 (by omega)]; omega⟩)
                have hA1 : A1 < E := by
                  by_cases h : A + 1 = E
                  · rw [(hs1 h).2]; omega
                  · rw [(hs2 h).2]; omega
                have HA2 : Hid (A1 = (i + 1 - 1) % E) := Lib.hid (by
                  rw [Nat.add_sub_cancel]
                  by_cases h : A + 1 = E
                  · rw [(hs1 h).2, m1 h]
                  · rw [(hs2 h).2, m2 (by omega)])
                clear m1 m2 hsl hs1 hs2 hM2
                have hk : Calls Try.prog 9 #[.agg #[.int .i64 of, .int .i64 ((E : Int)), .int .i64 l, .int .i64 ((A : Int))]] wr fun e w' => e = .returned (.agg #[.int .i64 of, .int .i64 ((E : Int)), .int .i64 l1, .int .i64 ((A1 : Int))]) ∧ Fr0 wr w' := HSLOT.out wr
                have hc := HBr.out.cells
                obtain ⟨c00, c01, c02, c03⟩ := hc
                go_wp2_with fail
                refine hk.mono ?_
                clear hk c00 c01 c02 c03
                rintro e V11 ⟨rfl, hF⟩
                have HFV11 := Lib.hid (HFr.out.trans' hF)
                have HB0V11 := Lib.hid (HBr.out.fr0 hF)
                clear hF
                have hb := HB0V11.out.setRow ⟨of, (E : Int), l1, (A1 : Int)⟩
                have hf : Fr0 w (V11.setRow g #[.int .i64 of, .int .i64 ((E : Int)), .int .i64 l1, .int .i64 ((A1 : Int))]) := Fr.setRow HFV11.out (fun h => by have := HGE.out; omega) _
                obtain ⟨V12, hW⟩ : ∃ W', W' = V11.setRow g #[.int .i64 of, .int .i64 ((E : Int)), .int .i64 l1, .int .i64 ((A1 : Int))] := ⟨_, rfl⟩
                replace hb : Bx 24 V12 g ⟨of, (E : Int), l1, (A1 : Int)⟩ := by rw [hW]; exact hb
                rw [← hW] at hf
                have HWV12 := Lib.hid hW
                have HGV12 := Lib.hid HB0V11.out.heap
                have HFV12 := Lib.hid hf
                have HNV12 := Lib.hid hb
                clear hb hf hW
                go_upto_if 49 with ((with_reducible change wpList _ _ _ (⟨_, Op.store 24 _ _, _, _, _, _⟩ :: _) _ _); refine wpList_store_row rfl 24 _ _ rfl g #[.int .i64 of, .int .i64 ((E : Int)), .int .i64 l1, .int .i64 ((A1 : Int))] rfl rfl 24 _ HGV12.out infoP rfl (q4_one ⟨of, (E : Int), l1, (A1 : Int)⟩) ?_; rw [← HWV12.out])
                go_cut [9] (fun s wx => ∃ sv1 : Int, s = .int .i64 sv1 ∧ 0 ≤ sv1 ∧ sv1 ≤ of ∧ 0 ≤ l1 ∧ Hid (l1 + sv1 = of) ∧ Hid (Bx 24 wx g ⟨of, (E : Int), l1, (A1 : Int)⟩) ∧ Hid (Fr0 w wx))
                case first =>
                  by_cases hend : A + 1 = E
                  · obtain ⟨hl1, hM⟩ := HLAST.out hend
                    subst hl1 hM
                    go_wp2
                    go_meet
                    exact ⟨0, rfl, by omega, by omega, by omega, Lib.hid (by omega), HNV12, HFV12⟩
                  · obtain ⟨hl1, hM⟩ := HNEXT.out hend
                    subst hl1
                    have z : (M == 0) = false := beq_eq_false_iff_ne.2 hM
                    clear hM
                    go_wp2
                    go_meet
                    exact ⟨sv, rfl, by omega, by omega, by omega, HS, HNV12, HFV12⟩
                case rest =>
                  obtain ⟨sv1, rfl, t1, t2, t3, HS1, HBC, HFC⟩ := hcut
                  have t4 : l1 ≤ of := by have := HS1.out; omega
                  by_cases hl : 0 < l1
                  · have HUSE : Hid (∀ w, Calls Try.prog 8 #[.agg #[.int .i64 of, .int .i64 ((E : Int)), .int .i64 l1, .int .i64 ((A1 : Int))]] w fun e w' => e = .returned (.tuple #[.agg #[.int .i64 of, .int .i64 ((E : Int)), .int .i64 (l1 - 1), .int .i64 ((A1 : Int))], .bool true]) ∧ Fr0 w w') := Lib.hid (use_yes of E l1 A1 (by omega) (by omega) (by omega) (by omega))
                    have HGOOD : Hid (∀ w, Calls Try.prog 11 #[.agg #[.int .i64 of, .int .i64 ((E : Int)), .int .i64 (l1 - 1), .int .i64 ((A1 : Int))]] w fun e w' => e = .returned (.bool true) ∧ Fr0 w w') := Lib.hid (good_yes of E (l1 - 1) A1 (by omega) (by omega) (by omega) (by omega))
                    have HSUM : Hid (l1 - 1 + (sv1 + 1) = of) := Lib.hid (by have := HS1.out; omega)
                    have y1 : (sv1 + 1) ≤ of := by have := HS1.out; omega
                    have y2 : ¬ of < (sv1 + 1) := by omega
                    have z : ((l1 - 1) != of - (sv1 + 1)) = false := by rw [show of - (sv1 + 1) = l1 - 1 by have := HS1.out; omega]; exact bne_self_eq_false _
                    
                    have hk : Calls Try.prog 8 #[.agg #[.int .i64 of, .int .i64 ((E : Int)), .int .i64 l1, .int .i64 ((A1 : Int))]] wc fun e w' => e = .returned (.tuple #[.agg #[.int .i64 of, .int .i64 ((E : Int)), .int .i64 (l1 - 1), .int .i64 ((A1 : Int))], .bool true]) ∧ Fr0 wc w' := HUSE.out _
                    have hc := HBC.out.cells
                    obtain ⟨c00, c01, c02, c03⟩ := hc
                    go_wp2_with fail
                    refine hk.mono ?_
                    clear hk c00 c01 c02 c03
                    rintro e V21 ⟨rfl, hF⟩
                    have HFV21 := Lib.hid (HFC.out.trans' hF)
                    have HB0V21 := Lib.hid (HBC.out.fr0 hF)
                    clear hF
                    have hb := Bx.new 24 V21 ⟨of, (E : Int), l1 - 1, (A1 : Int)⟩
                    have hf := (Fr.refl (fun _ => False) V21).alloc (.cells #[.int .i64 of, .int .i64 ((E : Int)), .int .i64 (l1 - 1), .int .i64 ((A1 : Int))] 24)
                    obtain ⟨V22, hW⟩ : ∃ W', W' = V21.alloc (.cells #[.int .i64 of, .int .i64 ((E : Int)), .int .i64 (l1 - 1), .int .i64 ((A1 : Int))] 24) := ⟨_, rfl⟩
                    rw [← hW] at hb
                    rw [← hW] at hf
                    have HWV22 := Lib.hid hW
                    have HFV22 := Lib.hid (HFV21.out.trans' hf)
                    have HNV22 := Lib.hid hb
                    have hlt220 := HB0V21.out.lt
                    have HB0V22 := Lib.hid (HB0V21.out.fr0 hf)
                    clear hb hf hW
                    have hb := HB0V22.out.setRow ⟨of, (E : Int), l1 - 1, (A1 : Int)⟩
                    have hf : Fr0 w (V22.setRow g #[.int .i64 of, .int .i64 ((E : Int)), .int .i64 (l1 - 1), .int .i64 ((A1 : Int))]) := Fr.setRow HFV22.out (fun h => by have := HGE.out; omega) _
                    obtain ⟨V23, hW⟩ : ∃ W', W' = V22.setRow g #[.int .i64 of, .int .i64 ((E : Int)), .int .i64 (l1 - 1), .int .i64 ((A1 : Int))] := ⟨_, rfl⟩
                    replace hb : Bx 24 V23 g ⟨of, (E : Int), l1 - 1, (A1 : Int)⟩ := by rw [hW]; exact hb
                    rw [← hW] at hf
                    have HWV23 := Lib.hid hW
                    have hgr := HB0V22.out.heap
                    rw [HWV22.out] at hgr
                    have HGV23 := Lib.hid hgr
                    clear hgr
                    have HFV23 := Lib.hid hf
                    have HNV23 := Lib.hid hb
                    have HB1V23 : Hid (Bx 24 V23 V21.heap.size ⟨of, (E : Int), l1 - 1, (A1 : Int)⟩) := Lib.hid (by rw [hW]; exact HNV22.out.otherRow (by omega) _)
                    clear hb hf hW
                    have hk : Calls Try.prog 11 #[.agg #[.int .i64 of, .int .i64 ((E : Int)), .int .i64 (l1 - 1), .int .i64 ((A1 : Int))]] V23 fun e w' => e = .returned (.bool true) ∧ Fr0 V23 w' := HGOOD.out _
                    have hc := HNV23.out.cells
                    obtain ⟨c00, c01, c02, c03⟩ := hc
                    have hc := HB1V23.out.cells
                    obtain ⟨c10, c11, c12, c13⟩ := hc
                    go_wp2_with ((with_reducible change wpList _ _ _ (⟨_, Op.store 24 _ _, _, _, _, _⟩ :: _) _ _); refine wpList_store_row rfl 24 _ _ rfl g #[.int .i64 of, .int .i64 ((E : Int)), .int .i64 (l1 - 1), .int .i64 ((A1 : Int))] rfl rfl 24 _ HGV23.out infoP rfl (q4_one ⟨of, (E : Int), l1 - 1, (A1 : Int)⟩) ?_; rw [← HWV22.out, ← HWV23.out])
                    refine hk.mono ?_
                    clear hk c00 c01 c02 c03 c10 c11 c12 c13
                    rintro e V24 ⟨rfl, hF⟩
                    have HFV24 := Lib.hid (HFV23.out.trans' hF)
                    have HB0V24 := Lib.hid (HNV23.out.fr0 hF)
                    have HB1V24 := Lib.hid (HB1V23.out.fr0 hF)
                    clear hF
                    go_wp2
                    go_roundg (N + 1 - (i + 1))
                    case measure => omega
                    case rel => exact ⟨i + 1, (sv1 + 1), l1 - 1, A1, by simp, rfl, by omega, by omega, by omega, by have := HSUM.out; omega, by have := HSUM.out; omega, by omega, by omega, HSUM, HA2, HB0V24, HFV24⟩
                  · have HUSE : Hid (∀ w, Calls Try.prog 8 #[.agg #[.int .i64 of, .int .i64 ((E : Int)), .int .i64 l1, .int .i64 ((A1 : Int))]] w fun e w' => e = .returned (.tuple #[.agg #[.int .i64 of, .int .i64 ((E : Int)), .int .i64 l1, .int .i64 ((A1 : Int))], .bool false]) ∧ Fr0 w w') := Lib.hid (use_no of E l1 A1 (by omega) (by omega) (by omega) (by omega))
                    have HGOOD : Hid (∀ w, Calls Try.prog 11 #[.agg #[.int .i64 of, .int .i64 ((E : Int)), .int .i64 l1, .int .i64 ((A1 : Int))]] w fun e w' => e = .returned (.bool true) ∧ Fr0 w w') := Lib.hid (good_yes of E (l1) A1 (by omega) (by omega) (by omega) (by omega))
                    have HSUM : Hid (l1 + sv1 = of) := Lib.hid (by have := HS1.out; omega)
                    have y1 : sv1 ≤ of := by have := HS1.out; omega
                    have y2 : ¬ of < sv1 := by omega
                    have z : ((l1) != of - sv1) = false := by rw [show of - sv1 = l1 by have := HS1.out; omega]; exact bne_self_eq_false _
                    have z2 : (sv1 != of) = false := by rw [show sv1 = of by have := HS1.out; omega]; exact bne_self_eq_false _
                    have hk : Calls Try.prog 8 #[.agg #[.int .i64 of, .int .i64 ((E : Int)), .int .i64 l1, .int .i64 ((A1 : Int))]] wc fun e w' => e = .returned (.tuple #[.agg #[.int .i64 of, .int .i64 ((E : Int)), .int .i64 l1, .int .i64 ((A1 : Int))], .bool false]) ∧ Fr0 wc w' := HUSE.out _
                    have hc := HBC.out.cells
                    obtain ⟨c00, c01, c02, c03⟩ := hc
                    go_wp2_with fail
                    refine hk.mono ?_
                    clear hk c00 c01 c02 c03
                    rintro e V21 ⟨rfl, hF⟩
                    have HFV21 := Lib.hid (HFC.out.trans' hF)
                    have HB0V21 := Lib.hid (HBC.out.fr0 hF)
                    clear hF
                    have hb := Bx.new 24 V21 ⟨of, (E : Int), l1, (A1 : Int)⟩
                    have hf := (Fr.refl (fun _ => False) V21).alloc (.cells #[.int .i64 of, .int .i64 ((E : Int)), .int .i64 l1, .int .i64 ((A1 : Int))] 24)
                    obtain ⟨V22, hW⟩ : ∃ W', W' = V21.alloc (.cells #[.int .i64 of, .int .i64 ((E : Int)), .int .i64 l1, .int .i64 ((A1 : Int))] 24) := ⟨_, rfl⟩
                    rw [← hW] at hb
                    rw [← hW] at hf
                    have HWV22 := Lib.hid hW
                    have HFV22 := Lib.hid (HFV21.out.trans' hf)
                    have HNV22 := Lib.hid hb
                    have hlt220 := HB0V21.out.lt
                    have HB0V22 := Lib.hid (HB0V21.out.fr0 hf)
                    clear hb hf hW
                    have hb := HB0V22.out.setRow ⟨of, (E : Int), l1, (A1 : Int)⟩
                    have hf : Fr0 w (V22.setRow g #[.int .i64 of, .int .i64 ((E : Int)), .int .i64 l1, .int .i64 ((A1 : Int))]) := Fr.setRow HFV22.out (fun h => by have := HGE.out; omega) _
                    obtain ⟨V23, hW⟩ : ∃ W', W' = V22.setRow g #[.int .i64 of, .int .i64 ((E : Int)), .int .i64 l1, .int .i64 ((A1 : Int))] := ⟨_, rfl⟩
                    replace hb : Bx 24 V23 g ⟨of, (E : Int), l1, (A1 : Int)⟩ := by rw [hW]; exact hb
                    rw [← hW] at hf
                    have HWV23 := Lib.hid hW
                    have hgr := HB0V22.out.heap
                    rw [HWV22.out] at hgr
                    have HGV23 := Lib.hid hgr
                    clear hgr
                    have HFV23 := Lib.hid hf
                    have HNV23 := Lib.hid hb
                    have HB1V23 : Hid (Bx 24 V23 V21.heap.size ⟨of, (E : Int), l1, (A1 : Int)⟩) := Lib.hid (by rw [hW]; exact HNV22.out.otherRow (by omega) _)
                    clear hb hf hW
                    have hk : Calls Try.prog 11 #[.agg #[.int .i64 of, .int .i64 ((E : Int)), .int .i64 l1, .int .i64 ((A1 : Int))]] V23 fun e w' => e = .returned (.bool true) ∧ Fr0 V23 w' := HGOOD.out _
                    have hc := HNV23.out.cells
                    obtain ⟨c00, c01, c02, c03⟩ := hc
                    have hc := HB1V23.out.cells
                    obtain ⟨c10, c11, c12, c13⟩ := hc
                    go_wp2_with ((with_reducible change wpList _ _ _ (⟨_, Op.store 24 _ _, _, _, _, _⟩ :: _) _ _); refine wpList_store_row rfl 24 _ _ rfl g #[.int .i64 of, .int .i64 ((E : Int)), .int .i64 l1, .int .i64 ((A1 : Int))] rfl rfl 24 _ HGV23.out infoP rfl (q4_one ⟨of, (E : Int), l1, (A1 : Int)⟩) ?_; rw [← HWV22.out, ← HWV23.out])
                    refine hk.mono ?_
                    clear hk c00 c01 c02 c03 c10 c11 c12 c13
                    rintro e V24 ⟨rfl, hF⟩
                    have HFV24 := Lib.hid (HFV23.out.trans' hF)
                    have HB0V24 := Lib.hid (HNV23.out.fr0 hF)
                    have HB1V24 := Lib.hid (HB1V23.out.fr0 hF)
                    clear hF
                    go_wp2
                    go_roundg (N + 1 - (i + 1))
                    case measure => omega
                    case rel => exact ⟨i + 1, sv1, l1, A1, by simp, rfl, by omega, by omega, by omega, by have := HSUM.out; omega, by have := HSUM.out; omega, by omega, by omega, HSUM, HA2, HB0V24, HFV24⟩
              · obtain rfl : i = N + 1 := by omega
                go_wp2
                go_ret
                exact ⟨rfl, HFr.out⟩
end Go.Proofs.Ytpdmglmhbdjcmaa.QuotaL
