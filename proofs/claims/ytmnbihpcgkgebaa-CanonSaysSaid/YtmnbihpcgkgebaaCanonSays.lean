/-
  CanonSays walked.
-/
import Derived.Test.YtmnbihpcgkgebaaCanonAwake
import Derived.Test.YtmnbihpcgkgebaaCanonRefKey
import Derived.Test.YtmnbihpcgkgebaaCanonSame
import Derived.Test.YtmnbihpcgkgebaaCanonOwn
import Derived.Test.YtmnbihpcgkgebaaAskLawK
import Derived.Deep.DeepCutAuto
namespace Go.Proofs.Ytmnbihpcgkgebaa.Canon
open Go.RowKit Base Pack _root_.Go.Proofs.Ytmnbihpcgkgebaa.Ask _root_.Go.Proofs.Ytmnbihpcgkgebaa.CanonL

theorem ofOut_twice {a : Rq} (h : isQ a = true) : ofOut (ofOut a) = ofOut a ∧ ofErr (ofOut a) = 0 ∧ sameK a (ofOut a) = true := by
  rw [(ofOut_isQ h).1]
  have h1 := one_isQ h
  refine ⟨?_, (ofOut_isQ h1).2.1, sameK_of h⟩
  rw [(ofOut_isQ h1).1, one_one]
theorem of_of {a : Rq} (h : isQ a = true) (w : World) : Calls Try.prog 7 #[.agg (rv (.slice none 0 0) (ofOut a))] w fun e w' => e = .returned (.tuple #[.agg (rv (.slice none 0 0) (ofOut a)), .int .i64 0]) ∧ Fr0 w w' := by
  have hn := good_name (ofOut_good h)
  have hof := of_any none 0 (ofOut a) (by omega) w
  rw [(ofOut_twice h).1, (ofOut_twice h).2.1, ofOut_s] at hof
  exact hof
theorem same_of {a : Rq} (h : isQ a = true) (A : Option Addr) (C : Nat) (w : World) : Calls Try.prog 10 #[.agg (rv (.slice A a.s.length C) a), .agg (rv (.slice none 0 0) (ofOut a))] w fun e w' => e = .returned (.bool true) ∧ Fr0 w w' := by
  have hn := good_name (ofOut_good h)
  have hm := good_name (isQ_iff.1 h).1
  have hof := same_go A none C 0 a (ofOut a) (by omega) (by omega) w
  rw [(ofOut_twice h).2.2, ofOut_s] at hof
  exact hof
theorem own_nil {o : Rq} (hs : o.s = []) (w : World) : Calls Try.prog 12 #[.agg (rv (.slice none 0 0) o)] w (OwnPost o w) := by
  have h := own_any none 0 o (by rw [hs]; decide) w (by rw [hs]; exact pairs_nil w)
  rw [hs] at h
  exact h
theorem same_self (A B : Option Addr) (C D : Nat) (o : Rq) (hs : o.s = []) (w : World) (hA : PairsIs w (.slice A o.s.length C) o.s) (hB : PairsIs w (.slice B o.s.length D) o.s) :
    Calls Try.prog 14 #[.agg (rv (.slice A o.s.length C) o), .agg (rv (.slice B o.s.length D) o)] w fun e w' => e = .returned (.bool true) ∧ Fr0 w w' := by
  have h := same_any A B C D o o (by rw [hs]; decide) w hA hB
  rw [(sameQ_iff o o).2 rfl] at h
  exact h
set_option maxRecDepth 100000 in
set_option maxHeartbeats 8000000 in
theorem canonSays_walk (a b : Rq) (v0 v1 : Value) (hsa : Sized a) (hsb : Sized b) (w : World) (hI : In w a v0) (hJ : In w b v1) :
    Calls Try.prog 4 #[v0, v1] w fun e w' => e = .returned (.bool true) ∧ Fr0 w w' := by
  obtain ⟨A, C, rfl, hP⟩ := hI
  obtain ⟨B, D, rfl, hQ⟩ := hJ
  have HP := Lib.hid hP
  have HQ := Lib.hid hQ
  have HSA := Lib.hid hsa
  have HSB := Lib.hid hsb
  have hla := hsa.2.1
  have hlb := hsb.2.1
  have hna := size_str a.n
  have hnb := size_str b.n
  have hf0 : Fr0 (w.alloc (.cells #[.int .i64 a.k, .string ⟨a.n.toArray⟩, .slice A a.s.length C, .int .i64 a.f, .int .i64 a.t, .int .i64 a.wn] 27)) ((w.alloc (.cells #[.int .i64 a.k, .string ⟨a.n.toArray⟩, .slice A a.s.length C, .int .i64 a.f, .int .i64 a.t, .int .i64 a.wn] 27)).alloc (.cells #[.int .i64 b.k, .string ⟨b.n.toArray⟩, .slice B b.s.length D, .int .i64 b.f, .int .i64 b.t, .int .i64 b.wn] 27)) := (Fr.refl _ _).alloc _
  have HA := Lib.hid ((BoxQ.new w (.slice A a.s.length C) a).fr0 hf0)
  have hb0 := BoxQ.new (w.alloc (.cells #[.int .i64 a.k, .string ⟨a.n.toArray⟩, .slice A a.s.length C, .int .i64 a.f, .int .i64 a.t, .int .i64 a.wn] 27)) (.slice B b.s.length D) b
  rw [show (w.alloc (.cells #[.int .i64 a.k, .string ⟨a.n.toArray⟩, .slice A a.s.length C, .int .i64 a.f, .int .i64 a.t, .int .i64 a.wn] 27)).heap.size = w.heap.size + 1 by simp] at hb0
  have HB := Lib.hid hb0
  have HF : Hid (Fr0 w ((w.alloc (.cells #[.int .i64 a.k, .string ⟨a.n.toArray⟩, .slice A a.s.length C, .int .i64 a.f, .int .i64 a.t, .int .i64 a.wn] 27)).alloc (.cells #[.int .i64 b.k, .string ⟨b.n.toArray⟩, .slice B b.s.length D, .int .i64 b.f, .int .i64 b.t, .int .i64 b.wn] 27))) := Lib.hid (((Fr.refl (fun _ => False) w).alloc _).alloc _)
  clear hP hQ hsa hsb hf0 hb0
  unfold rv
  go_enter Try.func4, Try.ntmps4
  go_wp2_with fail
  refine (awake_any _).mono ?_
  rintro e W1 ⟨rfl, hF1⟩
  have HA1 := Lib.hid (HA.out.fr0 hF1)
  have HB1 := Lib.hid (HB.out.fr0 hF1)
  have HF1 : Hid (Fr0 w W1) := Lib.hid (HF.out.trans' hF1)
  have c0 := HA1.out.cells.2.2.1
  have c1 := HB1.out.cells.2.2.1
  have c2 := HA1.out.cells.2.1
  have c3 := HB1.out.cells.2.1
  clear hF1 HB HF HA
  by_cases h0 : 60 < (a.s.length : Int)
  ·
    go_wp2
    go_ret
    exact ⟨rfl, HF1.out⟩
  ·
    by_cases h1 : 60 < (b.s.length : Int)
    ·
      go_wp2
      go_ret
      exact ⟨rfl, HF1.out⟩
    ·
      by_cases h2 : 100 < (a.n.length : Int)
      ·
        go_wp2
        go_ret
        exact ⟨rfl, HF1.out⟩
      ·
        by_cases h3 : 100 < (b.n.length : Int)
        ·
          go_wp2
          go_ret
          exact ⟨rfl, HF1.out⟩
        ·
          have hof := of_any A C a HSA.out.1 W1
          have HOWN := Lib.hid (fun w hw => own_any A C a (by omega) w hw)
          have HOWNB := Lib.hid (fun w hw => own_any B D b (by omega) w hw)
          have HRC := Lib.hid (fun A C w hw => rcanon_any A C a HSA.out.1 w hw)
          have HKEY := Lib.hid (fun w => key_any A C a HSA.out.1 w)
          have HRK := Lib.hid (fun A C w hw => rkey_any A C a HSA.out.1 w hw)
          have HRKB := Lib.hid (fun A C w hw => rkey_any A C b HSB.out.1 w hw)
          have HSM := Lib.hid (fun w => same_go A B C D a b HSA.out.1 HSB.out.1 w)
          have HPE := Lib.hid (err01 a)
          have HQE := Lib.hid (err01 b)
          have HSK := Lib.hid (sameK_keys a b)
          have HOS := Lib.hid (ofOut_s a)
          have HON := Lib.hid (fun w => own_nil (ofOut_s a) w)
          have HSS := Lib.hid (fun A B C D w hA hB => same_self A B C D (ofOut a) (ofOut_s a) w hA hB)
          have HOO := Lib.hid (fun h w => of_of (a := a) h w)
          have HSO := Lib.hid (fun h w => same_of (a := a) h A C w)
          have HNO := Lib.hid (fun h => (ofOut_no (a := a) h).2.1)
          have HPO := Lib.hid (fun h => (ofOut_isQ (a := a) h).2.1)
          unfold CanonPost OwnPost rv at *
          generalize ofOut a = o at *
          generalize keyOut a = X at *
          generalize keyOut b = Y at *
          generalize ofErr a = p at *
          generalize ofErr b = q at *
          generalize sameK a b = r at *
          go_wp2_with (refine wpList_load_row rfl 27 _ rfl (w.heap.size) rfl 27 _ (0, 0) _ HA1.out.heap Try.underlying27 rfl (by kernel_rfl) ?_)
          refine hof.mono ?_
          clear hof c0 c1 c2 c3
          rintro e W2 ⟨rfl, hF2⟩
          have HF2 := Lib.hid (HF1.out.trans' hF2)
          have HA2 := Lib.hid (HA1.out.fr0 hF2)
          have HB2 := Lib.hid (HB1.out.fr0 hF2)
          clear hF2 HA1 HB1
          have hg3 := heap_alloc_new W2 (.cells #[.int .i64 0, .string ⟨#[]⟩, .slice none 0 0, .int .i64 0, .int .i64 0, .int .i64 0] 27)
          obtain ⟨W3, hW3⟩ : ∃ W', W' = (W2.alloc (.cells #[.int .i64 0, .string ⟨#[]⟩, .slice none 0 0, .int .i64 0, .int .i64 0, .int .i64 0] 27)).setRow W2.heap.size #[.int .i64 o.k, .string ⟨o.n.toArray⟩, .slice none 0 0, .int .i64 o.f, .int .i64 o.t, .int .i64 o.wn] := ⟨_, rfl⟩
          have hr3 := setRow_heap _ W2.heap.size _ #[.int .i64 o.k, .string ⟨o.n.toArray⟩, .slice none 0 0, .int .i64 o.f, .int .i64 o.t, .int .i64 o.wn] _ _ hg3
          rw [← hW3] at hr3
          have hf3 : Fr0 W2 W3 := by rw [hW3]; exact Fr.setRow ((Fr.refl _ _).alloc _) (fun h => absurd h (Nat.lt_irrefl _)) _
          have HKR3 := Lib.hid hr3
          have HKW3 := Lib.hid hW3
          have HKG3 := Lib.hid hg3
          have HKF3 := Lib.hid hf3
          clear hg3 hW3 hr3 hf3
          have HF3 := Lib.hid (HF2.out.trans' HKF3.out)
          have HA3 := Lib.hid (HA2.out.fr0 HKF3.out)
          have HB3 := Lib.hid (HB2.out.fr0 HKF3.out)
          go_wp2_with (first | (refine wpList_store_row rfl 27 _ _ rfl W2.heap.size #[.int .i64 o.k, .string ⟨o.n.toArray⟩, .slice none 0 0, .int .i64 o.f, .int .i64 o.t, .int .i64 o.wn] rfl rfl 27 _ HKG3.out infoQ rfl (ask_one _ _ _ _ _ _ rfl) ?_; rw [← HKW3.out]) | (refine wpList_load_row rfl 27 _ rfl (w.heap.size) rfl 27 _ (0, 0) _ HA3.out.heap Try.underlying27 rfl (by kernel_rfl) ?_))
          refine (HOWN.out W3 (HP.out.fr0 HF3.out)).mono ?_
          rintro e W4 ⟨A4, C4, rfl, hP4, hF4⟩
          have HC4 := Lib.hid (hF4.heap HKR3.out (fun f => f))
          have HF4 := Lib.hid (HF3.out.trans' hF4)
          have HA4 := Lib.hid (HA3.out.fr0 hF4)
          have HB4 := Lib.hid (HB3.out.fr0 hF4)
          have hrc := HRC.out A4 C4 W4 hP4
          clear hF4 hP4 HA2 HB2 HKR3 HKF3 HKG3 HKW3
          go_wp2_with fail
          refine hrc.mono ?_
          clear hrc
          rintro e W5 ⟨A5, C5, rfl, hP5, hF5⟩
          have HP5 := Lib.hid hP5
          have HC5 := Lib.hid (hF5.heap HC4.out (fun f => f))
          have HF5 := Lib.hid (HF4.out.trans' hF5)
          have HA5 := Lib.hid (HA4.out.fr0 hF5)
          have HB5 := Lib.hid (HB4.out.fr0 hF5)
          clear hF5 hP5 HA3 HB3 HA4 HB4
          have hg6 := heap_alloc_new W5 (.cells #[.int .i64 0, .string ⟨#[]⟩, .slice none 0 0, .int .i64 0, .int .i64 0, .int .i64 0] 39)
          obtain ⟨W6, hW6⟩ : ∃ W', W' = (W5.alloc (.cells #[.int .i64 0, .string ⟨#[]⟩, .slice none 0 0, .int .i64 0, .int .i64 0, .int .i64 0] 39)).setRow W5.heap.size #[.int .i64 o.k, .string ⟨o.n.toArray⟩, .slice A5 o.s.length C5, .int .i64 o.f, .int .i64 o.t, .int .i64 o.wn] := ⟨_, rfl⟩
          have hr6 := setRow_heap _ W5.heap.size _ #[.int .i64 o.k, .string ⟨o.n.toArray⟩, .slice A5 o.s.length C5, .int .i64 o.f, .int .i64 o.t, .int .i64 o.wn] _ _ hg6
          rw [← hW6] at hr6
          have hf6 : Fr0 W5 W6 := by rw [hW6]; exact Fr.setRow ((Fr.refl _ _).alloc _) (fun h => absurd h (Nat.lt_irrefl _)) _
          have HKR6 := Lib.hid hr6
          have HKW6 := Lib.hid hW6
          have HKG6 := Lib.hid hg6
          have HKF6 := Lib.hid hf6
          clear hg6 hW6 hr6 hf6
          have HF6 := Lib.hid (HF5.out.trans' HKF6.out)
          have HA6 := Lib.hid (HA5.out.fr0 HKF6.out)
          have HB6 := Lib.hid (HB5.out.fr0 HKF6.out)
          have HC6 := Lib.hid (HKF6.out.heap HC5.out (fun f => f))
          have HP6 := Lib.hid (HP5.out.fr0 HKF6.out)
          go_wp2_with (first | (refine wpList_store_row rfl 39 _ _ rfl W5.heap.size #[.int .i64 o.k, .string ⟨o.n.toArray⟩, .slice A5 o.s.length C5, .int .i64 o.f, .int .i64 o.t, .int .i64 o.wn] rfl rfl 39 _ HKG6.out infoAsk rfl (ask_one _ _ _ _ _ _ rfl) ?_; rw [← HKW6.out]) | (refine wpList_load_row rfl 27 _ rfl (w.heap.size) rfl 27 _ (0, 0) _ HA6.out.heap Try.underlying27 rfl (by kernel_rfl) ?_))
          refine (HKEY.out W6).mono ?_
          rintro e W7 ⟨rfl, hF7⟩
          have HF7 := Lib.hid (HF6.out.trans' hF7)
          have HA7 := Lib.hid (HA6.out.fr0 hF7)
          have HB7 := Lib.hid (HB6.out.fr0 hF7)
          have HC7 := Lib.hid (hF7.heap HC6.out (fun f => f))
          have HD7 := Lib.hid (hF7.heap HKR6.out (fun f => f))
          have HP7 := Lib.hid (HP6.out.fr0 hF7)
          clear hF7 HKR6 HKF6 HKG6 HKW6 HA5 HB5 HA6 HB6 HC4 HC5 HC6 HP5 HP6
          go_wp2_with (refine wpList_load_row rfl 27 _ rfl (w.heap.size) rfl 27 _ (0, 0) _ HA7.out.heap Try.underlying27 rfl (by kernel_rfl) ?_)
          refine (HOWN.out W7 (HP.out.fr0 HF7.out)).mono ?_
          rintro e W8 ⟨A8, C8, rfl, hP8, hF8⟩
          have hrk := HRK.out A8 C8 W8 hP8
          have HF8 := Lib.hid hF8
          clear hP8 hF8
          go_wp2_with fail
          refine hrk.mono ?_
          clear hrk
          rintro e W9 ⟨rfl, hF9⟩
          have hf79 := HF8.out.trans' hF9
          have HF9 := Lib.hid (HF7.out.trans' hf79)
          have HA9 := Lib.hid (HA7.out.fr0 hf79)
          have HB9 := Lib.hid (HB7.out.fr0 hf79)
          have HC9 := Lib.hid (hf79.heap HC7.out (fun f => f))
          have HD9 := Lib.hid (hf79.heap HD7.out (fun f => f))
          have HP9 := Lib.hid (HP7.out.fr0 hf79)
          clear hF9 hf79 HF8 HA7 HB7 HC7 HD7 HP7
          go_wp2_with (refine wpList_load_row rfl 27 _ rfl (w.heap.size + 1) rfl 27 _ (0, 0) _ HB9.out.heap Try.underlying27 rfl (by kernel_rfl) ?_)
          refine (HOWNB.out W9 (HQ.out.fr0 HF9.out)).mono ?_
          rintro e Wa ⟨Aa, Ca, rfl, hPa, hFa⟩
          have hrk := HRKB.out Aa Ca Wa hPa
          have HFa := Lib.hid hFa
          clear hPa hFa
          go_wp2_with fail
          refine hrk.mono ?_
          clear hrk
          rintro e Wb ⟨rfl, hFb⟩
          have hf9b := HFa.out.trans' hFb
          have HFb := Lib.hid (HF9.out.trans' hf9b)
          have HAb := Lib.hid (HA9.out.fr0 hf9b)
          have HBb := Lib.hid (HB9.out.fr0 hf9b)
          have HCb := Lib.hid (hf9b.heap HC9.out (fun f => f))
          have HDb := Lib.hid (hf9b.heap HD9.out (fun f => f))
          have HPb := Lib.hid (HP9.out.fr0 hf9b)
          clear hFb hf9b HFa HA9 HB9 HC9 HD9 HP9
          go_upto_region 10 with fail
          go_cut [105] (fun s wx => s = .bool false ∧ Hid (Fr0 Wb wx))
          case first =>
            have HAH := Lib.hid HAb.out.heap
            have HBH := Lib.hid HBb.out.heap
            rcases HPE.out with rfl | rfl
            · rcases HQE.out with rfl | rfl
              · by_cases hxy : X = Y
                · subst hxy
                  obtain rfl : r = true := HSK.out.trans (by simp)
                  refine Mix.law (fun X => Fr0 Wb X) [(.sure, 0), (.sure, 2), (.turn, 1), (.turn, 3), (.sure, 4), (.sure, 5), (.sure, 6), (.sure, 7), (.sure, 8), (.sure, 9), (.sure, 10), (.sure, 11), (.sure, 12), (.sure, 13), (.sure, 14), (.sure, 15), (.sure, 16), (.sure, 17), (.sure, 18), (.sure, 19), (.sure, 20), (.sure, 21), (.sure, 22), (.sure, 24), (.sure, 25), (.turn, 23), (.sure, 26), (.sure, 27), (.sure, 28), (.sure, 29), (.sure, 30), (.sure, 31), (.sure, 32), (.sure, 33), (.sure, 34), (.sure, 35), (.sure, 36)] (by kernel_rfl) (by kernel_rfl) (Fr.refl _ _).drew ?_
                  simp only [List.map_cons, List.map_nil, Mix.nth_zero, Mix.nth_succ]
                  have HDR := Lib.hid ((Fr.refl (fun _ => False) Wb).drew)
                  generalize Wb.drew = wd at *
                  repeat (first
                    | (refine Mix.go_skipS (by exact Mix.wanted_no rfl rfl rfl rfl) ?_; go_frame)
                    | (refine Mix.go_skipL (by exact Mix.wanted_no rfl rfl rfl rfl) ?_; go_frame)
                    | (refine Mix.go_move (by first | exact Mix.wanted_none rfl | exact Mix.wanted_yes rfl rfl rfl) _ rfl _ (by first | (go_simp; done) | (go_simp; rfl)) ?_; go_frame)
                    | (refine Mix.go_assign (by first | exact Mix.wanted_none rfl | exact Mix.wanted_yes rfl rfl rfl) _ rfl _ (by first | (go_simp; done) | (go_simp; rfl)) ?_; go_frame)
                    | (refine Mix.go_sure_row (by first | exact Mix.wanted_none rfl | exact Mix.wanted_yes rfl rfl rfl) 27 _ rfl (W2.heap.size) rfl 27 _ (0, 0) _ (fun w1 hC1 => hC1.heap HCb.out (fun f => f)) Try.underlying27 rfl (by kernel_rfl) ?_; go_frame)
                    | (refine Mix.go_sure_row (by first | exact Mix.wanted_none rfl | exact Mix.wanted_yes rfl rfl rfl) 39 _ rfl (W5.heap.size) rfl 39 _ (0, 0) _ (fun w1 hC1 => hC1.heap HDb.out (fun f => f)) Try.underlying39 rfl (by kernel_rfl) ?_; go_frame)
                    | (refine Mix.go_sure_row (by first | exact Mix.wanted_none rfl | exact Mix.wanted_yes rfl rfl rfl) 27 _ rfl (w.heap.size) rfl 27 _ (0, 0) _ (fun w1 hC1 => hC1.heap HAH.out (fun f => f)) Try.underlying27 rfl (by kernel_rfl) ?_; go_frame)
                    | (refine Mix.go_sure_row (by first | exact Mix.wanted_none rfl | exact Mix.wanted_yes rfl rfl rfl) 27 _ rfl ((w.heap.size+1)) rfl 27 _ (0, 0) _ (fun w1 hC1 => hC1.heap HBH.out (fun f => f)) Try.underlying27 rfl (by kernel_rfl) ?_; go_frame)
                    | (refine Mix.go_sureW (by first | exact Mix.wanted_none rfl | exact Mix.wanted_yes rfl rfl rfl) _ (by rfl) (by rfl) _ (fun w' hC' => by go_wp2_with fail; refine Mix.stays ?_; go_frame; rfl) ?_; go_frame)
                    | (refine Mix.go_lookW (by first | exact Mix.wanted_none rfl | exact Mix.wanted_yes rfl rfl rfl) _ (by rfl) (by rfl) _ (by go_wp2_with fail; refine Mix.stays ?_; go_frame; rfl) ?_; go_frame))
                  refine Mix.go_turn ?_
                  go_wp2_with fail
                  refine (HON.out wd).mono ?_
                  rintro e wa ⟨Ae, Ce, rfl, hPe, hFe⟩
                  have HFE := Lib.hid (HDR.out.trans' hFe)
                  have hss := HSS.out Ae A5 Ce C5 wa hPe (HPb.out.fr0 HFE.out)
                  clear hPe hFe
                  go_wp2
                  refine Mix.then_go HFE.out ?_
                  refine Mix.go_turn ?_
                  go_wp2_with fail
                  refine hss.mono ?_
                  clear hss
                  rintro e wb ⟨rfl, hFf⟩
                  have HFG := Lib.hid (HFE.out.trans' hFf)
                  clear hFf
                  go_wp2
                  refine Mix.then_go HFG.out ?_
                  repeat (first
                    | (refine Mix.go_skipS (by exact Mix.wanted_no rfl rfl rfl rfl) ?_; go_frame)
                    | (refine Mix.go_skipL (by exact Mix.wanted_no rfl rfl rfl rfl) ?_; go_frame)
                    | (refine Mix.go_move (by first | exact Mix.wanted_none rfl | exact Mix.wanted_yes rfl rfl rfl) _ rfl _ (by first | (go_simp; done) | (go_simp; rfl)) ?_; go_frame)
                    | (refine Mix.go_assign (by first | exact Mix.wanted_none rfl | exact Mix.wanted_yes rfl rfl rfl) _ rfl _ (by first | (go_simp; done) | (go_simp; rfl)) ?_; go_frame)
                    | (refine Mix.go_sure_row (by first | exact Mix.wanted_none rfl | exact Mix.wanted_yes rfl rfl rfl) 27 _ rfl (W2.heap.size) rfl 27 _ (0, 0) _ (fun w1 hC1 => hC1.heap HCb.out (fun f => f)) Try.underlying27 rfl (by kernel_rfl) ?_; go_frame)
                    | (refine Mix.go_sure_row (by first | exact Mix.wanted_none rfl | exact Mix.wanted_yes rfl rfl rfl) 39 _ rfl (W5.heap.size) rfl 39 _ (0, 0) _ (fun w1 hC1 => hC1.heap HDb.out (fun f => f)) Try.underlying39 rfl (by kernel_rfl) ?_; go_frame)
                    | (refine Mix.go_sure_row (by first | exact Mix.wanted_none rfl | exact Mix.wanted_yes rfl rfl rfl) 27 _ rfl (w.heap.size) rfl 27 _ (0, 0) _ (fun w1 hC1 => hC1.heap HAH.out (fun f => f)) Try.underlying27 rfl (by kernel_rfl) ?_; go_frame)
                    | (refine Mix.go_sure_row (by first | exact Mix.wanted_none rfl | exact Mix.wanted_yes rfl rfl rfl) 27 _ rfl ((w.heap.size+1)) rfl 27 _ (0, 0) _ (fun w1 hC1 => hC1.heap HBH.out (fun f => f)) Try.underlying27 rfl (by kernel_rfl) ?_; go_frame)
                    | (refine Mix.go_sureW (by first | exact Mix.wanted_none rfl | exact Mix.wanted_yes rfl rfl rfl) _ (by rfl) (by rfl) _ (fun w' hC' => by go_wp2_with fail; refine Mix.stays ?_; go_frame; rfl) ?_; go_frame)
                    | (refine Mix.go_lookW (by first | exact Mix.wanted_none rfl | exact Mix.wanted_yes rfl rfl rfl) _ (by rfl) (by rfl) _ (by go_wp2_with fail; refine Mix.stays ?_; go_frame; rfl) ?_; go_frame))
                  refine Mix.go_turn ?_
                  go_wp2_with fail
                  refine (HSM.out wb).mono ?_
                  rintro e we ⟨rfl, hFh⟩
                  have HFH := Lib.hid (HFG.out.trans' hFh)
                  clear hFh
                  go_wp2
                  refine Mix.then_go HFH.out ?_
                  repeat (first
                    | (refine Mix.go_skipS (by exact Mix.wanted_no rfl rfl rfl rfl) ?_; go_frame)
                    | (refine Mix.go_skipL (by exact Mix.wanted_no rfl rfl rfl rfl) ?_; go_frame)
                    | (refine Mix.go_move (by first | exact Mix.wanted_none rfl | exact Mix.wanted_yes rfl rfl rfl) _ rfl _ (by first | (go_simp; done) | (go_simp; rfl)) ?_; go_frame)
                    | (refine Mix.go_assign (by first | exact Mix.wanted_none rfl | exact Mix.wanted_yes rfl rfl rfl) _ rfl _ (by first | (go_simp; done) | (go_simp; rfl)) ?_; go_frame)
                    | (refine Mix.go_sure_row (by first | exact Mix.wanted_none rfl | exact Mix.wanted_yes rfl rfl rfl) 27 _ rfl (W2.heap.size) rfl 27 _ (0, 0) _ (fun w1 hC1 => hC1.heap HCb.out (fun f => f)) Try.underlying27 rfl (by kernel_rfl) ?_; go_frame)
                    | (refine Mix.go_sure_row (by first | exact Mix.wanted_none rfl | exact Mix.wanted_yes rfl rfl rfl) 39 _ rfl (W5.heap.size) rfl 39 _ (0, 0) _ (fun w1 hC1 => hC1.heap HDb.out (fun f => f)) Try.underlying39 rfl (by kernel_rfl) ?_; go_frame)
                    | (refine Mix.go_sure_row (by first | exact Mix.wanted_none rfl | exact Mix.wanted_yes rfl rfl rfl) 27 _ rfl (w.heap.size) rfl 27 _ (0, 0) _ (fun w1 hC1 => hC1.heap HAH.out (fun f => f)) Try.underlying27 rfl (by kernel_rfl) ?_; go_frame)
                    | (refine Mix.go_sure_row (by first | exact Mix.wanted_none rfl | exact Mix.wanted_yes rfl rfl rfl) 27 _ rfl ((w.heap.size+1)) rfl 27 _ (0, 0) _ (fun w1 hC1 => hC1.heap HBH.out (fun f => f)) Try.underlying27 rfl (by kernel_rfl) ?_; go_frame)
                    | (refine Mix.go_sureW (by first | exact Mix.wanted_none rfl | exact Mix.wanted_yes rfl rfl rfl) _ (by rfl) (by rfl) _ (fun w' hC' => by go_wp2_with fail; refine Mix.stays ?_; go_frame; rfl) ?_; go_frame)
                    | (refine Mix.go_lookW (by first | exact Mix.wanted_none rfl | exact Mix.wanted_yes rfl rfl rfl) _ (by rfl) (by rfl) _ (by go_wp2_with fail; refine Mix.stays ?_; go_frame; rfl) ?_; go_frame))
                  refine Mix.go_end ?_
                  go_wp2_with fail
                  go_meet
                  exact ⟨rfl, HFH⟩
                · obtain rfl : r = false := HSK.out.trans (by simp [hxy])
                  have zn : (X == Y) = false := beq_eq_false_iff_ne.2 hxy
                  clear hxy
                  refine Mix.law (fun X => Fr0 Wb X) [(.sure, 0), (.sure, 2), (.turn, 1), (.turn, 3), (.sure, 4), (.sure, 5), (.sure, 6), (.sure, 7), (.sure, 8), (.sure, 9), (.sure, 10), (.sure, 11), (.sure, 12), (.sure, 13), (.sure, 14), (.sure, 15), (.sure, 16), (.sure, 17), (.sure, 18), (.sure, 19), (.sure, 20), (.sure, 21), (.sure, 22), (.sure, 24), (.sure, 25), (.turn, 23), (.sure, 26), (.sure, 27), (.sure, 28), (.sure, 29), (.sure, 30), (.sure, 31), (.sure, 32), (.sure, 33), (.sure, 34), (.sure, 35), (.sure, 36)] (by kernel_rfl) (by kernel_rfl) (Fr.refl _ _).drew ?_
                  simp only [List.map_cons, List.map_nil, Mix.nth_zero, Mix.nth_succ]
                  have HDR := Lib.hid ((Fr.refl (fun _ => False) Wb).drew)
                  generalize Wb.drew = wd at *
                  repeat (first
                    | (refine Mix.go_skipS (by exact Mix.wanted_no rfl rfl rfl rfl) ?_; go_frame)
                    | (refine Mix.go_skipL (by exact Mix.wanted_no rfl rfl rfl rfl) ?_; go_frame)
                    | (refine Mix.go_move (by first | exact Mix.wanted_none rfl | exact Mix.wanted_yes rfl rfl rfl) _ rfl _ (by first | (go_simp; done) | (go_simp; rfl)) ?_; go_frame)
                    | (refine Mix.go_assign (by first | exact Mix.wanted_none rfl | exact Mix.wanted_yes rfl rfl rfl) _ rfl _ (by first | (go_simp; done) | (go_simp; rfl)) ?_; go_frame)
                    | (refine Mix.go_sure_row (by first | exact Mix.wanted_none rfl | exact Mix.wanted_yes rfl rfl rfl) 27 _ rfl (W2.heap.size) rfl 27 _ (0, 0) _ (fun w1 hC1 => hC1.heap HCb.out (fun f => f)) Try.underlying27 rfl (by kernel_rfl) ?_; go_frame)
                    | (refine Mix.go_sure_row (by first | exact Mix.wanted_none rfl | exact Mix.wanted_yes rfl rfl rfl) 39 _ rfl (W5.heap.size) rfl 39 _ (0, 0) _ (fun w1 hC1 => hC1.heap HDb.out (fun f => f)) Try.underlying39 rfl (by kernel_rfl) ?_; go_frame)
                    | (refine Mix.go_sure_row (by first | exact Mix.wanted_none rfl | exact Mix.wanted_yes rfl rfl rfl) 27 _ rfl (w.heap.size) rfl 27 _ (0, 0) _ (fun w1 hC1 => hC1.heap HAH.out (fun f => f)) Try.underlying27 rfl (by kernel_rfl) ?_; go_frame)
                    | (refine Mix.go_sure_row (by first | exact Mix.wanted_none rfl | exact Mix.wanted_yes rfl rfl rfl) 27 _ rfl ((w.heap.size+1)) rfl 27 _ (0, 0) _ (fun w1 hC1 => hC1.heap HBH.out (fun f => f)) Try.underlying27 rfl (by kernel_rfl) ?_; go_frame)
                    | (refine Mix.go_sureW (by first | exact Mix.wanted_none rfl | exact Mix.wanted_yes rfl rfl rfl) _ (by rfl) (by rfl) _ (fun w' hC' => by go_wp2_with fail; refine Mix.stays ?_; go_frame; rfl) ?_; go_frame)
                    | (refine Mix.go_lookW (by first | exact Mix.wanted_none rfl | exact Mix.wanted_yes rfl rfl rfl) _ (by rfl) (by rfl) _ (by go_wp2_with fail; refine Mix.stays ?_; go_frame; rfl) ?_; go_frame))
                  refine Mix.go_turn ?_
                  go_wp2_with fail
                  refine (HON.out wd).mono ?_
                  rintro e wa ⟨Ae, Ce, rfl, hPe, hFe⟩
                  have HFE := Lib.hid (HDR.out.trans' hFe)
                  have hss := HSS.out Ae A5 Ce C5 wa hPe (HPb.out.fr0 HFE.out)
                  clear hPe hFe
                  go_wp2
                  refine Mix.then_go HFE.out ?_
                  refine Mix.go_turn ?_
                  go_wp2_with fail
                  refine hss.mono ?_
                  clear hss
                  rintro e wb ⟨rfl, hFf⟩
                  have HFG := Lib.hid (HFE.out.trans' hFf)
                  clear hFf
                  go_wp2
                  refine Mix.then_go HFG.out ?_
                  repeat (first
                    | (refine Mix.go_skipS (by exact Mix.wanted_no rfl rfl rfl rfl) ?_; go_frame)
                    | (refine Mix.go_skipL (by exact Mix.wanted_no rfl rfl rfl rfl) ?_; go_frame)
                    | (refine Mix.go_move (by first | exact Mix.wanted_none rfl | exact Mix.wanted_yes rfl rfl rfl) _ rfl _ (by first | (go_simp; done) | (go_simp; rfl)) ?_; go_frame)
                    | (refine Mix.go_assign (by first | exact Mix.wanted_none rfl | exact Mix.wanted_yes rfl rfl rfl) _ rfl _ (by first | (go_simp; done) | (go_simp; rfl)) ?_; go_frame)
                    | (refine Mix.go_sure_row (by first | exact Mix.wanted_none rfl | exact Mix.wanted_yes rfl rfl rfl) 27 _ rfl (W2.heap.size) rfl 27 _ (0, 0) _ (fun w1 hC1 => hC1.heap HCb.out (fun f => f)) Try.underlying27 rfl (by kernel_rfl) ?_; go_frame)
                    | (refine Mix.go_sure_row (by first | exact Mix.wanted_none rfl | exact Mix.wanted_yes rfl rfl rfl) 39 _ rfl (W5.heap.size) rfl 39 _ (0, 0) _ (fun w1 hC1 => hC1.heap HDb.out (fun f => f)) Try.underlying39 rfl (by kernel_rfl) ?_; go_frame)
                    | (refine Mix.go_sure_row (by first | exact Mix.wanted_none rfl | exact Mix.wanted_yes rfl rfl rfl) 27 _ rfl (w.heap.size) rfl 27 _ (0, 0) _ (fun w1 hC1 => hC1.heap HAH.out (fun f => f)) Try.underlying27 rfl (by kernel_rfl) ?_; go_frame)
                    | (refine Mix.go_sure_row (by first | exact Mix.wanted_none rfl | exact Mix.wanted_yes rfl rfl rfl) 27 _ rfl ((w.heap.size+1)) rfl 27 _ (0, 0) _ (fun w1 hC1 => hC1.heap HBH.out (fun f => f)) Try.underlying27 rfl (by kernel_rfl) ?_; go_frame)
                    | (refine Mix.go_sureW (by first | exact Mix.wanted_none rfl | exact Mix.wanted_yes rfl rfl rfl) _ (by rfl) (by rfl) _ (fun w' hC' => by go_wp2_with fail; refine Mix.stays ?_; go_frame; rfl) ?_; go_frame)
                    | (refine Mix.go_lookW (by first | exact Mix.wanted_none rfl | exact Mix.wanted_yes rfl rfl rfl) _ (by rfl) (by rfl) _ (by go_wp2_with fail; refine Mix.stays ?_; go_frame; rfl) ?_; go_frame))
                  refine Mix.go_turn ?_
                  go_wp2_with fail
                  refine (HSM.out wb).mono ?_
                  rintro e we ⟨rfl, hFh⟩
                  have HFH := Lib.hid (HFG.out.trans' hFh)
                  clear hFh
                  go_wp2
                  refine Mix.then_go HFH.out ?_
                  repeat (first
                    | (refine Mix.go_skipS (by exact Mix.wanted_no rfl rfl rfl rfl) ?_; go_frame)
                    | (refine Mix.go_skipL (by exact Mix.wanted_no rfl rfl rfl rfl) ?_; go_frame)
                    | (refine Mix.go_move (by first | exact Mix.wanted_none rfl | exact Mix.wanted_yes rfl rfl rfl) _ rfl _ (by first | (go_simp; done) | (go_simp; rfl)) ?_; go_frame)
                    | (refine Mix.go_assign (by first | exact Mix.wanted_none rfl | exact Mix.wanted_yes rfl rfl rfl) _ rfl _ (by first | (go_simp; done) | (go_simp; rfl)) ?_; go_frame)
                    | (refine Mix.go_sure_row (by first | exact Mix.wanted_none rfl | exact Mix.wanted_yes rfl rfl rfl) 27 _ rfl (W2.heap.size) rfl 27 _ (0, 0) _ (fun w1 hC1 => hC1.heap HCb.out (fun f => f)) Try.underlying27 rfl (by kernel_rfl) ?_; go_frame)
                    | (refine Mix.go_sure_row (by first | exact Mix.wanted_none rfl | exact Mix.wanted_yes rfl rfl rfl) 39 _ rfl (W5.heap.size) rfl 39 _ (0, 0) _ (fun w1 hC1 => hC1.heap HDb.out (fun f => f)) Try.underlying39 rfl (by kernel_rfl) ?_; go_frame)
                    | (refine Mix.go_sure_row (by first | exact Mix.wanted_none rfl | exact Mix.wanted_yes rfl rfl rfl) 27 _ rfl (w.heap.size) rfl 27 _ (0, 0) _ (fun w1 hC1 => hC1.heap HAH.out (fun f => f)) Try.underlying27 rfl (by kernel_rfl) ?_; go_frame)
                    | (refine Mix.go_sure_row (by first | exact Mix.wanted_none rfl | exact Mix.wanted_yes rfl rfl rfl) 27 _ rfl ((w.heap.size+1)) rfl 27 _ (0, 0) _ (fun w1 hC1 => hC1.heap HBH.out (fun f => f)) Try.underlying27 rfl (by kernel_rfl) ?_; go_frame)
                    | (refine Mix.go_sureW (by first | exact Mix.wanted_none rfl | exact Mix.wanted_yes rfl rfl rfl) _ (by rfl) (by rfl) _ (fun w' hC' => by go_wp2_with fail; refine Mix.stays ?_; go_frame; rfl) ?_; go_frame)
                    | (refine Mix.go_lookW (by first | exact Mix.wanted_none rfl | exact Mix.wanted_yes rfl rfl rfl) _ (by rfl) (by rfl) _ (by go_wp2_with fail; refine Mix.stays ?_; go_frame; rfl) ?_; go_frame))
                  refine Mix.go_end ?_
                  go_wp2_with fail
                  go_meet
                  exact ⟨rfl, HFH⟩
              · obtain rfl : r = false := HSK.out.trans (by simp)
                refine Mix.law (fun X => Fr0 Wb X) [(.sure, 0), (.sure, 2), (.turn, 1), (.turn, 3), (.sure, 4), (.sure, 5), (.sure, 6), (.sure, 7), (.sure, 8), (.sure, 9), (.sure, 10), (.sure, 11), (.sure, 12), (.sure, 13), (.sure, 14), (.sure, 15), (.sure, 16), (.sure, 17), (.sure, 18), (.sure, 19), (.sure, 20), (.sure, 21), (.sure, 22), (.sure, 24), (.sure, 25), (.turn, 23), (.sure, 26), (.sure, 27), (.sure, 28), (.sure, 29), (.sure, 30), (.sure, 31), (.sure, 32), (.sure, 33), (.sure, 34), (.sure, 35), (.sure, 36)] (by kernel_rfl) (by kernel_rfl) (Fr.refl _ _).drew ?_
                simp only [List.map_cons, List.map_nil, Mix.nth_zero, Mix.nth_succ]
                have HDR := Lib.hid ((Fr.refl (fun _ => False) Wb).drew)
                generalize Wb.drew = wd at *
                repeat (first
                  | (refine Mix.go_skipS (by exact Mix.wanted_no rfl rfl rfl rfl) ?_; go_frame)
                  | (refine Mix.go_skipL (by exact Mix.wanted_no rfl rfl rfl rfl) ?_; go_frame)
                  | (refine Mix.go_move (by first | exact Mix.wanted_none rfl | exact Mix.wanted_yes rfl rfl rfl) _ rfl _ (by first | (go_simp; done) | (go_simp; rfl)) ?_; go_frame)
                  | (refine Mix.go_assign (by first | exact Mix.wanted_none rfl | exact Mix.wanted_yes rfl rfl rfl) _ rfl _ (by first | (go_simp; done) | (go_simp; rfl)) ?_; go_frame)
                  | (refine Mix.go_sure_row (by first | exact Mix.wanted_none rfl | exact Mix.wanted_yes rfl rfl rfl) 27 _ rfl (W2.heap.size) rfl 27 _ (0, 0) _ (fun w1 hC1 => hC1.heap HCb.out (fun f => f)) Try.underlying27 rfl (by kernel_rfl) ?_; go_frame)
                  | (refine Mix.go_sure_row (by first | exact Mix.wanted_none rfl | exact Mix.wanted_yes rfl rfl rfl) 39 _ rfl (W5.heap.size) rfl 39 _ (0, 0) _ (fun w1 hC1 => hC1.heap HDb.out (fun f => f)) Try.underlying39 rfl (by kernel_rfl) ?_; go_frame)
                  | (refine Mix.go_sure_row (by first | exact Mix.wanted_none rfl | exact Mix.wanted_yes rfl rfl rfl) 27 _ rfl (w.heap.size) rfl 27 _ (0, 0) _ (fun w1 hC1 => hC1.heap HAH.out (fun f => f)) Try.underlying27 rfl (by kernel_rfl) ?_; go_frame)
                  | (refine Mix.go_sure_row (by first | exact Mix.wanted_none rfl | exact Mix.wanted_yes rfl rfl rfl) 27 _ rfl ((w.heap.size+1)) rfl 27 _ (0, 0) _ (fun w1 hC1 => hC1.heap HBH.out (fun f => f)) Try.underlying27 rfl (by kernel_rfl) ?_; go_frame)
                  | (refine Mix.go_sureW (by first | exact Mix.wanted_none rfl | exact Mix.wanted_yes rfl rfl rfl) _ (by rfl) (by rfl) _ (fun w' hC' => by go_wp2_with fail; refine Mix.stays ?_; go_frame; rfl) ?_; go_frame)
                  | (refine Mix.go_lookW (by first | exact Mix.wanted_none rfl | exact Mix.wanted_yes rfl rfl rfl) _ (by rfl) (by rfl) _ (by go_wp2_with fail; refine Mix.stays ?_; go_frame; rfl) ?_; go_frame))
                refine Mix.go_turn ?_
                go_wp2_with fail
                refine (HON.out wd).mono ?_
                rintro e wa ⟨Ae, Ce, rfl, hPe, hFe⟩
                have HFE := Lib.hid (HDR.out.trans' hFe)
                have hss := HSS.out Ae A5 Ce C5 wa hPe (HPb.out.fr0 HFE.out)
                clear hPe hFe
                go_wp2
                refine Mix.then_go HFE.out ?_
                refine Mix.go_turn ?_
                go_wp2_with fail
                refine hss.mono ?_
                clear hss
                rintro e wb ⟨rfl, hFf⟩
                have HFG := Lib.hid (HFE.out.trans' hFf)
                clear hFf
                go_wp2
                refine Mix.then_go HFG.out ?_
                repeat (first
                  | (refine Mix.go_skipS (by exact Mix.wanted_no rfl rfl rfl rfl) ?_; go_frame)
                  | (refine Mix.go_skipL (by exact Mix.wanted_no rfl rfl rfl rfl) ?_; go_frame)
                  | (refine Mix.go_move (by first | exact Mix.wanted_none rfl | exact Mix.wanted_yes rfl rfl rfl) _ rfl _ (by first | (go_simp; done) | (go_simp; rfl)) ?_; go_frame)
                  | (refine Mix.go_assign (by first | exact Mix.wanted_none rfl | exact Mix.wanted_yes rfl rfl rfl) _ rfl _ (by first | (go_simp; done) | (go_simp; rfl)) ?_; go_frame)
                  | (refine Mix.go_sure_row (by first | exact Mix.wanted_none rfl | exact Mix.wanted_yes rfl rfl rfl) 27 _ rfl (W2.heap.size) rfl 27 _ (0, 0) _ (fun w1 hC1 => hC1.heap HCb.out (fun f => f)) Try.underlying27 rfl (by kernel_rfl) ?_; go_frame)
                  | (refine Mix.go_sure_row (by first | exact Mix.wanted_none rfl | exact Mix.wanted_yes rfl rfl rfl) 39 _ rfl (W5.heap.size) rfl 39 _ (0, 0) _ (fun w1 hC1 => hC1.heap HDb.out (fun f => f)) Try.underlying39 rfl (by kernel_rfl) ?_; go_frame)
                  | (refine Mix.go_sure_row (by first | exact Mix.wanted_none rfl | exact Mix.wanted_yes rfl rfl rfl) 27 _ rfl (w.heap.size) rfl 27 _ (0, 0) _ (fun w1 hC1 => hC1.heap HAH.out (fun f => f)) Try.underlying27 rfl (by kernel_rfl) ?_; go_frame)
                  | (refine Mix.go_sure_row (by first | exact Mix.wanted_none rfl | exact Mix.wanted_yes rfl rfl rfl) 27 _ rfl ((w.heap.size+1)) rfl 27 _ (0, 0) _ (fun w1 hC1 => hC1.heap HBH.out (fun f => f)) Try.underlying27 rfl (by kernel_rfl) ?_; go_frame)
                  | (refine Mix.go_sureW (by first | exact Mix.wanted_none rfl | exact Mix.wanted_yes rfl rfl rfl) _ (by rfl) (by rfl) _ (fun w' hC' => by go_wp2_with fail; refine Mix.stays ?_; go_frame; rfl) ?_; go_frame)
                  | (refine Mix.go_lookW (by first | exact Mix.wanted_none rfl | exact Mix.wanted_yes rfl rfl rfl) _ (by rfl) (by rfl) _ (by go_wp2_with fail; refine Mix.stays ?_; go_frame; rfl) ?_; go_frame))
                refine Mix.go_turn ?_
                go_wp2_with fail
                refine (HSM.out wb).mono ?_
                rintro e we ⟨rfl, hFh⟩
                have HFH := Lib.hid (HFG.out.trans' hFh)
                clear hFh
                go_wp2
                refine Mix.then_go HFH.out ?_
                repeat (first
                  | (refine Mix.go_skipS (by exact Mix.wanted_no rfl rfl rfl rfl) ?_; go_frame)
                  | (refine Mix.go_skipL (by exact Mix.wanted_no rfl rfl rfl rfl) ?_; go_frame)
                  | (refine Mix.go_move (by first | exact Mix.wanted_none rfl | exact Mix.wanted_yes rfl rfl rfl) _ rfl _ (by first | (go_simp; done) | (go_simp; rfl)) ?_; go_frame)
                  | (refine Mix.go_assign (by first | exact Mix.wanted_none rfl | exact Mix.wanted_yes rfl rfl rfl) _ rfl _ (by first | (go_simp; done) | (go_simp; rfl)) ?_; go_frame)
                  | (refine Mix.go_sure_row (by first | exact Mix.wanted_none rfl | exact Mix.wanted_yes rfl rfl rfl) 27 _ rfl (W2.heap.size) rfl 27 _ (0, 0) _ (fun w1 hC1 => hC1.heap HCb.out (fun f => f)) Try.underlying27 rfl (by kernel_rfl) ?_; go_frame)
                  | (refine Mix.go_sure_row (by first | exact Mix.wanted_none rfl | exact Mix.wanted_yes rfl rfl rfl) 39 _ rfl (W5.heap.size) rfl 39 _ (0, 0) _ (fun w1 hC1 => hC1.heap HDb.out (fun f => f)) Try.underlying39 rfl (by kernel_rfl) ?_; go_frame)
                  | (refine Mix.go_sure_row (by first | exact Mix.wanted_none rfl | exact Mix.wanted_yes rfl rfl rfl) 27 _ rfl (w.heap.size) rfl 27 _ (0, 0) _ (fun w1 hC1 => hC1.heap HAH.out (fun f => f)) Try.underlying27 rfl (by kernel_rfl) ?_; go_frame)
                  | (refine Mix.go_sure_row (by first | exact Mix.wanted_none rfl | exact Mix.wanted_yes rfl rfl rfl) 27 _ rfl ((w.heap.size+1)) rfl 27 _ (0, 0) _ (fun w1 hC1 => hC1.heap HBH.out (fun f => f)) Try.underlying27 rfl (by kernel_rfl) ?_; go_frame)
                  | (refine Mix.go_sureW (by first | exact Mix.wanted_none rfl | exact Mix.wanted_yes rfl rfl rfl) _ (by rfl) (by rfl) _ (fun w' hC' => by go_wp2_with fail; refine Mix.stays ?_; go_frame; rfl) ?_; go_frame)
                  | (refine Mix.go_lookW (by first | exact Mix.wanted_none rfl | exact Mix.wanted_yes rfl rfl rfl) _ (by rfl) (by rfl) _ (by go_wp2_with fail; refine Mix.stays ?_; go_frame; rfl) ?_; go_frame))
                refine Mix.go_end ?_
                go_wp2_with fail
                go_meet
                exact ⟨rfl, HFH⟩
            · obtain rfl : r = false := HSK.out.trans (by simp)
              refine Mix.law (fun X => Fr0 Wb X) [(.sure, 0), (.sure, 2), (.turn, 1), (.turn, 3), (.sure, 4), (.sure, 5), (.sure, 6), (.sure, 7), (.sure, 8), (.sure, 9), (.sure, 10), (.sure, 11), (.sure, 12), (.sure, 13), (.sure, 14), (.sure, 15), (.sure, 16), (.sure, 17), (.sure, 18), (.sure, 19), (.sure, 20), (.sure, 21), (.sure, 22), (.sure, 24), (.sure, 25), (.turn, 23), (.sure, 26), (.sure, 27), (.sure, 28), (.sure, 29), (.sure, 30), (.sure, 31), (.sure, 32), (.sure, 33), (.sure, 34), (.sure, 35), (.sure, 36)] (by kernel_rfl) (by kernel_rfl) (Fr.refl _ _).drew ?_
              simp only [List.map_cons, List.map_nil, Mix.nth_zero, Mix.nth_succ]
              have HDR := Lib.hid ((Fr.refl (fun _ => False) Wb).drew)
              generalize Wb.drew = wd at *
              repeat (first
                | (refine Mix.go_skipS (by exact Mix.wanted_no rfl rfl rfl rfl) ?_; go_frame)
                | (refine Mix.go_skipL (by exact Mix.wanted_no rfl rfl rfl rfl) ?_; go_frame)
                | (refine Mix.go_move (by first | exact Mix.wanted_none rfl | exact Mix.wanted_yes rfl rfl rfl) _ rfl _ (by first | (go_simp; done) | (go_simp; rfl)) ?_; go_frame)
                | (refine Mix.go_assign (by first | exact Mix.wanted_none rfl | exact Mix.wanted_yes rfl rfl rfl) _ rfl _ (by first | (go_simp; done) | (go_simp; rfl)) ?_; go_frame)
                | (refine Mix.go_sure_row (by first | exact Mix.wanted_none rfl | exact Mix.wanted_yes rfl rfl rfl) 27 _ rfl (W2.heap.size) rfl 27 _ (0, 0) _ (fun w1 hC1 => hC1.heap HCb.out (fun f => f)) Try.underlying27 rfl (by kernel_rfl) ?_; go_frame)
                | (refine Mix.go_sure_row (by first | exact Mix.wanted_none rfl | exact Mix.wanted_yes rfl rfl rfl) 39 _ rfl (W5.heap.size) rfl 39 _ (0, 0) _ (fun w1 hC1 => hC1.heap HDb.out (fun f => f)) Try.underlying39 rfl (by kernel_rfl) ?_; go_frame)
                | (refine Mix.go_sure_row (by first | exact Mix.wanted_none rfl | exact Mix.wanted_yes rfl rfl rfl) 27 _ rfl (w.heap.size) rfl 27 _ (0, 0) _ (fun w1 hC1 => hC1.heap HAH.out (fun f => f)) Try.underlying27 rfl (by kernel_rfl) ?_; go_frame)
                | (refine Mix.go_sure_row (by first | exact Mix.wanted_none rfl | exact Mix.wanted_yes rfl rfl rfl) 27 _ rfl ((w.heap.size+1)) rfl 27 _ (0, 0) _ (fun w1 hC1 => hC1.heap HBH.out (fun f => f)) Try.underlying27 rfl (by kernel_rfl) ?_; go_frame)
                | (refine Mix.go_sureW (by first | exact Mix.wanted_none rfl | exact Mix.wanted_yes rfl rfl rfl) _ (by rfl) (by rfl) _ (fun w' hC' => by go_wp2_with fail; refine Mix.stays ?_; go_frame; rfl) ?_; go_frame)
                | (refine Mix.go_lookW (by first | exact Mix.wanted_none rfl | exact Mix.wanted_yes rfl rfl rfl) _ (by rfl) (by rfl) _ (by go_wp2_with fail; refine Mix.stays ?_; go_frame; rfl) ?_; go_frame))
              refine Mix.go_turn ?_
              go_wp2_with fail
              refine (HON.out wd).mono ?_
              rintro e wa ⟨Ae, Ce, rfl, hPe, hFe⟩
              have HFE := Lib.hid (HDR.out.trans' hFe)
              have hss := HSS.out Ae A5 Ce C5 wa hPe (HPb.out.fr0 HFE.out)
              clear hPe hFe
              go_wp2
              refine Mix.then_go HFE.out ?_
              refine Mix.go_turn ?_
              go_wp2_with fail
              refine hss.mono ?_
              clear hss
              rintro e wb ⟨rfl, hFf⟩
              have HFG := Lib.hid (HFE.out.trans' hFf)
              clear hFf
              go_wp2
              refine Mix.then_go HFG.out ?_
              repeat (first
                | (refine Mix.go_skipS (by exact Mix.wanted_no rfl rfl rfl rfl) ?_; go_frame)
                | (refine Mix.go_skipL (by exact Mix.wanted_no rfl rfl rfl rfl) ?_; go_frame)
                | (refine Mix.go_move (by first | exact Mix.wanted_none rfl | exact Mix.wanted_yes rfl rfl rfl) _ rfl _ (by first | (go_simp; done) | (go_simp; rfl)) ?_; go_frame)
                | (refine Mix.go_assign (by first | exact Mix.wanted_none rfl | exact Mix.wanted_yes rfl rfl rfl) _ rfl _ (by first | (go_simp; done) | (go_simp; rfl)) ?_; go_frame)
                | (refine Mix.go_sure_row (by first | exact Mix.wanted_none rfl | exact Mix.wanted_yes rfl rfl rfl) 27 _ rfl (W2.heap.size) rfl 27 _ (0, 0) _ (fun w1 hC1 => hC1.heap HCb.out (fun f => f)) Try.underlying27 rfl (by kernel_rfl) ?_; go_frame)
                | (refine Mix.go_sure_row (by first | exact Mix.wanted_none rfl | exact Mix.wanted_yes rfl rfl rfl) 39 _ rfl (W5.heap.size) rfl 39 _ (0, 0) _ (fun w1 hC1 => hC1.heap HDb.out (fun f => f)) Try.underlying39 rfl (by kernel_rfl) ?_; go_frame)
                | (refine Mix.go_sure_row (by first | exact Mix.wanted_none rfl | exact Mix.wanted_yes rfl rfl rfl) 27 _ rfl (w.heap.size) rfl 27 _ (0, 0) _ (fun w1 hC1 => hC1.heap HAH.out (fun f => f)) Try.underlying27 rfl (by kernel_rfl) ?_; go_frame)
                | (refine Mix.go_sure_row (by first | exact Mix.wanted_none rfl | exact Mix.wanted_yes rfl rfl rfl) 27 _ rfl ((w.heap.size+1)) rfl 27 _ (0, 0) _ (fun w1 hC1 => hC1.heap HBH.out (fun f => f)) Try.underlying27 rfl (by kernel_rfl) ?_; go_frame)
                | (refine Mix.go_sureW (by first | exact Mix.wanted_none rfl | exact Mix.wanted_yes rfl rfl rfl) _ (by rfl) (by rfl) _ (fun w' hC' => by go_wp2_with fail; refine Mix.stays ?_; go_frame; rfl) ?_; go_frame)
                | (refine Mix.go_lookW (by first | exact Mix.wanted_none rfl | exact Mix.wanted_yes rfl rfl rfl) _ (by rfl) (by rfl) _ (by go_wp2_with fail; refine Mix.stays ?_; go_frame; rfl) ?_; go_frame))
              refine Mix.go_turn ?_
              go_wp2_with fail
              refine (HSM.out wb).mono ?_
              rintro e we ⟨rfl, hFh⟩
              have HFH := Lib.hid (HFG.out.trans' hFh)
              clear hFh
              go_wp2
              refine Mix.then_go HFH.out ?_
              repeat (first
                | (refine Mix.go_skipS (by exact Mix.wanted_no rfl rfl rfl rfl) ?_; go_frame)
                | (refine Mix.go_skipL (by exact Mix.wanted_no rfl rfl rfl rfl) ?_; go_frame)
                | (refine Mix.go_move (by first | exact Mix.wanted_none rfl | exact Mix.wanted_yes rfl rfl rfl) _ rfl _ (by first | (go_simp; done) | (go_simp; rfl)) ?_; go_frame)
                | (refine Mix.go_assign (by first | exact Mix.wanted_none rfl | exact Mix.wanted_yes rfl rfl rfl) _ rfl _ (by first | (go_simp; done) | (go_simp; rfl)) ?_; go_frame)
                | (refine Mix.go_sure_row (by first | exact Mix.wanted_none rfl | exact Mix.wanted_yes rfl rfl rfl) 27 _ rfl (W2.heap.size) rfl 27 _ (0, 0) _ (fun w1 hC1 => hC1.heap HCb.out (fun f => f)) Try.underlying27 rfl (by kernel_rfl) ?_; go_frame)
                | (refine Mix.go_sure_row (by first | exact Mix.wanted_none rfl | exact Mix.wanted_yes rfl rfl rfl) 39 _ rfl (W5.heap.size) rfl 39 _ (0, 0) _ (fun w1 hC1 => hC1.heap HDb.out (fun f => f)) Try.underlying39 rfl (by kernel_rfl) ?_; go_frame)
                | (refine Mix.go_sure_row (by first | exact Mix.wanted_none rfl | exact Mix.wanted_yes rfl rfl rfl) 27 _ rfl (w.heap.size) rfl 27 _ (0, 0) _ (fun w1 hC1 => hC1.heap HAH.out (fun f => f)) Try.underlying27 rfl (by kernel_rfl) ?_; go_frame)
                | (refine Mix.go_sure_row (by first | exact Mix.wanted_none rfl | exact Mix.wanted_yes rfl rfl rfl) 27 _ rfl ((w.heap.size+1)) rfl 27 _ (0, 0) _ (fun w1 hC1 => hC1.heap HBH.out (fun f => f)) Try.underlying27 rfl (by kernel_rfl) ?_; go_frame)
                | (refine Mix.go_sureW (by first | exact Mix.wanted_none rfl | exact Mix.wanted_yes rfl rfl rfl) _ (by rfl) (by rfl) _ (fun w' hC' => by go_wp2_with fail; refine Mix.stays ?_; go_frame; rfl) ?_; go_frame)
                | (refine Mix.go_lookW (by first | exact Mix.wanted_none rfl | exact Mix.wanted_yes rfl rfl rfl) _ (by rfl) (by rfl) _ (by go_wp2_with fail; refine Mix.stays ?_; go_frame; rfl) ?_; go_frame))
              refine Mix.go_end ?_
              go_wp2_with fail
              go_meet
              exact ⟨rfl, HFH⟩
          case rest =>
            obtain ⟨rfl, HFc⟩ := hcut
            have HF := Lib.hid (HFb.out.trans' HFc.out)
            have HAc := Lib.hid (HAb.out.fr0 HFc.out)
            have HCc := Lib.hid (HFc.out.heap HCb.out (fun f => f))
            clear HFb HAb HBb HCb HDb HPb HFc HRC HRK HRKB HOWN HOWNB HKEY HSM HSK
            cases hq : isQ a with
            | false =>
              have h1 := HNO.out hq
              have hp : (p != 0) = true := by rw [h1]; rfl
              clear hq h1
              go_wp2
              go_ret
              exact ⟨rfl, HF.out⟩
            | true =>
              have hoo := HOO.out hq wc
              have hso := HSO.out hq
              obtain rfl : p = 0 := HPO.out hq
              clear hq HOO HSO
              have HSO := Lib.hid hso
              clear hso
              go_wp2_with (refine wpList_load_row rfl 27 _ rfl (W2.heap.size) rfl 27 _ (0, 0) _ HCc.out Try.underlying27 rfl (by kernel_rfl) ?_)
              refine hoo.mono ?_
              clear hoo
              rintro e Wd ⟨rfl, hFd⟩
              have HFd := Lib.hid (HF.out.trans' hFd)
              have HAd := Lib.hid (HAc.out.fr0 hFd)
              have HCd := Lib.hid (hFd.heap HCc.out (fun f => f))
              clear hFd HAc HCc HF
              have hg7 := heap_alloc_new Wd (.cells #[.int .i64 0, .string ⟨#[]⟩, .slice none 0 0, .int .i64 0, .int .i64 0, .int .i64 0] 27)
              obtain ⟨We, hW7⟩ : ∃ W', W' = (Wd.alloc (.cells #[.int .i64 0, .string ⟨#[]⟩, .slice none 0 0, .int .i64 0, .int .i64 0, .int .i64 0] 27)).setRow Wd.heap.size #[.int .i64 o.k, .string ⟨o.n.toArray⟩, .slice none 0 0, .int .i64 o.f, .int .i64 o.t, .int .i64 o.wn] := ⟨_, rfl⟩
              have hr7 := setRow_heap _ Wd.heap.size _ #[.int .i64 o.k, .string ⟨o.n.toArray⟩, .slice none 0 0, .int .i64 o.f, .int .i64 o.t, .int .i64 o.wn] _ _ hg7
              rw [← hW7] at hr7
              have hf7 : Fr0 Wd We := by rw [hW7]; exact Fr.setRow ((Fr.refl _ _).alloc _) (fun h => absurd h (Nat.lt_irrefl _)) _
              have HKR7 := Lib.hid hr7
              have HKW7 := Lib.hid hW7
              have HKG7 := Lib.hid hg7
              have HKF7 := Lib.hid hf7
              clear hg7 hW7 hr7 hf7
              have HFe := Lib.hid (HFd.out.trans' HKF7.out)
              have HAe := Lib.hid (HKF7.out.heap HAd.out.heap (fun f => f))
              have HCe := Lib.hid (HKF7.out.heap HCd.out (fun f => f))
              clear HAd HCd HFd
              go_wp2_with (refine wpList_store_row rfl 27 _ _ rfl Wd.heap.size #[.int .i64 o.k, .string ⟨o.n.toArray⟩, .slice none 0 0, .int .i64 o.f, .int .i64 o.t, .int .i64 o.wn] rfl rfl 27 _ HKG7.out infoQ rfl (ask_one _ _ _ _ _ _ rfl) ?_; rw [← HKW7.out])
              refine Mix.law (fun X => Fr0 We X) [(.sure, 0), (.sure, 1), (.sure, 2), (.sure, 3), (.sure, 5), (.turn, 4), (.turn, 6), (.turn, 7), (.sure, 8), (.sure, 9), (.sure, 10), (.sure, 11), (.turn, 12), (.sure, 13), (.sure, 14)] (by kernel_rfl) (by kernel_rfl) (Fr.refl _ _).drew ?_
              simp only [List.map_cons, List.map_nil, Mix.nth_zero, Mix.nth_succ]
              have HDR := Lib.hid ((Fr.refl (fun _ => False) We).drew)
              generalize We.drew = wd at *
              repeat (first
                | (refine Mix.go_skipS (by exact Mix.wanted_no rfl rfl rfl rfl) ?_; go_frame)
                | (refine Mix.go_skipL (by exact Mix.wanted_no rfl rfl rfl rfl) ?_; go_frame)
                | (refine Mix.go_move (by first | exact Mix.wanted_none rfl | exact Mix.wanted_yes rfl rfl rfl) _ rfl _ (by first | (go_simp; done) | (go_simp; rfl)) ?_; go_frame)
                | (refine Mix.go_assign (by first | exact Mix.wanted_none rfl | exact Mix.wanted_yes rfl rfl rfl) _ rfl _ (by first | (go_simp; done) | (go_simp; rfl)) ?_; go_frame)
                | (refine Mix.go_sure_row (by first | exact Mix.wanted_none rfl | exact Mix.wanted_yes rfl rfl rfl) 27 _ rfl (W2.heap.size) rfl 27 _ (0, 0) _ (fun w1 hC1 => hC1.heap HCe.out (fun f => f)) Try.underlying27 rfl (by kernel_rfl) ?_; go_frame)
                | (refine Mix.go_sure_row (by first | exact Mix.wanted_none rfl | exact Mix.wanted_yes rfl rfl rfl) 27 _ rfl (Wd.heap.size) rfl 27 _ (0, 0) _ (fun w1 hC1 => hC1.heap HKR7.out (fun f => f)) Try.underlying27 rfl (by kernel_rfl) ?_; go_frame)
                | (refine Mix.go_sure_row (by first | exact Mix.wanted_none rfl | exact Mix.wanted_yes rfl rfl rfl) 27 _ rfl (w.heap.size) rfl 27 _ (0, 0) _ (fun w1 hC1 => hC1.heap HAe.out (fun f => f)) Try.underlying27 rfl (by kernel_rfl) ?_; go_frame)
                | (refine Mix.go_sureW (by first | exact Mix.wanted_none rfl | exact Mix.wanted_yes rfl rfl rfl) _ (by rfl) (by rfl) _ (fun w' hC' => by go_wp2_with fail; refine Mix.stays ?_; go_frame; rfl) ?_; go_frame)
                | (refine Mix.go_lookW (by first | exact Mix.wanted_none rfl | exact Mix.wanted_yes rfl rfl rfl) _ (by rfl) (by rfl) _ (by go_wp2_with fail; refine Mix.stays ?_; go_frame; rfl) ?_; go_frame))
              refine Mix.go_turn ?_
              go_wp2_with fail
              refine (HON.out wd).mono ?_
              rintro e wa ⟨Ae, Ce, rfl, hPe, hFf⟩
              have HFE := Lib.hid (HDR.out.trans' hFf)
              have HPE2 := Lib.hid hPe
              clear hPe hFf
              go_wp2
              refine Mix.then_go HFE.out ?_
              refine Mix.go_turn ?_
              go_wp2_with fail
              refine (HON.out wa).mono ?_
              rintro e wb ⟨Ag, Cg, rfl, hPg, hFg⟩
              have HFG := Lib.hid (HFE.out.trans' hFg)
              have hss := HSS.out Ae Ag Ce Cg wb (HPE2.out.fr0 hFg) hPg
              clear hPg hFg
              go_wp2
              refine Mix.then_go HFG.out ?_
              refine Mix.go_turn ?_
              go_wp2_with fail
              refine hss.mono ?_
              clear hss
              rintro e wq ⟨rfl, hFh⟩
              have HFH := Lib.hid (HFG.out.trans' hFh)
              clear hFh
              go_wp2
              refine Mix.then_go HFH.out ?_
              repeat (first
                | (refine Mix.go_skipS (by exact Mix.wanted_no rfl rfl rfl rfl) ?_; go_frame)
                | (refine Mix.go_skipL (by exact Mix.wanted_no rfl rfl rfl rfl) ?_; go_frame)
                | (refine Mix.go_move (by first | exact Mix.wanted_none rfl | exact Mix.wanted_yes rfl rfl rfl) _ rfl _ (by first | (go_simp; done) | (go_simp; rfl)) ?_; go_frame)
                | (refine Mix.go_assign (by first | exact Mix.wanted_none rfl | exact Mix.wanted_yes rfl rfl rfl) _ rfl _ (by first | (go_simp; done) | (go_simp; rfl)) ?_; go_frame)
                | (refine Mix.go_sure_row (by first | exact Mix.wanted_none rfl | exact Mix.wanted_yes rfl rfl rfl) 27 _ rfl (W2.heap.size) rfl 27 _ (0, 0) _ (fun w1 hC1 => hC1.heap HCe.out (fun f => f)) Try.underlying27 rfl (by kernel_rfl) ?_; go_frame)
                | (refine Mix.go_sure_row (by first | exact Mix.wanted_none rfl | exact Mix.wanted_yes rfl rfl rfl) 27 _ rfl (Wd.heap.size) rfl 27 _ (0, 0) _ (fun w1 hC1 => hC1.heap HKR7.out (fun f => f)) Try.underlying27 rfl (by kernel_rfl) ?_; go_frame)
                | (refine Mix.go_sure_row (by first | exact Mix.wanted_none rfl | exact Mix.wanted_yes rfl rfl rfl) 27 _ rfl (w.heap.size) rfl 27 _ (0, 0) _ (fun w1 hC1 => hC1.heap HAe.out (fun f => f)) Try.underlying27 rfl (by kernel_rfl) ?_; go_frame)
                | (refine Mix.go_sureW (by first | exact Mix.wanted_none rfl | exact Mix.wanted_yes rfl rfl rfl) _ (by rfl) (by rfl) _ (fun w' hC' => by go_wp2_with fail; refine Mix.stays ?_; go_frame; rfl) ?_; go_frame)
                | (refine Mix.go_lookW (by first | exact Mix.wanted_none rfl | exact Mix.wanted_yes rfl rfl rfl) _ (by rfl) (by rfl) _ (by go_wp2_with fail; refine Mix.stays ?_; go_frame; rfl) ?_; go_frame))
              refine Mix.go_turn ?_
              go_wp2_with fail
              refine (HSO.out wq).mono ?_
              rintro e wz ⟨rfl, hFi⟩
              have HFI := Lib.hid (HFH.out.trans' hFi)
              clear hFi
              go_wp2
              refine Mix.then_go HFI.out ?_
              repeat (first
                | (refine Mix.go_skipS (by exact Mix.wanted_no rfl rfl rfl rfl) ?_; go_frame)
                | (refine Mix.go_skipL (by exact Mix.wanted_no rfl rfl rfl rfl) ?_; go_frame)
                | (refine Mix.go_move (by first | exact Mix.wanted_none rfl | exact Mix.wanted_yes rfl rfl rfl) _ rfl _ (by first | (go_simp; done) | (go_simp; rfl)) ?_; go_frame)
                | (refine Mix.go_assign (by first | exact Mix.wanted_none rfl | exact Mix.wanted_yes rfl rfl rfl) _ rfl _ (by first | (go_simp; done) | (go_simp; rfl)) ?_; go_frame)
                | (refine Mix.go_sureW (by first | exact Mix.wanted_none rfl | exact Mix.wanted_yes rfl rfl rfl) _ (by rfl) (by rfl) _ (fun w' hC' => by go_wp2_with fail; refine Mix.stays ?_; go_frame; rfl) ?_; go_frame)
                | (refine Mix.go_lookW (by first | exact Mix.wanted_none rfl | exact Mix.wanted_yes rfl rfl rfl) _ (by rfl) (by rfl) _ (by go_wp2_with fail; refine Mix.stays ?_; go_frame; rfl) ?_; go_frame))
              refine Mix.go_end ?_
              go_wp2
              go_ret
              exact ⟨rfl, HFe.out.trans' HFI.out⟩
end Go.Proofs.Ytmnbihpcgkgebaa.Canon
