/-
  The reference's PutAgg, AggText.
-/
import Derived.Test.YtbiokogihimboaaDoorAggRefO
import Derived.Test.YtbiokogihimboaaDoorRefUB
import Derived.BigQuiet
namespace Go.Proofs.YtbiokogihimboaaDoor.Agg
open Go.RowKit Base _root_.Go.Proofs.YtbiokogihimboaaDoor.Tenant _root_.Go.Proofs.YtbiokogihimboaaDoor.Series _root_.Go.Proofs.YtbiokogihimboaaDoor.Pack
open _root_.Go.Proofs.YtbiokogihimboaaDoor.Ask (tw tw_lt)

def PutPost (a : Ag) (want : Int) (w : World) (e : Ending) (w' : World) : Prop := ∃ A C, e = .returned (.tuple #[.slice A (putOut a want).length C, .int .i64 (putErr a want)]) ∧ BytesIs w' (.slice A (putOut a want).length C) (putOut a want) ∧ Fr0 w w'
theorem PutPost.nil {a : Ag} {want : Int} {w w' : World} (h : putOut a want = []) (hf : Fr0 w w') : PutPost a want w (.returned (.tuple #[.slice none 0 0, .int .i64 (putErr a want)])) w' := ⟨none, 0, by rw [h]; rfl, by rw [h]; exact BytesIs.nil w', hf⟩
theorem put_arg {a : Ag} {want : Int} (h : inn want 1 31 = false) : putErr a want = 1 ∧ putOut a want = [] := by
  have e : putErr a want = 1 := by unfold putErr; rw [h]; rfl
  exact ⟨e, by unfold putOut; rw [e]; rfl⟩
theorem put_over {a : Ag} {want : Int} (h : inn want 1 31 = true) (h1 : bit want 1 = true) (h2 : a.o = true) : putErr a want = 9 ∧ putOut a want = [] := by
  have e : putErr a want = 9 := by unfold putErr; rw [h, h1, h2]; rfl
  exact ⟨e, by unfold putOut; rw [e]; rfl⟩
theorem put_yes {a : Ag} {want : Int} (h : inn want 1 31 = true) (h1 : (bit want 1 && a.o) = false) : putErr a want = 0 ∧ putOut a want = putN a want 5 := by
  have e : putErr a want = 0 := by unfold putErr; rw [h, h1]; rfl
  exact ⟨e, by unfold putOut; rw [e]; rfl⟩
theorem bit_go (want : Int) (h0 : 0 ≤ want) : bit want 1 = ((want.tdiv 2).tmod 2 == 1) := by
  unfold bit
  rw [Int.tdiv_eq_ediv_of_nonneg h0, Int.tmod_eq_emod_of_nonneg (by omega)]
  rfl
theorem ints5 (w : World) (a : Ag) (t : TypeId) : IntsIs (w.alloc (.cells #[.int .i64 a.c, .int .i64 a.s, .int .i64 a.n, .int .i64 a.x, .int .i64 a.l] t)) (.slice (some ⟨w.heap.size, 0, none⟩) 5 5) [a.c, a.s, a.n, a.x, a.l] := by
  refine ⟨_, 5, w.heap.size, 0, rfl, Nat.le_refl _, fun _ => rfl, fun j hj => ?_⟩
  rw [cell_of_row _ _ _ _ _ _ (heap_alloc_new w _)]
  match j, hj with
  | 0, _ => rfl
  | 1, _ => rfl
  | 2, _ => rfl
  | 3, _ => rfl
  | 4, _ => rfl
theorem conv_tw (x : Int) (w : World) : (convert 2 62 (.int .i64 x)).run Tryd.prog w = .ok (.int .u64 (tw x : Int)) w := by
  have h1 := run_convert_int (P := Tryd.prog) w 2 62 .i64 x (by rw [Tryd.underlying2]; rfl) (by kernel_rfl)
  rw [show Tryd.prog.intKind 62 = .u64 by kernel_rfl] at h1
  rw [h1, IntKind.wrap_u64]
  unfold tw
  congr 3
  omega
set_option maxRecDepth 100000 in
set_option maxHeartbeats 4000000 in
theorem rput_any (a : Ag) (ha : SizedA a) (want : Int) (hw : Fit want) (w : World) :
    Calls Tryd.prog 15 #[.agg (a6 a), .int .i64 want] w (PutPost a want w) := by
  have hc := (Bx.new 35 w a).cells
  have HF : Hid (Fr0 w (w.alloc (.cells #[.int .i64 a.c, .int .i64 a.s, .int .i64 a.n, .int .i64 a.x, .int .i64 a.l, .bool a.o] 35))) := Lib.hid ((Fr.refl _ _).alloc _)
  have HI := Lib.hid (fun w => rin_any want 1 31 w)
  have HARG : Hid (inn want 1 31 = false → putErr a want = 1 ∧ putOut a want = []) := Lib.hid put_arg
  have HOV : Hid (inn want 1 31 = true → bit want 1 = true → a.o = true → putErr a want = 9 ∧ putOut a want = []) := Lib.hid put_over
  have HYES : Hid (inn want 1 31 = true → (bit want 1 && a.o) = false → putErr a want = 0 ∧ putOut a want = putN a want 5) := Lib.hid put_yes
  have HIFF : Hid (inn want 1 31 = true → 1 ≤ want ∧ want ≤ 31) := Lib.hid (inn_iff _ _ _).1
  have HB1 : Hid (0 ≤ want → bit want 1 = ((want.tdiv 2).tmod 2 == 1)) := Lib.hid (bit_go want)
  have HNONE : Hid (∀ w', putOut a want = [] → Fr0 w w' → PutPost a want w (.returned (.tuple #[.slice none 0 0, .int .i64 (putErr a want)])) w') := Lib.hid (fun w' h hf => PutPost.nil h hf)
  have HEND : Hid (∀ A C w', BytesIs w' (.slice A (putOut a want).length C) (putOut a want) → Fr0 w w' → PutPost a want w (.returned (.tuple #[.slice A (putOut a want).length C, .int .i64 (putErr a want)])) w') := Lib.hid (fun A C w' h hf => ⟨A, C, rfl, h, hf⟩)
  have HPN := Lib.hid (putN_next a want)
  have HPL := Lib.hid (putN_length a want)
  have HSA := Lib.hid ha
  generalize hP : PutPost a want w = post at *
  generalize putErr a want = er at *
  generalize putOut a want = out at *
  generalize inn want 1 31 = b0 at *
  unfold a6
  generalize hW2 : w.alloc (.cells #[.int .i64 a.c, .int .i64 a.s, .int .i64 a.n, .int .i64 a.x, .int .i64 a.l, .bool a.o] 35) = W2 at *
  obtain ⟨k0, k1, k2, k3, k4, k5⟩ := hc
  clear hP ha
  go_enter Tryd.func15, Tryd.ntmps15
  go_wp2_with fail
  clear hW2
  refine (HI.out _).mono ?_
  rintro e wq ⟨rfl, rfl⟩
  cases b0 with
  | false =>
    obtain ⟨rfl, ho⟩ := HARG.out rfl
    have HE := Lib.hid (fun w' => HNONE.out w' ho)
    clear ho
    go_wp2
    exact HE.out _ HF.out
  | true =>
    obtain ⟨w1, w2⟩ := HIFF.out rfl
    have hb1 := HB1.out (by omega)
    obtain ⟨Q, hQ⟩ : ∃ Q, want.tdiv 2 = Q := ⟨_, rfl⟩
    rw [hQ] at hb1
    obtain ⟨R, hR⟩ : ∃ R, Q.tmod 2 = R := ⟨_, rfl⟩
    rw [hR] at hb1
    have hq0 : 0 ≤ Q ∧ Q ≤ 31 := by rw [← hQ, Int.tdiv_eq_ediv_of_nonneg (by omega)]; omega
    have hr0 : 0 ≤ R ∧ R ≤ 1 := by rw [← hR, Int.tmod_eq_emod_of_nonneg hq0.1]; omega
    obtain ⟨hq1, hq2⟩ := hq0
    obtain ⟨hr1, hr2⟩ := hr0
    generalize bit want 1 = bt at *
    have HGO : Hid ((bt && a.o) = false → True) := Lib.hid (fun _ => trivial)
    by_cases hov : (bt && a.o) = true
    · have hbt : bt = true := (Bool.and_eq_true _ _ ▸ hov).1
      have hao : a.o = true := (Bool.and_eq_true _ _ ▸ hov).2
      subst hbt
      obtain ⟨rfl, ho⟩ := HOV.out rfl rfl hao
      have HE := Lib.hid (fun w' => HNONE.out w' ho)
      have hRR : (R == 1) = true := hb1.symm
      clear ho hb1 hov
      rw [hao] at k5
      go_wp2
      exact HE.out _ HF.out
    · have hov' : (bt && a.o) = false := by simpa using hov
      obtain ⟨rfl, ho⟩ := HYES.out rfl hov'
      have HOUT := Lib.hid ho
      have hRR : (R == 1) = bt := hb1.symm
      have HL0 := Lib.hid (ints5 W2 a 2)
      have HF3 := Lib.hid (HF.out.alloc (.cells #[.int .i64 a.c, .int .i64 a.s, .int .i64 a.n, .int .i64 a.x, .int .i64 a.l] 2))
      clear ho hb1 HARG HOV HYES HNONE HGO HI HIFF HB1 HF
      cases bt with
      | true =>
        have hao : a.o = false := by simpa using hov'
        rw [hao] at k5
        clear hov hov' hao
        go_wp2_with fail
        generalize hw3 : W2.alloc (.cells #[.int .i64 a.c, .int .i64 a.s, .int .i64 a.n, .int .i64 a.x, .int .i64 a.l] 2) = W3 at *
        generalize W2.heap.size = g3 at *
        clear hw3 k0 k1 k2 k3 k4 k5
        go_loopg [7, 8] 5 (fun kx vb vi wr => ∃ (i : Nat) (Ab : Option Addr) (Cb : Nat), vi = .int .i64 (i : Int) ∧ vb = .slice Ab (putN a want i).length Cb ∧ i ≤ 5 ∧ 5 - i ≤ kx ∧ Hid (BytesIs wr (.slice Ab (putN a want i).length Cb) (putN a want i)) ∧ Hid (Fr0 W3 wr))
        case atStart => exact ⟨0, none, 0, rfl, rfl, by omega, by omega, Lib.hid (BytesIs.nil _), Lib.hid (Fr.refl _ _)⟩
        case round =>
          obtain ⟨i, Ab, Cb, rfl, rfl, hi, hk, HB, HFW⟩ := hrel
          by_cases hlt : i < 5
          · obtain ⟨pb, po, hpp, hcc⟩ := ints_at' HL0.out i (by simpa using hlt)
            cases hpp
            have d0 : wr.cell? ⟨g3, i, none⟩ = some (.int .i64 (field a i)) := by have h := hcc wr HFW.out; rw [Nat.zero_add] at h; exact h
            have i1 : (i : Int) < 5 := by omega
            have i2 : 0 ≤ (i : Int) := by omega
            have hsh : (want / 2 ^ i).tmod 2 = want / 2 ^ i % 2 := Int.tmod_eq_emod_of_nonneg (Int.ediv_nonneg (by omega) (Int.le_of_lt (Int.pow_pos (by decide))))
            have hbit : (want / 2 ^ i % 2 == 1) = bit want i := rfl
            have hpn := HPN.out i
            obtain ⟨U, hU⟩ : ∃ U, U = tw (field a i) := ⟨_, rfl⟩
            have hUl : U < 18446744073709551616 := by rw [hU]; exact tw_lt _
            have hcv : ∀ w, (convert 2 62 (.int .i64 (field a i))).run Tryd.prog w = .ok (.int .u64 (U : Int)) w := fun w => by rw [hU]; exact conv_tw _ w
            rw [← hU] at hpn
            have HPX := Lib.hid hpn
            have HUC := Lib.hid (_root_.Go.Proofs.YtbiokogihimboaaDoor.RefB.u_any _ (putN a want i) U 8 hUl (by omega) (by have := HPL.out i; omega) wr HB.out)
            clear hU hcc hpn
            generalize field a i = fx at *
            generalize bit want i = bi at *
            generalize hS : want / 2 ^ i % 2 = S at *
            clear hS
            cases bi with
            | true =>
              go_wp2_with fail
              refine HUC.out.mono ?_
              rintro e w4 ⟨v4, rfl, hO4, hF4⟩
              have hlen : (putN a want i ++ _root_.Go.Proofs.YtbiokogihimboaaDoor.RefB.beb U 8).length = (putN a want (i + 1)).length := by rw [HPX.out, if_pos (by trivial), _root_.Go.Proofs.YtbiokogihimboaaDoor.RefB.beb_be]
              rw [hlen] at hO4
              obtain ⟨A4, C4, hv4, _⟩ := owns_form hO4
              subst hv4
              have HB4 : Hid (BytesIs w4 (.slice A4 (putN a want (i + 1)).length C4) (putN a want (i + 1))) := Lib.hid (by
                have h := BytesIs.own hO4
                rwa [_root_.Go.Proofs.YtbiokogihimboaaDoor.RefB.beb_be, show putN a want i ++ be 8 U = putN a want (i + 1) by rw [HPX.out, if_pos (by trivial)]] at h)
              have HF4 := Lib.hid (HFW.out.trans' hF4)
              clear hO4 hF4 hlen
              go_wp2
              go_roundg (5 - (i + 1))
              case measure => omega
              case rel => exact ⟨i + 1, A4, C4, by simp, rfl, by omega, by omega, HB4, HF4⟩
            | false =>
              go_wp2
              go_roundg (5 - (i + 1))
              case measure => omega
              case rel => exact ⟨i + 1, Ab, Cb, by simp, by rw [HPX.out]; rfl, by omega, by omega, by rw [HPX.out]; exact HB, HFW⟩
          · obtain rfl : i = 5 := by omega
            have HX := Lib.hid (HEND.out Ab Cb)
            rw [HOUT.out] at HX
            go_wp2
            exact HX.out _ HB.out (HF3.out.trans' HFW.out)
      | false =>
        clear hov hov'
        go_wp2_with fail
        generalize hw3 : W2.alloc (.cells #[.int .i64 a.c, .int .i64 a.s, .int .i64 a.n, .int .i64 a.x, .int .i64 a.l] 2) = W3 at *
        generalize W2.heap.size = g3 at *
        clear hw3 k0 k1 k2 k3 k4 k5
        go_loopg [7, 8] 5 (fun kx vb vi wr => ∃ (i : Nat) (Ab : Option Addr) (Cb : Nat), vi = .int .i64 (i : Int) ∧ vb = .slice Ab (putN a want i).length Cb ∧ i ≤ 5 ∧ 5 - i ≤ kx ∧ Hid (BytesIs wr (.slice Ab (putN a want i).length Cb) (putN a want i)) ∧ Hid (Fr0 W3 wr))
        case atStart => exact ⟨0, none, 0, rfl, rfl, by omega, by omega, Lib.hid (BytesIs.nil _), Lib.hid (Fr.refl _ _)⟩
        case round =>
          obtain ⟨i, Ab, Cb, rfl, rfl, hi, hk, HB, HFW⟩ := hrel
          by_cases hlt : i < 5
          · obtain ⟨pb, po, hpp, hcc⟩ := ints_at' HL0.out i (by simpa using hlt)
            cases hpp
            have d0 : wr.cell? ⟨g3, i, none⟩ = some (.int .i64 (field a i)) := by have h := hcc wr HFW.out; rw [Nat.zero_add] at h; exact h
            have i1 : (i : Int) < 5 := by omega
            have i2 : 0 ≤ (i : Int) := by omega
            have hsh : (want / 2 ^ i).tmod 2 = want / 2 ^ i % 2 := Int.tmod_eq_emod_of_nonneg (Int.ediv_nonneg (by omega) (Int.le_of_lt (Int.pow_pos (by decide))))
            have hbit : (want / 2 ^ i % 2 == 1) = bit want i := rfl
            have hpn := HPN.out i
            obtain ⟨U, hU⟩ : ∃ U, U = tw (field a i) := ⟨_, rfl⟩
            have hUl : U < 18446744073709551616 := by rw [hU]; exact tw_lt _
            have hcv : ∀ w, (convert 2 62 (.int .i64 (field a i))).run Tryd.prog w = .ok (.int .u64 (U : Int)) w := fun w => by rw [hU]; exact conv_tw _ w
            rw [← hU] at hpn
            have HPX := Lib.hid hpn
            have HUC := Lib.hid (_root_.Go.Proofs.YtbiokogihimboaaDoor.RefB.u_any _ (putN a want i) U 8 hUl (by omega) (by have := HPL.out i; omega) wr HB.out)
            clear hU hcc hpn
            generalize field a i = fx at *
            generalize bit want i = bi at *
            generalize hS : want / 2 ^ i % 2 = S at *
            clear hS
            cases bi with
            | true =>
              go_wp2_with fail
              refine HUC.out.mono ?_
              rintro e w4 ⟨v4, rfl, hO4, hF4⟩
              have hlen : (putN a want i ++ _root_.Go.Proofs.YtbiokogihimboaaDoor.RefB.beb U 8).length = (putN a want (i + 1)).length := by rw [HPX.out, if_pos (by trivial), _root_.Go.Proofs.YtbiokogihimboaaDoor.RefB.beb_be]
              rw [hlen] at hO4
              obtain ⟨A4, C4, hv4, _⟩ := owns_form hO4
              subst hv4
              have HB4 : Hid (BytesIs w4 (.slice A4 (putN a want (i + 1)).length C4) (putN a want (i + 1))) := Lib.hid (by
                have h := BytesIs.own hO4
                rwa [_root_.Go.Proofs.YtbiokogihimboaaDoor.RefB.beb_be, show putN a want i ++ be 8 U = putN a want (i + 1) by rw [HPX.out, if_pos (by trivial)]] at h)
              have HF4 := Lib.hid (HFW.out.trans' hF4)
              clear hO4 hF4 hlen
              go_wp2
              go_roundg (5 - (i + 1))
              case measure => omega
              case rel => exact ⟨i + 1, A4, C4, by simp, rfl, by omega, by omega, HB4, HF4⟩
            | false =>
              go_wp2
              go_roundg (5 - (i + 1))
              case measure => omega
              case rel => exact ⟨i + 1, Ab, Cb, by simp, by rw [HPX.out]; rfl, by omega, by omega, by rw [HPX.out]; exact HB, HFW⟩
          · obtain rfl : i = 5 := by omega
            have HX := Lib.hid (HEND.out Ab Cb)
            rw [HOUT.out] at HX
            go_wp2
            exact HX.out _ HB.out (HF3.out.trans' HFW.out)
end Go.Proofs.YtbiokogihimboaaDoor.Agg
