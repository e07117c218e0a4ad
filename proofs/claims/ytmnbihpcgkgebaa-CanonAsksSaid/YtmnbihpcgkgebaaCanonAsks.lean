/-
  CanonAsks walked.
-/
import Derived.Test.YtmnbihpcgkgebaaCanonAwake
import Derived.Test.YtmnbihpcgkgebaaAskLawK
import Derived.BigQuiet
namespace Go.Proofs.Ytmnbihpcgkgebaa.Canon
open Go.RowKit Base Pack _root_.Go.Proofs.Ytmnbihpcgkgebaa.Ask

theorem nums_at {w : World} {A : Option Addr} {n cap : Nat} {l : List Int} (h : IntsIs w (.slice A n cap) l) (j : Nat) (hj : j < l.length) : ∃ pb po, A = some ⟨pb, po, none⟩ ∧ ∀ wr, Fr0 w wr → wr.cell? ⟨pb, po + j, none⟩ = some (.int .i64 (l.getD j 0)) := by
  obtain ⟨a, c, pb, po, hv, hle, ha, hc⟩ := h
  cases hv
  obtain rfl := ha (by omega)
  refine ⟨pb, po, rfl, fun wr hf => ?_⟩
  have h1 := hc j hj
  exact (hf.cell (World.block_lt_of_cell? w _ h1) (fun f => f)).trans h1
theorem times_not {a : Rq} {x : Int} (h : isQ a = true) : (a.f ≤ x ∧ x ≤ a.t) ↔ ((ofOut a).f ≤ x ∧ x ≤ (ofOut a).t) := by
  rw [(ofOut_isQ h).1]
  exact one_times a x
set_option maxRecDepth 100000 in
set_option maxHeartbeats 8000000 in
theorem canonAsks_walk (a : Rq) (v0 : Value) (hsa : Sized a) (v1 : Value) (l : List Int) (hll : l.length ≤ 9223372036854775807) (w : World) (hI : In w a v0) (hJ : IntsIs w v1 l) :
    Calls Try.prog 5 #[v0, v1] w fun e w' => e = .returned (.bool true) ∧ Fr0 w w' := by
  obtain ⟨A, C, rfl, hP⟩ := hI
  have HJ := Lib.hid hJ
  obtain ⟨B, D, pb0, po0, rfl, _⟩ := hJ
  have HSA := Lib.hid hsa
  have hla := hsa.2.1
  have HA := Lib.hid (BoxQ.new w (.slice A a.s.length C) a)
  have HF := Lib.hid ((Fr.refl (fun _ => False) w).alloc (.cells #[.int .i64 a.k, .string ⟨a.n.toArray⟩, .slice A a.s.length C, .int .i64 a.f, .int .i64 a.t, .int .i64 a.wn] 27))
  have HLL := Lib.hid hll
  clear hP hsa
  unfold rv
  generalize hL : l.length = L at *
  have HL := Lib.hid hL
  clear hL
  go_enter Try.func5, Try.ntmps5
  go_wp2_with fail
  refine (awake_any _).mono ?_
  rintro e W1 ⟨rfl, hF1⟩
  have HA1 := Lib.hid (HA.out.fr0 hF1)
  have HF1 : Hid (Fr0 w W1) := Lib.hid (HF.out.trans' hF1)
  have c0 := HA1.out.cells.2.2.1
  clear hF1 HF HA
  by_cases h60 : 60 < (L : Int)
  ·
    go_wp2
    go_ret
    exact ⟨rfl, HF1.out⟩
  ·
    by_cases h30 : 30 < (a.s.length : Int)
    ·
      go_wp2
      go_ret
      exact ⟨rfl, HF1.out⟩
    ·
      have hof := of_any A C a HSA.out.1 W1
      have HNO := Lib.hid (fun h => (ofOut_no (a := a) h).2.1)
      have HYO := Lib.hid (fun h => (ofOut_isQ (a := a) h).2.1)
      have HTM := Lib.hid (fun h x => times_not (a := a) (x := x) h)
      have HSM : Hid (isQ a = true → (ofOut a).k = a.k ∧ (ofOut a).n = a.n ∧ (ofOut a).wn = a.wn) := Lib.hid (fun h => by
        rw [(ofOut_isQ h).1]
        exact ⟨(one_same a).1, (one_same a).2.1, (one_same a).2.2.2⟩)
      unfold rv at hof
      generalize ofOut a = o at *
      generalize ofErr a = p at *
      go_wp2_with (refine wpList_load_row rfl 27 _ rfl (w.heap.size) rfl 27 _ (0, 0) _ HA1.out.heap Try.underlying27 rfl (by kernel_rfl) ?_)
      refine hof.mono ?_
      clear hof c0
      rintro e W2 ⟨rfl, hF2⟩
      have HF2 := Lib.hid (HF1.out.trans' hF2)
      have HA2 := Lib.hid (HA1.out.fr0 hF2)
      clear hF2 HA1
      have hg3 := heap_alloc_new W2 (.cells #[.int .i64 0, .string ⟨#[]⟩, .slice none 0 0, .int .i64 0, .int .i64 0, .int .i64 0] 27)
      obtain ⟨W3, hW3⟩ : ∃ W', W' = (W2.alloc (.cells #[.int .i64 0, .string ⟨#[]⟩, .slice none 0 0, .int .i64 0, .int .i64 0, .int .i64 0] 27)).setRow W2.heap.size #[.int .i64 o.k, .string ⟨o.n.toArray⟩, .slice none 0 0, .int .i64 o.f, .int .i64 o.t, .int .i64 o.wn] := ⟨_, rfl⟩
      have hr3 := setRow_heap _ W2.heap.size _ #[.int .i64 o.k, .string ⟨o.n.toArray⟩, .slice none 0 0, .int .i64 o.f, .int .i64 o.t, .int .i64 o.wn] _ _ hg3
      rw [← hW3] at hr3
      have hf3 : Fr0 W2 W3 := by rw [hW3]; exact Fr.setRow ((Fr.refl _ _).alloc _) (fun h => absurd h (Nat.lt_irrefl _)) _
      have HKR3 := Lib.hid hr3
      have HKW3 := Lib.hid hW3
      have HKG3 := Lib.hid hg3
      have HKF3 := Lib.hid hf3
      clear hg3 hW3 hr3 hf3
      have HF3 := Lib.hid (HF2.out.trans' HKF3.out)
      have HA3 := Lib.hid (HA2.out.fr0 HKF3.out)
      clear HA2
      cases hq : isQ a with
      | false =>
        obtain rfl : p = 1 := HNO.out hq
        clear hq HNO HYO HTM HSM
        go_wp2_with (refine wpList_store_row rfl 27 _ _ rfl W2.heap.size #[.int .i64 o.k, .string ⟨o.n.toArray⟩, .slice none 0 0, .int .i64 o.f, .int .i64 o.t, .int .i64 o.wn] rfl rfl 27 _ HKG3.out infoQ rfl (ask_one _ _ _ _ _ _ rfl) ?_; rw [← HKW3.out])
        go_ret
        exact ⟨rfl, HF3.out⟩
      | true =>
        obtain rfl : p = 0 := HYO.out hq
        have HT := Lib.hid (HTM.out hq)
        have hb3 := BoxQ.of_heap HKR3.out
        obtain ⟨s1, s2, s3⟩ := HSM.out hq
        have HC3 : Hid (∀ W, Fr0 W3 W → W.cell? ⟨W2.heap.size, 0, none⟩ = some (.int .i64 a.k) ∧ W.cell? ⟨W2.heap.size, 1, none⟩ = some (.string ⟨a.n.toArray⟩) ∧ W.cell? ⟨W2.heap.size, 3, none⟩ = some (.int .i64 o.f) ∧ W.cell? ⟨W2.heap.size, 4, none⟩ = some (.int .i64 o.t) ∧ W.cell? ⟨W2.heap.size, 5, none⟩ = some (.int .i64 a.wn)) := Lib.hid (fun W h => by
          have hc := (hb3.fr0 h).cells
          rw [s1, s2, s3] at hc
          exact ⟨hc.1, hc.2.1, hc.2.2.2.1, hc.2.2.2.2.1, hc.2.2.2.2.2⟩)
        clear hq HNO HYO HTM HSM hb3 s1 s2 s3
        go_wp2_with (refine wpList_store_row rfl 27 _ _ rfl W2.heap.size #[.int .i64 o.k, .string ⟨o.n.toArray⟩, .slice none 0 0, .int .i64 o.f, .int .i64 o.t, .int .i64 o.wn] rfl rfl 27 _ HKG3.out infoQ rfl (ask_one _ _ _ _ _ _ rfl) ?_; rw [← HKW3.out])
        clear HKR3 HKF3 HKG3 HKW3
        go_loopg [7] L (fun kx vi wr => ∃ (i : Nat), vi = .int .i64 (i : Int) ∧ i ≤ L ∧ L - i ≤ kx ∧ Hid (Fr0 W3 wr))
        case atStart => exact ⟨0, rfl, Nat.zero_le _, by omega, Lib.hid (Fr.refl _ _)⟩
        case round =>
          obtain ⟨i, rfl, hi, hk, HFR⟩ := hrel
          by_cases hlt : i < L
          · obtain ⟨pb, po, rfl, hpc⟩ := nums_at HJ.out i (by have := HL.out; omega)
            have p0 := hpc wr (HF3.out.trans' HFR.out)
            have hx := HT.out (l.getD i 0)
            have i1 : (i : Int) < (L : Int) := by omega
            have i2 : 0 ≤ (i : Int) := by omega
            have k3 := (HC3.out wr HFR.out).2.2.1
            have k4 := (HC3.out wr HFR.out).2.2.2.1
            have j3 := (HA3.out.fr0 HFR.out).cells.2.2.2.1
            have j4 := (HA3.out.fr0 HFR.out).cells.2.2.2.2.1
            clear hpc
            generalize l.getD i 0 = x at *
            generalize a.f = af at *
            generalize a.t = at' at *
            generalize o.f = of' at *
            generalize o.t = ot' at *
            by_cases f1 : af ≤ x
            ·
              have df1 : decide (af ≤ x) = true := decide_eq_true f1
              by_cases f2 : x ≤ at'
              ·
                have df2 : decide (x ≤ at') = true := decide_eq_true f2
                by_cases g1 : of' ≤ x
                ·
                  have dg1 : decide (of' ≤ x) = true := decide_eq_true g1
                  by_cases g2 : x ≤ ot'
                  ·
                    have dg2 : decide (x ≤ ot') = true := decide_eq_true g2
                    clear hx
                    go_wp2
                    go_quiet (fail)
                    clear p0 k3 k4 j3 j4
                    have HFR2 := Lib.hid (HFR.out.drewN nq)
                    generalize wr.drewN nq = w9 at *
                    go_wp2
                    go_roundg (L - (i + 1))
                    case measure => omega
                    case rel => exact ⟨i + 1, by simp, by omega, by omega, HFR2⟩
                  ·
                    have dg2 : decide (x ≤ ot') = false := decide_eq_false g2
                    omega
                ·
                  have dg1 : decide (of' ≤ x) = false := decide_eq_false g1
                  omega
              ·
                have df2 : decide (x ≤ at') = false := decide_eq_false f2
                by_cases g1 : of' ≤ x
                ·
                  have dg1 : decide (of' ≤ x) = true := decide_eq_true g1
                  by_cases g2 : x ≤ ot'
                  ·
                    have dg2 : decide (x ≤ ot') = true := decide_eq_true g2
                    omega
                  ·
                    have dg2 : decide (x ≤ ot') = false := decide_eq_false g2
                    clear hx
                    go_wp2
                    go_quiet (fail)
                    clear p0 k3 k4 j3 j4
                    have HFR2 := Lib.hid (HFR.out.drewN nq)
                    generalize wr.drewN nq = w9 at *
                    go_wp2
                    go_roundg (L - (i + 1))
                    case measure => omega
                    case rel => exact ⟨i + 1, by simp, by omega, by omega, HFR2⟩
                ·
                  have dg1 : decide (of' ≤ x) = false := decide_eq_false g1
                  clear hx
                  go_wp2
                  go_quiet (fail)
                  clear p0 k3 k4 j3 j4
                  have HFR2 := Lib.hid (HFR.out.drewN nq)
                  generalize wr.drewN nq = w9 at *
                  go_wp2
                  go_roundg (L - (i + 1))
                  case measure => omega
                  case rel => exact ⟨i + 1, by simp, by omega, by omega, HFR2⟩
            ·
              have df1 : decide (af ≤ x) = false := decide_eq_false f1
              by_cases g1 : of' ≤ x
              ·
                have dg1 : decide (of' ≤ x) = true := decide_eq_true g1
                by_cases g2 : x ≤ ot'
                ·
                  have dg2 : decide (x ≤ ot') = true := decide_eq_true g2
                  omega
                ·
                  have dg2 : decide (x ≤ ot') = false := decide_eq_false g2
                  clear hx
                  go_wp2
                  go_quiet (fail)
                  clear p0 k3 k4 j3 j4
                  have HFR2 := Lib.hid (HFR.out.drewN nq)
                  generalize wr.drewN nq = w9 at *
                  go_wp2
                  go_roundg (L - (i + 1))
                  case measure => omega
                  case rel => exact ⟨i + 1, by simp, by omega, by omega, HFR2⟩
              ·
                have dg1 : decide (of' ≤ x) = false := decide_eq_false g1
                clear hx
                go_wp2
                go_quiet (fail)
                clear p0 k3 k4 j3 j4
                have HFR2 := Lib.hid (HFR.out.drewN nq)
                generalize wr.drewN nq = w9 at *
                go_wp2
                go_roundg (L - (i + 1))
                case measure => omega
                case rel => exact ⟨i + 1, by simp, by omega, by omega, HFR2⟩
          · obtain rfl : i = L := by omega
            have k0 := (HC3.out wr HFR.out).1
            have k1 := (HC3.out wr HFR.out).2.1
            have k5 := (HC3.out wr HFR.out).2.2.2.2
            have j0 := (HA3.out.fr0 HFR.out).cells.1
            have j1 := (HA3.out.fr0 HFR.out).cells.2.1
            have j5 := (HA3.out.fr0 HFR.out).cells.2.2.2.2.2
            go_wp2
            go_ret
            exact ⟨rfl, HF3.out.trans' HFR.out⟩
end Go.Proofs.Ytmnbihpcgkgebaa.Canon
