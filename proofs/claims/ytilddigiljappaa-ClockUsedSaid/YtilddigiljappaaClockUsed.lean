/-
  Marks are never raised; the hand goes on.
-/
import Derived.Test.YtilddigiljappaaClockGo
import Derived.Test.YtilddigiljappaaClockAlike
import Derived.Test.YtilddigiljappaaClockAwake
import Derived.Test.YtilddigiljappaaClockSays
namespace Go.Proofs.Ytilddigiljappaa.Clock
open Go.RowKit Base

theorem zero_all {d : List Int} {h : Int} (hg : goodD d h = true) (ho : okD d h = false) (j : Nat) (hj : j < d.length) : d.getD j 0 = 0 := by
  have hs : someD d = false := by
    unfold okD at ho
    rw [hg] at ho
    simpa using ho
  have h1 := (good_each hg).1 j
  have : ¬ 0 < d.getD j 0 := fun h0 => by rw [some_iff.2 ⟨j, hj, h0⟩] at hs; cases hs
  omega
set_option maxRecDepth 100000 in
set_option maxHeartbeats 8000000 in
theorem clockUsed_walk (v0 : Value) (d0 : List Int) (n0 : Int) (hd : d0.length ≤ 9223372036854775807) (hs : ∀ x ∈ d0, I64 x) (hh : I64 n0) (w : World) (hI : IntsIs w v0 d0) :
    Calls Try.prog 6 #[v0, .int .i64 n0] w fun e w' => e = .returned (.bool true) ∧ Fr0 w w' := by
  obtain ⟨A0, C0, rfl⟩ := ints_form hI
  have HI := Lib.hid hI
  clear hI
  by_cases hlen : 60 < d0.length
  · have l1 : (60 : Int) < (d0.length : Int) := by omega
    generalize d0.length = n at *
    go_enter Try.func6, Try.ntmps6
    go_wp2_with fail
    refine (awake_any w).mono ?_
    rintro e w1 ⟨rfl, hF⟩
    have HF := Lib.hid hF
    clear hF
    go_wp2
    go_ret
    exact ⟨rfl, HF.out⟩
  · have l1 : ¬ (60 : Int) < (d0.length : Int) := by omega
    have HPN := Lib.hid (fun w (hI : IntsIs w (.slice A0 d0.length C0) d0) => pnext_any _ d0 n0 (by omega) hs hh w hI)
    have HPG := Lib.hid (fun w (hI : IntsIs w (.slice A0 d0.length C0) d0) => pgood_any _ d0 n0 (by omega) hs hh w hI)
    cases hg : goodD d0 n0 with
    | false =>
      rw [hg] at HPG
      clear HPN hs hh hd hg hlen
      generalize d0.length = n at *
      go_enter Try.func6, Try.ntmps6
      go_wp2_with fail
      refine (awake_any w).mono ?_
      rintro e w1 ⟨rfl, hF⟩
      have HF := Lib.hid hF
      have HI1 := Lib.hid (HI.out.fr0 hF)
      clear hF
      go_wp2_with fail
      refine (HPG.out w1 HI1.out).mono ?_
      rintro e w2 ⟨rfl, hF⟩
      have HF2 := Lib.hid (HF.out.trans' hF)
      clear hF HPG
      go_wp2
      go_ret
      exact ⟨rfl, HF2.out⟩
    | true =>
      rw [hg] at HPG
      have HG := Lib.hid hg
      have HGE := Lib.hid (good_each hg)
      cases ho : okD d0 n0 with
      | false =>
        have HZ : Hid (∀ j, j < d0.length → d0.getD j 0 = 0) := Lib.hid (fun j hj => zero_all hg ho j hj)
        have HX : Hid (∀ w e w', NextPost d0 n0 w e w' → ∃ A C, e = .returned (.tuple #[.int .i64 0, .slice A 0 C, .int .i64 0, .bool false]) ∧ Fr0 w w') := Lib.hid (fun w e w' hp => by
          obtain ⟨mv, he, hI, hF, _⟩ := hp
          rw [next_none ho, ho] at he
          rw [next_none ho] at hI
          obtain ⟨A, C, rfl⟩ := ints_form hI
          exact ⟨A, C, he, hF⟩)
        clear hs hh hd hg hlen ho HG HGE
        obtain ⟨pb, po, hA, hC⟩ := ints_cells HI.out
        have HA := Lib.hid hA
        have HC : Hid (∀ w', Fr0 w w' → ∀ j, j < d0.length → w'.cell? ⟨pb, po + j, none⟩ = some (.int .i64 0)) := Lib.hid (fun w' hf j hj => by
          obtain ⟨h1, h2⟩ := hC j hj
          rw [(hf.cell (p := ⟨pb, po + j, none⟩) h1 (fun f => f)).trans h2, HZ.out j hj])
        clear hA hC HZ
        generalize d0.length = n at *
        go_enter Try.func6, Try.ntmps6
        go_wp2_with fail
        refine (awake_any w).mono ?_
        rintro e w1 ⟨rfl, hF⟩
        have HF := Lib.hid hF
        have HI1 := Lib.hid (HI.out.fr0 hF)
        clear hF
        go_wp2_with fail
        refine (HPG.out w1 HI1.out).mono ?_
        rintro e w2 ⟨rfl, hF⟩
        have HF2 := Lib.hid (HF.out.trans' hF)
        have HI2 := Lib.hid (HI1.out.fr0 hF)
        clear hF HPG
        go_wp2_with fail
        refine (HPN.out w2 HI2.out).mono ?_
        intro e w3 hP
        obtain ⟨A3, C3, rfl, hF⟩ := HX.out _ _ _ hP
        have HF3 := Lib.hid (HF2.out.trans' hF)
        clear hP hF HPN HX HI1 HI2
        go_wp2
        go_loopg [9] n (fun kx vi wr => w3 = wr ∧ ∃ i : Nat, vi = .int .i64 (i : Int) ∧ i ≤ n ∧ n - i ≤ kx)
        case atStart => exact ⟨rfl, 0, rfl, Nat.zero_le _, by omega⟩
        case round =>
          obtain ⟨rfl, i, rfl, hi, hk⟩ := hrel
          by_cases hlt : i < n
          · have c1 := HC.out _ HF3.out i hlt
            obtain rfl := HA.out (by omega)
            have i1 : (i : Int) < (n : Int) := by omega
            have i2 : 0 ≤ (i : Int) := by omega
            go_wp2
            go_roundg (n - (i + 1))
            case measure => omega
            case rel => exact ⟨rfl, i + 1, by simp, by omega, by omega⟩
          · obtain rfl : i = n := by omega
            go_wp2
            go_ret
            exact ⟨rfl, HF3.out⟩
      | true =>
        obtain ⟨r, m, tz, hnx, hw, hgj⟩ := next_went ho
        have HW := Lib.hid hw
        have HX : Hid (∀ w e w', NextPost d0 n0 w e w' → ∃ A C, e = .returned (.tuple #[.int .i64 (r : Int), .slice A m.length C, .int .i64 (tz : Int), .bool true]) ∧ IntsIs w' (.slice A m.length C) m ∧ Fr0 w w') := Lib.hid (fun w e w' hp => by
          obtain ⟨mv, he, hI, hF, _⟩ := hp
          rw [hnx, ho] at he
          rw [hnx] at hI
          obtain ⟨A, C, rfl⟩ := ints_form hI
          exact ⟨A, C, he, hI, hF⟩)
        have hm : goodD m (tz : Int) = true := good_of (hw.good hgj) (by rw [hw.len]; exact Nat.le_of_lt hw.to_lt)
        have HGM := Lib.hid (fun A C w (hI : IntsIs w (.slice A m.length C) m) => pgood_any (.slice A m.length C) m (tz : Int) (by have := hw.len; omega) (i64_good hm) (by have := hw.to_lt; unfold I64; omega) w hI)
        rw [hm] at HGM
        have hl := hw.len
        have hr1 := hw.lt
        have ht1 := hw.to_lt
        have HLE : Hid (∀ j, ¬ d0.getD j 0 < m.getD j 0) := Lib.hid (fun j => by have := (hw.le j).1; omega)
        have HZE : Hid (∀ j, j ≠ r → (m.getD j 0 = 0 ↔ d0.getD j 0 = 0)) := Lib.hid (fun j hj => (hw.le j).2 hj)
        have HR0 : Hid (m.getD r 0 = 0) := Lib.hid hw.row
        have HTM : Hid ((tz : Int) = Int.tmod ((r : Int) + 1) (d0.length : Int)) := Lib.hid (by rw [hw.to_is]; rfl)
        rw [hl] at HX HGM
        clear hs hh hd hg ho HG HGE hnx hw hgj hm HW
        obtain ⟨pb, po, hA, hC⟩ := ints_cells HI.out
        have HA := Lib.hid hA
        have HC : Hid (∀ w', Fr0 w w' → ∀ j, j < d0.length → w'.cell? ⟨pb, po + j, none⟩ = some (.int .i64 (d0.getD j 0))) := Lib.hid (fun w' hf j hj => by
          obtain ⟨h1, h2⟩ := hC j hj
          rw [(hf.cell (p := ⟨pb, po + j, none⟩) h1 (fun f => f)).trans h2])
        clear hA hC
        have HML := Lib.hid hl
        clear hl
        generalize d0.length = n at *
        have e1 : ¬ (r : Int) < 0 := by omega
        have e2 : ¬ (n : Int) ≤ (r : Int) := by omega
        have e3 : ¬ (tz : Int) < 0 := by omega
        have e4 : ¬ (n : Int) ≤ (tz : Int) := by omega
        have f1 : decide ((r : Int) < 0) = false := decide_eq_false e1
        have f2 : decide ((n : Int) ≤ (r : Int)) = false := decide_eq_false e2
        have f3 : decide ((tz : Int) < 0) = false := decide_eq_false e3
        have f4 : decide ((n : Int) ≤ (tz : Int)) = false := decide_eq_false e4
        have f5 : decide (n ≤ r) = false := decide_eq_false (by omega)
        have f6 : decide (n ≤ tz) = false := decide_eq_false (by omega)
        have f7 : decide ((60 : Int) < (n : Int)) = false := decide_eq_false l1
        go_enter Try.func6, Try.ntmps6
        go_wp2_with fail
        refine (awake_any w).mono ?_
        rintro e w1 ⟨rfl, hF⟩
        have HF := Lib.hid hF
        have HI1 := Lib.hid (HI.out.fr0 hF)
        clear hF
        go_wp2_with fail
        refine (HPG.out w1 HI1.out).mono ?_
        rintro e w2 ⟨rfl, hF⟩
        have HF2 := Lib.hid (HF.out.trans' hF)
        have HI2 := Lib.hid (HI1.out.fr0 hF)
        clear hF HPG
        go_wp2_with fail
        refine (HPN.out w2 HI2.out).mono ?_
        intro e w3 hP
        obtain ⟨A3, C3, rfl, hI3, hF⟩ := HX.out _ _ _ hP
        have HF3 := Lib.hid (HF2.out.trans' hF)
        have HI3 := Lib.hid hI3
        have hI3' : IntsIs w3 (.slice A3 m.length C3) m := by rw [HML.out]; exact hI3
        obtain ⟨qb, qo, hB, hD⟩ := ints_cells hI3'
        rw [HML.out] at hB hD
        obtain rfl := hB (by omega)
        have HD : Hid (∀ w', Fr0 w3 w' → ∀ j, j < n → w'.cell? ⟨qb, qo + j, none⟩ = some (.int .i64 (m.getD j 0))) := Lib.hid (fun w' hf j hj => by
          obtain ⟨h1, h2⟩ := hD j hj
          rw [(hf.cell (p := ⟨qb, qo + j, none⟩) h1 (fun f => f)).trans h2])
        have c1 := HD.out w3 (Fr.refl _ _) r hr1
        rw [HR0.out] at c1
        have HTM' := HTM
        clear hP hF HPN HX HI1 HI2 hI3 hI3' hB hD HTM HR0
        have r1 : (r : Int) < (n : Int) := by omega
        have r2 : 0 ≤ (r : Int) := by omega
        have w1' : wrap64 ((r : Int) + 1) = (r : Int) + 1 := by simp only [wrap64]; omega
        have hn0 : ¬ (n : Int) = 0 := by omega
        have htm : Int.tmod ((r : Int) + 1) (n : Int) = (tz : Int) := HTM'.out.symm
        go_wp2_with fail
        clear c1 r1 r2 w1' hn0 htm HTM' e1 e2 f1 f2 f3 f4 f5 f6 f7
        have HF3n := HF3
        go_loopg [10] n (fun kx vi wr => Hid (Fr0 w3 wr) ∧ ∃ i : Nat, vi = .int .i64 (i : Int) ∧ i ≤ n ∧ n - i ≤ kx)
        case atStart => exact ⟨Lib.hid (Fr.refl _ _), 0, rfl, Nat.zero_le _, by omega⟩
        case round =>
          obtain ⟨HFR, i, rfl, hi, hk⟩ := hrel
          by_cases hlt : i < n
          · have d1 := HD.out wr HFR.out i hlt
            have d2 := HC.out wr (HF3.out.trans' HFR.out) i hlt
            obtain rfl := HA.out (by omega)
            have i1 : (i : Int) < (n : Int) := by omega
            have i2 : 0 ≤ (i : Int) := by omega
            have hle := HLE.out i
            have hze := HZE.out i
            generalize m.getD i 0 = x at *
            generalize d0.getD i 0 = y at *
            have hle' : decide (y < x) = false := decide_eq_false (show ¬ y < x by omega)
            by_cases hir : i = r
            · subst hir
              have b1 : ((i : Int) != (i : Int)) = false := by simp
              clear hze
              go_wp2
              go_quiet (fail)
              go_wp2
              go_roundg (n - (i + 1))
              case measure => omega
              case rel => exact ⟨Lib.hid (HFR.out.drewN _), i + 1, by simp, by omega, by omega⟩
            · have b1 : ((i : Int) != (r : Int)) = true := by simpa using (show ¬ (i : Int) = (r : Int) by omega)
              have hze := hze hir
              by_cases hx : x = 0
              · have hy : y = 0 := hze.1 hx
                subst hx hy
                clear hze
                go_wp2
                go_quiet (fail)
                go_wp2
                go_roundg (n - (i + 1))
                case measure => omega
                case rel => exact ⟨Lib.hid (HFR.out.drewN _), i + 1, by simp, by omega, by omega⟩
              · have hy : ¬ y = 0 := fun h => hx (hze.2 h)
                have b2 : (x == 0) = false := by simpa using hx
                have b3 : (y == 0) = false := by simpa using hy
                clear hze
                go_wp2
                go_quiet (fail)
                go_wp2
                go_roundg (n - (i + 1))
                case measure => omega
                case rel => exact ⟨Lib.hid (HFR.out.drewN _), i + 1, by simp, by omega, by omega⟩
          · obtain rfl : i = n := by omega
            have HG9 := Lib.hid (HGM.out _ _ wr (HI3.out.fr0 HFR.out))
            go_wp2_with fail
            refine HG9.out.mono ?_
            rintro e w9 ⟨rfl, hF⟩
            have HF9 := Lib.hid ((HF3.out.trans' HFR.out).trans' hF)
            clear hF HG9
            go_wp2
            go_ret
            exact ⟨rfl, HF9.out⟩
end Go.Proofs.Ytilddigiljappaa.Clock
