/-
  Who is added comes to the least empty row.
-/
import Derived.Test.YtnglmkombogheaaIndexAwake
import Derived.Test.YtnglmkombogheaaIndexActs
import Derived.Test.YtnglmkombogheaaIndexLawE
namespace Go.Proofs.Ytnglmkombogheaa.Index
open Go.RowKit Base
open _root_.Go.Proofs.Ytnglmkombogheaa.Ord (Grown ptr)

theorem eq_en (x : En) (wx : World) : (Op.equalIn 10000 28 (.agg #[.string x.k, .string x.s, .int .i64 x.id, .int .i64 x.sz, .bool x.u]) (.agg #[.string x.k, .string x.s, .int .i64 x.id, .int .i64 x.sz, .bool x.u])).run Try.prog wx = .ok true wx := by
  have hu : Try.prog.underlying 28 = some (.struct (Try.prog.fieldsOf 28)) := by simp [Program.fieldsOf, Try.underlying28]
  rw [run_equalIn_struct wx 9999 28 _ _ hu (by kernel_rfl)]
  simp only [Program.fieldsOf, Try.underlying28]
  have p0 := part_cell (P := Try.prog) 9 _ Try.underlying9 rfl #[.string x.k, .string x.s, .int .i64 x.id, .int .i64 x.sz, .bool x.u] 0 _ rfl wx
  have p1 := part_cell (P := Try.prog) 9 _ Try.underlying9 rfl #[.string x.k, .string x.s, .int .i64 x.id, .int .i64 x.sz, .bool x.u] 1 _ rfl wx
  have p2 := part_cell (P := Try.prog) 3 _ Try.underlying3 rfl #[.string x.k, .string x.s, .int .i64 x.id, .int .i64 x.sz, .bool x.u] 2 _ rfl wx
  have p3 := part_cell (P := Try.prog) 3 _ Try.underlying3 rfl #[.string x.k, .string x.s, .int .i64 x.id, .int .i64 x.sz, .bool x.u] 3 _ rfl wx
  have p4 := part_cell (P := Try.prog) 4 _ Try.underlying4 rfl #[.string x.k, .string x.s, .int .i64 x.id, .int .i64 x.sz, .bool x.u] 4 _ rfl wx
  have q0 := fun x => run_equalIn_string (P := Try.prog) wx 9998 9 x x Try.underlying9
  have q2 := fun x => run_equalIn_int (P := Try.prog) wx 9998 3 .i64 .i64 x x Try.underlying3
  have q4 := fun x => run_equalIn_bool (P := Try.prog) wx 9998 4 x x Try.underlying4
  simp [Op.eqFields, p0, p1, p2, p3, p4, q0, q2, q4]
set_option maxRecDepth 100000 in
set_option maxHeartbeats 8000000 in
theorem indexRows_walk (v0 : Value) (l : List Ac20) (x : En) (hl : l.length ≤ 9223372036854775807) (hs : ∀ q ∈ l, SizedAc20 q) (hx : SizedEn x) (w : World) (hI : Ac20sIs w v0 l) :
    Calls Try.prog 5 #[v0, .agg (e5 x)] w fun e w' => e = .returned (.bool true) ∧ Fr0 w w' := by
  obtain ⟨A, cap, pb, po, rfl, _, hA, hC⟩ := hI
  have HF0 := Lib.hid ((Fr.refl (fun _ => False) w).alloc (.cells (e5 x) 28))
  have HX0 : Hid ((w.alloc (.cells (e5 x) 28)).heap[w.heap.size]? = some (.cells (e5 x) 28 (0, 0))) := Lib.hid (heap_alloc_new w _)
  have HC : Hid (∀ w', Fr0 w w' → ∀ (j : Nat) (q : Ac20), l[j]? = some q → Ac20At w' pb (po + j * 7) q) := Lib.hid (fun w' hf j q hq => by
    exact (hC j q hq).fr hf (fun f => f))
  have HA := Lib.hid hA
  have HGET : Hid (∀ i, i < l.length → ∃ q, l[i]? = some q ∧ SizedAc20 q) := Lib.hid (fun i hi => ⟨_, List.getElem?_eq_getElem hi, hs _ (List.getElem_mem hi)⟩)
  have HNX : Hid (∀ i q, l[i]? = some q → runSt (l.take (i + 1)) = actSt (runSt (l.take i)) q) := Lib.hid (fun i q h => run_next l i q h)
  have HR0 : Hid (runSt (l.take 0) = []) := Lib.hid rfl
  have HRE : Hid (runSt (l.take l.length) = runSt l) := Lib.hid (by rw [List.take_length])
  have HRL : Hid ((runSt l).length ≤ l.length) := Lib.hid (run_length l)
  have HROK : Hid (OkX (runSt l)) := Lib.hid (okX_run l)
  have hkl : x.k.size ≤ 140737488351232 := hx.s_k
  have HXS := Lib.hid hx.s_s
  clear hA hC hs
  generalize hn : l.length = n at *
  clear hn
  by_cases hbig : 100 < n
  · have b1 : (100 : Int) < (n : Int) := by omega
    unfold e5
    go_enter Try.func5, Try.ntmps5
    go_wp2_with fail
    refine (awake_any _).mono ?_
    rintro e w1 ⟨rfl, hF⟩
    have HF := Lib.hid (HF0.out.trans' hF)
    clear hF
    go_wp2
    go_ret
    exact ⟨rfl, HF.out⟩
  · have b1 : ¬ (100 : Int) < (n : Int) := by omega
    have b1' : decide ((100 : Int) < (n : Int)) = false := decide_eq_false b1
    have cx0 : ∀ w', Fr0 (w.alloc (.cells (e5 x) 28)) w' → w'.heap[w.heap.size]? = some (.cells (e5 x) 28 (0, 0)) := fun w' hf => hf.heap HX0.out (fun f => f)
    have HCX : Hid (∀ w', Fr0 (w.alloc (.cells (e5 x) 28)) w' → w'.cell? ⟨w.heap.size, 0, none⟩ = some (.string x.k) ∧ w'.cell? ⟨w.heap.size, 1, none⟩ = some (.string x.s) ∧ w'.cell? ⟨w.heap.size, 2, none⟩ = some (.int .i64 x.id) ∧ w'.cell? ⟨w.heap.size, 3, none⟩ = some (.int .i64 x.sz) ∧ w'.cell? ⟨w.heap.size, 4, none⟩ = some (.bool x.u)) := Lib.hid (fun w' hf => by
      have h := cx0 w' hf
      refine ⟨?_, ?_, ?_, ?_, ?_⟩ <;> rw [cell_of_row _ _ _ _ _ _ h] <;> rfl)
    clear cx0 HX0
    by_cases hkey : 50 < x.k.size
    · have b2 : (50 : Int) < (x.k.size : Int) := by omega
      unfold e5
      go_enter Try.func5, Try.ntmps5
      go_wp2_with fail
      refine (awake_any _).mono ?_
      rintro e w1 ⟨rfl, hF⟩
      have HF := Lib.hid (HF0.out.trans' hF)
      obtain ⟨k0, k1, k2, k3, k4⟩ := HCX.out w1 hF
      clear hF
      go_wp2
      go_ret
      exact ⟨rfl, HF.out⟩
    · have b2 : ¬ (50 : Int) < (x.k.size : Int) := by omega
      have b2' : decide ((50 : Int) < (x.k.size : Int)) = false := decide_eq_false b2
      have b2n : decide (50 < x.k.size) = false := decide_eq_false (by omega)
      have hxb : e5 x = #[.string x.k, .string x.s, .int .i64 x.id, .int .i64 x.sz, .bool x.u] := rfl
      rw [hxb] at HF0 HCX ⊢
      clear hxb
      obtain ⟨w0, hw0⟩ : ∃ w0, w.alloc (.cells #[.string x.k, .string x.s, .int .i64 x.id, .int .i64 x.sz, .bool x.u] 28) = w0 := ⟨_, rfl⟩
      have HW0 := Lib.hid hw0
      rw [hw0] at HF0 HCX
      obtain ⟨xb, hxb⟩ : ∃ xb, w.heap.size = xb := ⟨_, rfl⟩
      have HXB := Lib.hid hxb
      rw [hxb] at HCX
      clear hw0 hxb
      go_enter Try.func5, Try.ntmps5
      go_wp2_with fail
      rw [HW0.out, HXB.out]
      clear HW0 HXB
      refine (awake_any w0).mono ?_
      rintro e w1 ⟨rfl, hF⟩
      have HF1 := Lib.hid hF
      obtain ⟨k0, k1, k2, k3, k4⟩ := HCX.out w1 hF
      clear hF
      go_wp2_with fail
      refine (new_B w1.heap.size w1 w1 (Fr.refl _ _) rfl).mono ?_
      rintro e w2 ⟨g, rfl, hI, hF⟩
      have HI2 := Lib.hid hI
      have HF2 := Lib.hid hF
      clear hI hF k0 k1 k2 k3 k4
      go_wp2_with fail
      go_loopg [6] n (fun kx vi wr => ∃ i : Nat, vi = .int .i64 (i : Int) ∧ i ≤ n ∧ n - i ≤ kx ∧ Hid (IxB w1.heap.size wr g (runSt (l.take i))) ∧ Hid (Fr0 w1 wr))
      case atStart => exact ⟨0, rfl, Nat.zero_le _, by omega, Lib.hid (by rw [HR0.out]; exact HI2.out), HF2⟩
      case round =>
        obtain ⟨i, rfl, hi, hkx, HI, HF⟩ := hrel
        by_cases hlt : i < n
        · obtain rfl := HA.out (by omega)
          obtain ⟨q, hq, hqs⟩ := HGET.out i hlt
          have hc := HC.out wr (HF0.out.trans' (HF1.out.trans' HF.out)) i q hq
          obtain ⟨c0, c1, c2, c3, c4, c5, c6⟩ := hc
          have HN := Lib.hid (HNX.out i q hq)
          have hqk := hqs.s_k
          have hqz := hqs.s_s
          have hqn := hqs.s_n
          have i1 : (i : Int) < (n : Int) := by omega
          have i2 : 0 ≤ (i : Int) := by omega
          clear hq hqs
          by_cases hk5 : 50 < q.k.size
          · have b3 : (50 : Int) < (q.k.size : Int) := by omega
            have HFE := Lib.hid (HF0.out.trans' (HF1.out.trans' HF.out))
            clear HN HI HF
            go_wp2
            go_ret
            exact ⟨rfl, HFE.out⟩
          · have b3 : ¬ (50 : Int) < (q.k.size : Int) := by omega
            by_cases ho : q.op = 0
            · have HADD := Lib.hid (add_B q.en HI.out HF.out rfl hqk hqz)
              have HACT : Hid (actSt (runSt (l.take i)) q = addSt (runSt (l.take i)) q.en) := Lib.hid (by unfold actSt; rw [if_pos ho])
              rw [show e5 q.en = #[.string q.k, .string q.s, .int .i64 q.id, .int .i64 q.sz, .bool q.u] from rfl] at HADD
              have o1 : (q.op == 0) = true := by simpa using ho
              clear ho HI HF
              go_wp2_with fail
              refine HADD.out.mono ?_
              rintro e w3 ⟨rfl, hI, hF⟩
              have HI3 : Hid (IxB w1.heap.size w3 g (runSt (l.take (i + 1)))) := Lib.hid (by rw [HN.out, HACT.out]; exact hI)
              have HF3 := Lib.hid hF
              clear hI hF HADD
              go_wp2
              go_roundg (n - (i + 1))
              case measure => omega
              case rel => exact ⟨i + 1, by simp, by omega, by omega, HI3, HF3⟩
            · have HDR := Lib.hid (drop_B q.n hqn HI.out HF.out rfl)
              have HACT : Hid (actSt (runSt (l.take i)) q = dropSt (runSt (l.take i)) q.n) := Lib.hid (by unfold actSt; rw [if_neg ho])
              have o1 : (q.op == 0) = false := by simpa using ho
              clear ho HI HF
              go_wp2_with fail
              refine HDR.out.mono ?_
              rintro e w3 ⟨rfl, hI, hF⟩
              have HI3 : Hid (IxB w1.heap.size w3 g (runSt (l.take (i + 1)))) := Lib.hid (by rw [HN.out, HACT.out]; exact hI)
              have HF3 := Lib.hid hF
              clear hI hF HDR
              go_wp2
              go_roundg (n - (i + 1))
              case measure => omega
              case rel => exact ⟨i + 1, by simp, by omega, by omega, HI3, HF3⟩
        · obtain rfl : i = n := by omega
          rw [HRE.out] at HI
          clear HC HA HGET HNX HR0 HRE HI2 HF2
          have hrl := HRL.out
          have HLN : Hid ((runSt l).length = (runSt l).length) := Lib.hid rfl
          generalize runSt l = L at *
          have HRW := Lib.hid (rows_B HI.out)
          obtain ⟨m, hm⟩ : ∃ m, L.length = m := ⟨_, rfl⟩
          have HM := Lib.hid hm
          rw [hm] at HRW hrl
          clear hm
          have hw1 : wrap64 ((m : Int) - 1) = (m : Int) - 1 := by simp only [wrap64]; omega
          go_wp2_with fail
          refine HRW.out.mono ?_
          rintro e w3 ⟨rfl, rfl⟩
          go_wp2_with fail
          refine HRW.out.mono ?_
          rintro e w3 ⟨rfl, rfl⟩
          go_wp2_with fail
          go_loopg [7, 8] m (fun kx vl vi wr => ∃ (j : Nat) (v : Int), vi = .int .i64 v ∧ Hid (v = (j : Int) - 1) ∧ vl = .int .i64 ((leastFrom L j : Nat) : Int) ∧ j ≤ m ∧ j ≤ kx ∧ Hid (IxB w1.heap.size wr g L) ∧ Hid (Fr0 w1 wr))
          case atStart => exact ⟨m, _, rfl, Lib.hid rfl, by have h := leastFrom_end L; rw [HM.out] at h; rw [h], Nat.le_refl _, Nat.le_refl _, HI, HF⟩
          case round =>
            obtain ⟨j, v, rfl, HV, rfl, hj, hjk, HIj, HFj⟩ := hrel
            by_cases hj0 : 0 < j
            · obtain ⟨r, rfl⟩ : ∃ r, j = r + 1 := ⟨j - 1, by omega⟩
              obtain rfl : v = (r : Int) := by have := HV.out; omega
              have HST := Lib.hid (leastFrom_step L r (by rw [HM.out]; omega))
              have HAT := Lib.hid (at_B (r : Int) (by unfold inI64; omega) HIj.out HFj.out)
              have HISR := Lib.hid (isRow_nat (L := L) (j := r) (by rw [HM.out]; omega))
              rw [HISR.out] at HAT
              have v1 : (0 : Int) ≤ (r : Int) := by omega
              have hw : wrap64 ((r : Int) - 1) = (r : Int) - 1 := by simp only [wrap64]; omega
              rw [show e5 (atX L (r : Int)) = #[.string (atX L (r : Int)).k, .string (atX L (r : Int)).s, .int .i64 (atX L (r : Int)).id, .int .i64 (atX L (r : Int)).sz, .bool (atX L (r : Int)).u] from rfl] at HAT
              generalize atX L (r : Int) = ex at *
              generalize leastFrom L (r + 1) = lf at *
              generalize gap (L.getD r zeroE) = gp at *
              clear HV hj0 HISR
              go_wp2_with fail
              refine HAT.out.mono ?_
              rintro e w3 ⟨rfl, hI, hF, -⟩
              have HI3 := Lib.hid (IxB.fr0 hI (((Fr.refl (fun _ => False) w3).alloc (.cells #[.string ex.k, .string ex.s, .int .i64 ex.id, .int .i64 ex.sz, .bool ex.u] 28))))
              have HF3 := Lib.hid (hF.alloc (.cells #[.string ex.k, .string ex.s, .int .i64 ex.id, .int .i64 ex.sz, .bool ex.u] 28))
              clear hI hF HAT HIj HFj
              cases gp with
              | true =>
                go_wp2
                go_roundg r
                case measure => omega
                case rel => exact ⟨r, _, rfl, Lib.hid rfl, by rw [HST.out]; rfl, by omega, Nat.le_refl _, HI3, HF3⟩
              | false =>
                go_wp2
                go_roundg r
                case measure => omega
                case rel => exact ⟨r, _, rfl, Lib.hid rfl, by rw [HST.out]; rfl, by omega, Nat.le_refl _, HI3, HF3⟩
            · obtain rfl : j = 0 := by omega
              have v1 : ¬ (0 : Int) ≤ v := by have := HV.out; omega
              have hlz := leastFrom_zero L
              rw [hlz]
              have hll := least_le L
              rw [HM.out] at hll
              have HLB : Hid (least L ≤ m) := Lib.hid hll
              have HFIND := Lib.hid (find_B x.k HIj.out HFj.out)
              have HADD := Lib.hid (fun w' (hI : IxB w1.heap.size w' g L) (hF : Fr0 w1 w') => add_B x hI hF rfl hkl HXS.out)
              rw [show e5 x = #[.string x.k, .string x.s, .int .i64 x.id, .int .i64 x.sz, .bool x.u] from rfl] at HADD
              obtain ⟨k0, k1, k2, k3, k4⟩ := HCX.out wr (HF1.out.trans' HFj.out)
              have HBAD : Hid (gap x = true ∨ hasX x.k L = true → addErr L x ≠ 0) := Lib.hid addErr_bad
              have HADD0 : Hid (gap x = false → hasX x.k L = false → addErr L x = 0) := Lib.hid (fun h1 h2 => addErr_none h1 h2 (by rw [HM.out]; omega))
              have HFND : Hid (addErr L x = 0 → gap x = false → findX x.k (addSt L x) = least L ∧ hasX x.k (addSt L x) = true ∧ atX (addSt L x) (least L : Int) = x ∧ isRow (addSt L x) (least L : Int) = true) := Lib.hid (fun h1 h2 => added_found HROK.out h1 h2)
              have hgx : (x.k.toList == []) = gap x := by
                have h := Ord.eq_raw x.k ⟨#[]⟩
                rw [show (⟨#[]⟩ : ByteArray).toList = [] by decide +kernel] at h
                exact h
              have hinl : inI64 ((least L : Nat) : Int) := by unfold inI64; omega
              clear HV hlz hj0 HRW HI HF
              generalize findX x.k L = fx at *
              generalize hasX x.k L = hx at *
              generalize addErr L x = er at *
              generalize addSt L x = L2 at *
              generalize least L = lst at *
              generalize gap x = gx at *
              go_wp2_with fail
              refine HFIND.out.mono ?_
              rintro e w3 ⟨rfl, hI, hF⟩
              have HI3 := Lib.hid hI
              have HF3 := Lib.hid hF
              clear hI hF HFIND HIj HFj k0 k1 k2 k3 k4
              obtain ⟨k0, k1, k2, k3, k4⟩ := HCX.out w3 (HF1.out.trans' HF3.out)
              go_wp2_with fail
              refine (HADD.out w3 HI3.out HF3.out).mono ?_
              rintro e w4 ⟨rfl, hI, hF⟩
              have HI4 := Lib.hid hI
              have HF4 := Lib.hid hF
              clear hI hF HADD HI3 HF3 k0 k1 k2 k3 k4
              obtain ⟨k0, k1, k2, k3, k4⟩ := HCX.out w4 (HF1.out.trans' HF4.out)
              have HFE := Lib.hid (HF0.out.trans' (HF1.out.trans' HF4.out))
              cases gx with
              | true =>
                have e1 : (er != 0) = true := by simpa using HBAD.out (.inl rfl)
                clear HBAD HADD0 HFND
                go_wp2
                go_ret
                exact ⟨rfl, HFE.out⟩
              | false =>
                cases hx with
                | true =>
                  have e1 : (er != 0) = true := by simpa using HBAD.out (.inr rfl)
                  clear HBAD HADD0 HFND
                  go_wp2
                  go_ret
                  exact ⟨rfl, HFE.out⟩
                | false =>
                  have her := HADD0.out rfl rfl
                  obtain ⟨f1, f2, f3, f4⟩ := HFND.out her rfl
                  subst her
                  have HFI := Lib.hid (find_B x.k HI4.out HF4.out)
                  have HATL := Lib.hid (fun w' (hI : IxB w1.heap.size w' g L2) (hF : Fr0 w1 w') => at_B (lst : Int) hinl hI hF)
                  rw [f1, f2] at HFI
                  rw [f3, f4, show e5 x = #[.string x.k, .string x.s, .int .i64 x.id, .int .i64 x.sz, .bool x.u] from rfl] at HATL
                  have heq := eq_en x
                  clear HBAD HADD0 HFND f1 f2 f3 f4 hinl
                  go_wp2_with fail
                  refine HFI.out.mono ?_
                  rintro e w5 ⟨rfl, hI, hF⟩
                  have HI5 := Lib.hid hI
                  have HF5 := Lib.hid hF
                  clear hI hF HFI HI4 HF4 k0 k1 k2 k3 k4
                  go_wp2_with fail
                  refine (HATL.out w5 HI5.out HF5.out).mono ?_
                  rintro e w6 ⟨rfl, hI, hF, -⟩
                  have HF6 := Lib.hid (hF.alloc (.cells #[.string x.k, .string x.s, .int .i64 x.id, .int .i64 x.sz, .bool x.u] 28))
                  obtain ⟨k0, k1, k2, k3, k4⟩ := HCX.out _ (HF1.out.trans' HF6.out)
                  have HFE := Lib.hid (HF0.out.trans' (HF1.out.trans' HF6.out))
                  clear hI hF HATL HI5 HF5
                  go_wp2
                  go_ret
                  exact ⟨rfl, HFE.out⟩
end Go.Proofs.Ytnglmkombogheaa.Index
