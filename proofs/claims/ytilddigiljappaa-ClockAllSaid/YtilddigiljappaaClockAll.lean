/-
  Each that was there goes once; who is not used goes first.
-/
import Derived.Test.YtilddigiljappaaClockGo
import Derived.Test.YtilddigiljappaaClockAlike
import Derived.Test.YtilddigiljappaaClockAwake
import Derived.Test.YtilddigiljappaaClockSays
namespace Go.Proofs.Ytilddigiljappaa.Clock
open Go.RowKit Base

theorem infoB : (Try.prog.info? 4).map (fun i => (i.zero, i.size, i.bytes)) = some (some (.bool false), 1, 1) := by kernel_rfl
theorem make_bools (n : Nat) (hn : n ≤ 1000000) (w : World) : (Instr.makeSlice 29 (.int .i64 (n : Int)) (.int .i64 (n : Int))).run Try.prog w = .ok (.slice (some ⟨w.heap.size, 0, none⟩) n n) (w.alloc (.cells (madeCells #[.bool false] n) 4)) :=
  run_make_row' (P := Try.prog) 29 4 (.bool false) 1 Try.underlying29 infoB rfl .i64 .i64 n (by omega) (by omega) w
theorem many_take (d : List Int) (i : Nat) (hi : i < d.length) : many (d.take (i + 1)) = many (d.take i) + if 0 < d.getD i 0 then 1 else 0 := by
  induction d generalizing i with
  | nil => simp at hi
  | cons x d ih =>
    cases i with
    | zero => simp [many]
    | succ i =>
      have := ih i (by simpa using hi)
      simp only [List.take_succ_cons, many, this, List.getD_eq_getElem?_getD, List.getElem?_cons_succ]
      omega
theorem many_le (d : List Int) : many d ≤ d.length := by
  rw [many_filter]
  have := List.length_filter_le (fun i => decide (0 < d.getD i 0)) (List.range d.length)
  rwa [List.length_range] at this
set_option maxRecDepth 100000 in
set_option maxHeartbeats 8000000 in
theorem clockAll_walk (v0 : Value) (d0 : List Int) (n0 : Int) (hd : d0.length ≤ 9223372036854775807) (hs : ∀ x ∈ d0, I64 x) (hh : I64 n0) (w : World) (hI : IntsIs w v0 d0) :
    Calls Try.prog 5 #[v0, .int .i64 n0] w fun e w' => e = .returned (.bool true) ∧ Fr0 w w' := by
  obtain ⟨A0, C0, rfl⟩ := ints_form hI
  have HI := Lib.hid hI
  clear hI
  by_cases hlen : 60 < d0.length
  · have l1 : (60 : Int) < (d0.length : Int) := by omega
    generalize d0.length = n at *
    go_enter Try.func5, Try.ntmps5
    go_wp2_with fail
    refine (awake_any w).mono ?_
    rintro e w1 ⟨rfl, hF⟩
    have HF := Lib.hid hF
    clear hF
    go_wp2
    go_ret
    exact ⟨rfl, HF.out⟩
  · have l1 : ¬ (60 : Int) < (d0.length : Int) := by omega
    have HPO := Lib.hid (fun w (hI : IntsIs w (.slice A0 d0.length C0) d0) => porder_any _ d0 n0 (by omega) hs hh w hI)
    have HPG := Lib.hid (fun w (hI : IntsIs w (.slice A0 d0.length C0) d0) => pgood_any _ d0 n0 (by omega) hs hh w hI)
    cases hg : goodD d0 n0 with
    | false =>
      rw [hg] at HPG
      clear HPO hs hh hd hg hlen
      generalize d0.length = n at *
      go_enter Try.func5, Try.ntmps5
      go_wp2_with fail
      refine (awake_any w).mono ?_
      rintro e w1 ⟨rfl, hF⟩
      have HF := Lib.hid hF
      have HI1 := Lib.hid (HI.out.fr0 hF)
      clear hF
      go_wp2_with fail
      refine (HPG.out w1 HI1.out).mono ?_
      rintro e w2 ⟨rfl, hF⟩
      have HF2 := Lib.hid (HF.out.trans' hF)
      clear hF HPG
      go_wp2
      go_ret
      exact ⟨rfl, HF2.out⟩
    | true =>
      rw [hg] at HPG
      have hol : (orderS d0 n0).length ≤ 60 := by rw [order_length hg]; have := many_le d0; omega
      have HOL : Hid ((orderS d0 n0).length = many d0) := Lib.hid (order_length hg)
      have HMEM : Hid (∀ k, k < (orderS d0 n0).length → (orderS d0 n0).getD k 0 < d0.length ∧ d0.getD ((orderS d0 n0).getD k 0) 0 ≠ 0) := Lib.hid (fun k hk => by
        rw [List.getD_eq_getElem?_getD, List.getElem?_eq_getElem hk]
        exact (order_mem hg).1 (List.getElem_mem hk))
      have HNEW : Hid (∀ k, k < (orderS d0 n0).length → (orderS d0 n0).getD k 0 ∉ (orderS d0 n0).take k) := Lib.hid (fun k hk hm => by
        have hnd := order_nodup hg
        rw [List.getD_eq_getElem?_getD, List.getElem?_eq_getElem hk] at hm
        obtain ⟨j, hj, e⟩ := List.mem_iff_getElem.1 hm
        rw [List.getElem_take] at e
        rw [List.length_take] at hj
        have := (List.getElem_inj hnd).1 e
        omega)
      have HONE : Hid (∀ k, k + 1 < (orderS d0 n0).length → ¬ (d0.getD ((orderS d0 n0).getD (k + 1) 0) 0 = 1 ∧ d0.getD ((orderS d0 n0).getD k 0) 0 = 2)) := Lib.hid (fun k hk => by
        refine order_ones hg (i := k) ?_ ?_
        · rw [List.getD_eq_getElem?_getD, List.getElem?_eq_getElem (by omega : k < _)]; rfl
        · rw [List.getD_eq_getElem?_getD, List.getElem?_eq_getElem hk]; rfl)
      have HMT : Hid (∀ i, i < d0.length → many (d0.take (i + 1)) = many (d0.take i) + if 0 < d0.getD i 0 then 1 else 0) := Lib.hid (fun i hi => many_take d0 i hi)
      have HMA : Hid (many (d0.take d0.length) = many d0) := Lib.hid (by rw [List.take_length])
      have HML : Hid (∀ i, many (d0.take i) ≤ i) := Lib.hid (fun i => Nat.le_trans (many_le _) (by rw [List.length_take]; omega))
      generalize orderS d0 n0 = os at *
      clear hs hh hd hg
      obtain ⟨pb, po, hA, hC⟩ := ints_cells HI.out
      have HA := Lib.hid hA
      have HC : Hid (∀ w', Fr0 w w' → ∀ j, j < d0.length → w'.cell? ⟨pb, po + j, none⟩ = some (.int .i64 (d0.getD j 0))) := Lib.hid (fun w' hf j hj => by
        obtain ⟨h1, h2⟩ := hC j hj
        rw [(hf.cell (p := ⟨pb, po + j, none⟩) h1 (fun f => f)).trans h2])
      clear hA hC
      have hn6 : d0.length ≤ 60 := by omega
      clear hlen
      generalize d0.length = n at *
      have f7 : decide ((60 : Int) < (n : Int)) = false := decide_eq_false l1
      go_enter Try.func5, Try.ntmps5
      go_wp2_with fail
      refine (awake_any w).mono ?_
      rintro e w1 ⟨rfl, hF⟩
      have HF := Lib.hid hF
      have HI1 := Lib.hid (HI.out.fr0 hF)
      clear hF
      go_wp2_with fail
      refine (HPG.out w1 HI1.out).mono ?_
      rintro e w2 ⟨rfl, hF⟩
      have HF2 := Lib.hid (HF.out.trans' hF)
      have HI2 := Lib.hid (HI1.out.fr0 hF)
      clear hF HPG
      go_wp2_with fail
      refine (HPO.out w2 HI2.out).mono ?_
      rintro e w3 ⟨ov, rfl, hO, hF⟩
      have HF3 := Lib.hid (HF2.out.trans' hF)
      obtain ⟨AO, CO, rfl⟩ := ints_form hO
      rw [List.length_map] at *
      have hO2 : IntsIs w3 (.slice AO (os.map fun i : Nat => (i : Int)).length CO) (os.map fun i : Nat => (i : Int)) := by rw [List.length_map]; exact hO
      obtain ⟨qb, qo, hA, hC⟩ := ints_cells hO2
      rw [List.length_map] at hA hC
      have HB := Lib.hid hA
      have HD : Hid (∀ w', Fr0 w3 w' → ∀ j, j < os.length → w'.cell? ⟨qb, qo + j, none⟩ = some (.int .i64 ((os.getD j 0 : Nat) : Int))) := Lib.hid (fun w' hf j hj => by
        obtain ⟨h1, h2⟩ := hC j hj
        rw [(hf.cell (p := ⟨qb, qo + j, none⟩) h1 (fun f => f)).trans h2]
        simp [List.getD_eq_getElem?_getD, List.getElem?_eq_getElem hj])
      clear hF hO hO2 hA hC HPO HI1 HI2
      have hmk := make_bools n (by omega) w3
      have HROW : Hid ((w3.alloc (.cells (madeCells #[.bool false] n) 4)).rowIs w3.heap.size 4 n (fun j => .bool (decide (j ∈ os.take 0)))) := Lib.hid ((World.rowIs_made w3 (.bool false) n 4).congr (fun i _ => by simp))
      have HFA : Hid (Fr0 w3 (w3.alloc (.cells (madeCells #[.bool false] n) 4))) := Lib.hid ((Fr.refl _ _).alloc _)
      generalize hon : os.length = on at *
      have LEN := Lib.hid hon
      clear hon
      go_wp2_with fail
      clear hmk
      generalize hW4 : w3.alloc (.cells (madeCells #[.bool false] n) 4) = w4 at *
      clear hW4
      go_loopg [7, 8] n (fun kx vn vi wr => w4 = wr ∧ ∃ (i : Nat), vi = .int .i64 (i : Int) ∧ vn = .int .i64 ((many (d0.take i) : Nat) : Int) ∧ i ≤ n ∧ n - i ≤ kx)
      case atStart => exact ⟨rfl, 0, rfl, by simp [many], Nat.zero_le _, by omega⟩
      case round =>
        obtain ⟨rfl, i, rfl, rfl, hi, hk⟩ := hrel
        have hml := HML.out i
        by_cases hlt : i < n
        · have c1 := HC.out w4 (HF3.out.trans' HFA.out) i hlt
          obtain rfl := HA.out (by omega)
          have hmt := HMT.out i hlt
          have i1 : (i : Int) < (n : Int) := by omega
          have i2 : 0 ≤ (i : Int) := by omega
          generalize d0.getD i 0 = y at *
          generalize many (d0.take i) = M at *
          by_cases hy : 0 < y
          · rw [if_pos hy] at hmt
            have HT := Lib.hid hmt
            clear hmt
            have hw : wrap64 ((M : Int) + 1) = (M : Int) + 1 := by simp only [wrap64]; omega
            go_wp2
            go_roundg (n - (i + 1))
            case measure => omega
            case rel => exact ⟨rfl, i + 1, by simp, by rw [HT.out]; simp, by omega, by omega⟩
          · rw [if_neg hy] at hmt
            have HT := Lib.hid hmt
            clear hmt
            go_wp2
            go_roundg (n - (i + 1))
            case measure => omega
            case rel => exact ⟨rfl, i + 1, by simp, by rw [HT.out]; simp, by omega, by omega⟩
        · obtain rfl : i = n := by omega
          rw [HMA.out] at hml ⊢
          have HON : Hid (on = many d0) := HOL
          generalize many d0 = M at *
          clear HMT HMA HML
          go_wp2
          go_loopg [9] on (fun kx vi wr => ∃ (k : Nat), vi = .int .i64 (k : Int) ∧ k ≤ on ∧ on - k ≤ kx ∧ Hid (Fr0 w3 wr) ∧ Hid (wr.rowIs w3.heap.size 4 i (fun j => .bool (decide (j ∈ os.take k)))))
          case atStart => exact ⟨0, rfl, Nat.zero_le _, by omega, HFA, HROW⟩
          case round =>
            obtain ⟨k, rfl, hk1, hk2, HFR, HRW⟩ := hrel
            by_cases hlt : k < on
            · obtain rfl := HB.out (by omega)
              have d1 := HD.out wr HFR.out k hlt
              obtain ⟨hx1, hx2⟩ := HMEM.out k hlt
              have hnw := HNEW.out k hlt
              have c1 := HC.out wr (HF3.out.trans' HFR.out) _ hx1
              obtain rfl := HA.out (by omega)
              have g1 := HRW.out.cell hx1
              rw [decide_eq_false hnw] at g1
              have gz := HRW.out.frozen (os.getD k 0)
              have HSET := Lib.hid (HRW.out.set (os.getD k 0) (.bool true))
              have HF5 : Hid (Fr0 w3 (wr.setCell ⟨w3.heap.size, os.getD k 0, none⟩ (.bool true))) := Lib.hid (Fr.setCell HFR.out (fun h => by have h' : w3.heap.size < w3.heap.size := h; omega) _)
              have HRW2 : Hid ((wr.setCell ⟨w3.heap.size, os.getD k 0, none⟩ (.bool true)).rowIs w3.heap.size 4 i (fun j => .bool (decide (j ∈ os.take (k + 1))))) := Lib.hid (HSET.out.congr (fun j hj => by
                have e : os.take (k + 1) = os.take k ++ [os.getD k 0] := by
                  by_cases hkk : k < os.length
                  · rw [List.take_add_one, List.getElem?_eq_getElem hkk, List.getD_eq_getElem?_getD, List.getElem?_eq_getElem hkk]; rfl
                  · exact absurd LEN.out (fun h => by omega)
                rw [e]
                by_cases hjx : j = os.getD k 0
                · simp [hjx]
                · simp [hjx, Bool.or_comm]))
              have i1 : (k : Int) < (on : Int) := by omega
              have i2 : 0 ≤ (k : Int) := by omega
              have c2 := HC.out _ (HF3.out.trans' HF5.out) _ hx1
              have d2 := HD.out _ HF5.out k hlt
              by_cases hk0 : k = 0
              · have k5 : decide ((0 : Int) < (k : Int)) = false := decide_eq_false (by omega)
                have k6 : ¬ (0 : Int) < (k : Int) := by omega
                generalize os.getD k 0 = x at *
                have x1 : (x : Int) < (i : Int) := by omega
                have x2 : 0 ≤ (x : Int) := by omega
                have x3 : ¬ (x : Int) < 0 := by omega
                have x4 : ¬ (i : Int) ≤ (x : Int) := by omega
                generalize d0.getD x 0 = y at *
                have y1 : (y == 0) = false := by simpa using hx2
                have f1 : decide ((x : Int) < 0) = false := decide_eq_false x3
                have f2 : decide ((i : Int) ≤ (x : Int)) = false := decide_eq_false x4
                have f3 : decide (i ≤ x) = false := decide_eq_false (by omega)
                have f4 : decide (0 < k) = false := decide_eq_false (by omega)
                clear hx2 hnw HRW HSET hk0
                go_wp2
                go_roundg (on - (k + 1))
                case measure => omega
                case rel => exact ⟨k + 1, by simp, by omega, by omega, HF5, HRW2⟩
              · obtain ⟨q, hq⟩ : ∃ q, k = q + 1 := ⟨k - 1, by omega⟩
                have hone := HONE.out q (by omega)
                rw [← hq] at hone
                obtain ⟨hy1, hy2⟩ := HMEM.out q (by omega)
                have c3 := HC.out _ (HF3.out.trans' HF5.out) _ hy1
                have d3 := HD.out _ HF5.out q (by omega)
                rw [show qo + q = qo + (k - 1) by omega] at d3
                have kw : wrap64 ((k : Int) - 1) = (q : Int) := by simp only [wrap64]; omega
                have k3 : (q : Int) < (on : Int) := by omega
                have k4 : 0 ≤ (q : Int) := by omega
                have k5 : decide ((0 : Int) < (k : Int)) = true := decide_eq_true (by omega)
                have k6 : (0 : Int) < (k : Int) := by omega
                have f4 : decide (0 < k) = true := decide_eq_true (by omega)
                generalize os.getD k 0 = x at *
                generalize os.getD q 0 = z at *
                have x1 : (x : Int) < (i : Int) := by omega
                have x2 : 0 ≤ (x : Int) := by omega
                have x3 : ¬ (x : Int) < 0 := by omega
                have x4 : ¬ (i : Int) ≤ (x : Int) := by omega
                have z1 : (z : Int) < (i : Int) := by omega
                have z2 : 0 ≤ (z : Int) := by omega
                generalize d0.getD x 0 = y at *
                generalize d0.getD z 0 = u at *
                have y1 : (y == 0) = false := by simpa using hx2
                have f1 : decide ((x : Int) < 0) = false := decide_eq_false x3
                have f2 : decide ((i : Int) ≤ (x : Int)) = false := decide_eq_false x4
                have f3 : decide (i ≤ x) = false := decide_eq_false (by omega)
                have HM2 : Hid (on - (k + 1) < gk) := Lib.hid (by omega)
                have HK : Hid (k + 1 ≤ on ∧ on - (k + 1) ≤ on - (k + 1)) := Lib.hid (by omega)
                clear hx2 hnw HRW HSET hy2 hq hk0
                by_cases e1 : y = 1
                · have e2 : (u == 2) = false := by simpa using fun h => hone ⟨e1, h⟩
                  have e1' : (y == 1) = true := by simpa using e1
                  clear hone e1
                  go_wp2
                  go_roundg (on - (k + 1))
                  case measure => exact HM2.out
                  case rel => exact ⟨k + 1, by simp, HK.out.1, HK.out.2, HF5, HRW2⟩
                · have e1' : (y == 1) = false := by simpa using e1
                  clear hone e1
                  go_wp2
                  go_roundg (on - (k + 1))
                  case measure => exact HM2.out
                  case rel => exact ⟨k + 1, by simp, HK.out.1, HK.out.2, HF5, HRW2⟩
            · obtain rfl : k = on := by omega
              have HFE := Lib.hid (HF3.out.trans' HFR.out)
              go_wp2
              go_ret
              exact ⟨by rw [HON.out]; simp, HFE.out⟩
end Go.Proofs.Ytilddigiljappaa.Clock
