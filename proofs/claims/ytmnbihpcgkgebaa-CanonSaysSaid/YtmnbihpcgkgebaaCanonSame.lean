/-
  The law's same: two requests alike?
-/
import Derived.Test.YtmnbihpcgkgebaaCanonOwn
import Derived.Laws.StructEq
import Derived.Test.YtmnbihpcgkgebaaArr
namespace Go.Proofs.Ytmnbihpcgkgebaa.CanonL
open Go.RowKit Base Pack _root_.Go.Proofs.Ytmnbihpcgkgebaa.Ask

theorem eq_sm (a b c d : Int) (wx : World) : (Op.equalIn 10000 55 (.agg #[.int .i64 a, .int .i64 b]) (.agg #[.int .i64 c, .int .i64 d])).run Try.prog wx = .ok (a == c && b == d) wx := by
  have hu : Try.prog.underlying 55 = some (.struct (Try.prog.fieldsOf 55)) := by simp [Program.fieldsOf, Try.underlying55]
  rw [run_equalIn_struct wx 9999 55 _ _ hu (by kernel_rfl)]
  simp only [Program.fieldsOf, Try.underlying55]
  have p0 := fun x y => part_cell (P := Try.prog) 2 _ Try.underlying2 rfl #[.int .i64 x, .int .i64 y] 0 _ rfl wx
  have p1 := fun x y => part_cell (P := Try.prog) 2 _ Try.underlying2 rfl #[.int .i64 x, .int .i64 y] 1 _ rfl wx
  have q0 := fun x y => run_equalIn_int (P := Try.prog) wx 9998 2 .i64 .i64 x y Try.underlying2
  simp [Op.eqFields, p0, p1, q0]
  by_cases h1 : a = c <;> by_cases h2 : b = d <;> simp [h1, h2]
theorem eq_sm_yes (a b : Int) (wx : World) : (Op.equalIn 10000 55 (.agg #[.int .i64 a, .int .i64 b]) (.agg #[.int .i64 a, .int .i64 b])).run Try.prog wx = .ok true wx := by
  rw [eq_sm]; simp
theorem eq_sm_no {a b c d : Int} (h : ¬ (a, b) = (c, d)) (wx : World) : (Op.equalIn 10000 55 (.agg #[.int .i64 a, .int .i64 b]) (.agg #[.int .i64 c, .int .i64 d])).run Try.prog wx = .ok false wx := by
  rw [eq_sm]
  congr 1
  rw [Bool.eq_false_iff]
  intro hx
  rw [Bool.and_eq_true, beq_iff_eq, beq_iff_eq] at hx
  exact h (by rw [hx.1, hx.2])
theorem bytes_ne {x y : List UInt8} (h : ¬ x = y) : ¬ (⟨x.toArray⟩ : ByteArray) = ⟨y.toArray⟩ := fun e => h (by simpa using e)
theorem str_ne {a b : ByteArray} (h : ¬ a = b) : (a.toList == b.toList) = false := by
  rw [beq_eq_false_iff_ne]
  intro e
  apply h
  rw [ByteArray.toList_eq, ByteArray.toList_eq] at e
  cases a
  cases b
  congr 1
  exact Array.toList_inj.1 e
theorem list_ext {x y : List (Int × Int)} (hl : x.length = y.length) (h : ∀ i, i < x.length → x.getD i (0, 0) = y.getD i (0, 0)) : x = y := by
  refine List.ext_getElem hl (fun i h1 h2 => ?_)
  have := h i h1
  rwa [List.getD_eq_getElem?_getD, List.getD_eq_getElem?_getD, List.getElem?_eq_getElem h1, List.getElem?_eq_getElem h2] at this
theorem sameQ_ne {a b : Rq} (h : ¬ a = b) : sameQ a b = false := by
  rw [Bool.eq_false_iff]
  intro e
  exact h ((sameQ_iff a b).1 e)
set_option maxRecDepth 100000 in
set_option maxHeartbeats 4000000 in
theorem same_any (A B : Option Addr) (C D : Nat) (a b : Rq) (hs : a.s.length ≤ 1000000) (w : World) (hA : PairsIs w (.slice A a.s.length C) a.s) (hB : PairsIs w (.slice B b.s.length D) b.s) :
    Calls Try.prog 14 #[.agg (rv (.slice A a.s.length C) a), .agg (rv (.slice B b.s.length D) b)] w fun e w' => e = .returned (.bool (sameQ a b)) ∧ Fr0 w w' := by
  have HA := Lib.hid hA
  have HB := Lib.hid hB
  obtain ⟨r, hr⟩ : ∃ r, r = sameQ a b := ⟨_, rfl⟩
  rw [← hr]
  have HN : Hid (∀ {α : Type} (f : Rq → α), ¬ f a = f b → r = false) := Lib.hid (fun f h => hr.trans (sameQ_ne (fun e => h (by rw [e]))))
  have HY : Hid (a = b → r = true) := Lib.hid (fun h => hr.trans ((sameQ_iff a b).2 h))
  unfold rv
  have hR0 := rowIs_new w #[.int .i64 a.k, .string ⟨a.n.toArray⟩, .slice A a.s.length C, .int .i64 a.f, .int .i64 a.t, .int .i64 a.wn] 39 6 (ask6 a.k ⟨a.n.toArray⟩ (.slice A a.s.length C) a.f a.t a.wn) rfl (fun i hi => by
    match i, hi with
    | 0, _ => rfl
    | 1, _ => rfl
    | 2, _ => rfl
    | 3, _ => rfl
    | 4, _ => rfl
    | 5, _ => rfl)
  have hR1 := rowIs_new (w.alloc (.cells #[.int .i64 a.k, .string ⟨a.n.toArray⟩, .slice A a.s.length C, .int .i64 a.f, .int .i64 a.t, .int .i64 a.wn] 39)) #[.int .i64 b.k, .string ⟨b.n.toArray⟩, .slice B b.s.length D, .int .i64 b.f, .int .i64 b.t, .int .i64 b.wn] 39 6 (ask6 b.k ⟨b.n.toArray⟩ (.slice B b.s.length D) b.f b.t b.wn) rfl (fun i hi => by
    match i, hi with
    | 0, _ => rfl
    | 1, _ => rfl
    | 2, _ => rfl
    | 3, _ => rfl
    | 4, _ => rfl
    | 5, _ => rfl)
  rw [show (w.alloc (.cells #[.int .i64 a.k, .string ⟨a.n.toArray⟩, .slice A a.s.length C, .int .i64 a.f, .int .i64 a.t, .int .i64 a.wn] 39)).heap.size = w.heap.size + 1 by simp] at hR1
  have hF1 : Fr0 (w.alloc (.cells #[.int .i64 a.k, .string ⟨a.n.toArray⟩, .slice A a.s.length C, .int .i64 a.f, .int .i64 a.t, .int .i64 a.wn] 39)) ((w.alloc (.cells #[.int .i64 a.k, .string ⟨a.n.toArray⟩, .slice A a.s.length C, .int .i64 a.f, .int .i64 a.t, .int .i64 a.wn] 39)).alloc (.cells #[.int .i64 b.k, .string ⟨b.n.toArray⟩, .slice B b.s.length D, .int .i64 b.f, .int .i64 b.t, .int .i64 b.wn] 39)) := (Fr.refl _ _).alloc _
  have HF0 : Hid (Fr0 w ((w.alloc (.cells #[.int .i64 a.k, .string ⟨a.n.toArray⟩, .slice A a.s.length C, .int .i64 a.f, .int .i64 a.t, .int .i64 a.wn] 39)).alloc (.cells #[.int .i64 b.k, .string ⟨b.n.toArray⟩, .slice B b.s.length D, .int .i64 b.f, .int .i64 b.t, .int .i64 b.wn] 39))) := Lib.hid (((Fr.refl _ _).alloc _).alloc _)
  have HR0 := Lib.hid (hF1.row hR0 (fun f => f))
  have HR1 := Lib.hid hR1
  have HNK := Lib.hid (HN.out (fun a => a.k))
  have HNN := Lib.hid (HN.out (fun a => a.n))
  have HNF := Lib.hid (HN.out (fun a => a.f))
  have HNT := Lib.hid (HN.out (fun a => a.t))
  have HNW := Lib.hid (HN.out (fun a => a.wn))
  have HNL := Lib.hid (HN.out (fun a => a.s.length))
  have HNS : Hid (∀ i, ¬ a.s.getD i (0, 0) = b.s.getD i (0, 0) → r = false) := Lib.hid (fun i => HN.out (fun a => a.s.getD i (0, 0)))
  have HYY : Hid (a.k = b.k → a.n = b.n → a.f = b.f → a.t = b.t → a.wn = b.wn → a.s.length = b.s.length → (∀ i, i < a.s.length → a.s.getD i (0, 0) = b.s.getD i (0, 0)) → r = true) := Lib.hid (fun h1 h2 h3 h4 h5 h6 h7 => HY.out (by
    have h8 := list_ext h6 h7
    cases a; cases b
    simp only at h1 h2 h3 h4 h5 h8
    subst h1 h2 h3 h4 h5 h8
    rfl))
  clear hr HN HY hR0 hR1 hF1 hA hB
  (try simp only at HNK HNN HNF HNT HNW HNL)
  generalize a.k = k1 at *
  generalize b.k = k2 at *
  generalize a.f = f1 at *
  generalize b.f = f2 at *
  generalize a.t = t1 at *
  generalize b.t = t2 at *
  generalize a.wn = w1 at *
  generalize b.wn = w2 at *
  generalize a.n = n1 at *
  generalize b.n = n2 at *
  generalize a.s = s1 at *
  generalize b.s = s2 at *
  obtain ⟨L, hL⟩ : ∃ L, L = s1.length := ⟨_, rfl⟩
  obtain ⟨M, hM⟩ : ∃ M, M = s2.length := ⟨_, rfl⟩
  rw [← hL] at HA HNL HYY HR0 HF0 hs ⊢
  rw [← hM] at HB HNL HYY HF0 HR0 ⊢
  rw [← hL, ← hM] at HR1
  have HL := Lib.hid hL
  have HM := Lib.hid hM
  clear hL hM
  by_cases hk : k1 = k2
  ·
    by_cases hn : n1 = n2
    ·
      have HN2 := Lib.hid hn
      clear hn
      by_cases hf : f1 = f2
      ·
        by_cases ht : t1 = t2
        ·
          by_cases hw : w1 = w2
          ·
            by_cases hl : L = M
            ·
              have HYZ := Lib.hid (HYY.out hk HN2.out hf ht hw hl)
              clear HYY
              subst hk hf ht hw hl
              have hsn := HN2.out
              subst hsn
              clear HNK HNN HNF HNT HNW HNL
              obtain ⟨W2, hW2⟩ : ∃ W2, W2 = (w.alloc (.cells #[.int .i64 k1, .string ⟨n1.toArray⟩, .slice A L C, .int .i64 f1, .int .i64 t1, .int .i64 w1] 39)).alloc (.cells #[.int .i64 k1, .string ⟨n1.toArray⟩, .slice B L D, .int .i64 f1, .int .i64 t1, .int .i64 w1] 39) := ⟨_, rfl⟩
              rw [← hW2] at HF0 HR0 HR1
              have HW2 := Lib.hid hW2
              clear hW2
              go_enter Try.func14, Try.ntmps14
              go_wp2_with fail
              rw [← HW2.out]
              clear HW2
              go_loopg [5] L (fun kx vi wr => ∃ i : Nat, vi = .int .i64 (i : Int) ∧ i ≤ L ∧ L - i ≤ kx ∧ Hid (Fr0 W2 wr) ∧ Hid (∀ j, j < i → s1.getD j (0, 0) = s2.getD j (0, 0)))
              case atStart => exact ⟨0, rfl, Nat.zero_le _, by omega, Lib.hid (Fr.refl _ _), Lib.hid (fun j h => absurd h (by omega))⟩
              case round =>
                obtain ⟨i, rfl, hi, hk, HFR, HE⟩ := hrel
                have c0 : wr.cell? ⟨w.heap.size, 2, none⟩ = some (.slice A L C) := (HFR.out.row HR0.out (fun f => f)).cell (i := 2) (by decide)
                have c1 : wr.cell? ⟨w.heap.size + 1, 2, none⟩ = some (.slice B L D) := (HFR.out.row HR1.out (fun f => f)).cell (i := 2) (by decide)
                by_cases hlt : i < L
                · obtain ⟨pb, po, rfl, hpc⟩ := pairs_at HA.out i (by have := HL.out; omega)
                  obtain ⟨qb, qo, rfl, hqc⟩ := pairs_at HB.out i (by have := HM.out; omega)
                  obtain ⟨p0, p1⟩ := hpc wr (HF0.out.trans' HFR.out)
                  obtain ⟨q0, q1⟩ := hqc wr (HF0.out.trans' HFR.out)
                  have i1 : (i : Int) < (L : Int) := by omega
                  have i2 : 0 ≤ (i : Int) := by omega
                  have HNO := Lib.hid (HNS.out i)
                  have HNX : Hid (s1.getD i (0, 0) = s2.getD i (0, 0) → ∀ j, j < i + 1 → s1.getD j (0, 0) = s2.getD j (0, 0)) := Lib.hid (fun h j hj => by
                    rcases Nat.lt_or_eq_of_le (Nat.le_of_lt_succ hj) with h1 | rfl
                    · exact HE.out j h1
                    · exact h)
                  clear hpc hqc
                  generalize s1.getD i (0, 0) = x1 at *
                  generalize s2.getD i (0, 0) = x2 at *
                  obtain ⟨T1, U1⟩ := x1
                  obtain ⟨T2, U2⟩ := x2
                  simp only at p0 p1 q0 q1
                  by_cases hx : (T1, U1) = (T2, U2)
                  · have HNZ := Lib.hid (HNX.out hx)
                    clear HNX HNO
                    simp only [Prod.mk.injEq] at hx
                    obtain ⟨rfl, rfl⟩ := hx
                    have heq := eq_sm_yes T1 U1
                    go_wp2
                    go_quiet (fail)
                    clear p0 p1 q0 q1 c0 c1 heq
                    go_wp2
                    have HFR2 := Lib.hid (HFR.out.drewN nq)
                    generalize wr.drewN nq = w9 at *
                    go_roundg (L - (i + 1))
                    case measure => omega
                    case rel => exact ⟨i + 1, by simp, by omega, by omega, HFR2, HNZ⟩
                  · have HNZ := Lib.hid (HNO.out hx)
                    have heq := eq_sm_no hx
                    clear HNX HNO hx
                    go_wp2
                    go_quiet (fail)
                    clear p0 p1 q0 q1 c0 c1 heq
                    go_wp2
                    have HFR2 := Lib.hid (HFR.out.drewN nq)
                    generalize wr.drewN nq = w9 at *
                    go_ret
                    exact ⟨by rw [HNZ.out]; rfl, HF0.out.trans' HFR2.out⟩
                · obtain rfl : i = L := by omega
                  have HRR := Lib.hid (HYZ.out HE.out)
                  go_wp2
                  go_ret
                  exact ⟨by rw [HRR.out]; rfl, HF0.out.trans' HFR.out⟩
            ·
              have HRR := Lib.hid (HNL.out hl)
              subst hk
              have hsn := HN2.out
              subst hsn
              subst hf
              subst ht
              subst hw
              have hl2 : ¬ (L : Int) = (M : Int) := by omega
              have zhl2 : ((L : Int) == (M : Int)) = false := beq_eq_false_iff_ne.2 hl2
              have yhl2 : ((L : Int) != (M : Int)) = true := bne_iff_ne.2 hl2
              go_enter Try.func14, Try.ntmps14
              go_wp2
              go_ret
              exact ⟨by rw [HRR.out]; rfl, HF0.out⟩
          ·
            have HRR := Lib.hid (HNW.out hw)
            subst hk
            have hsn := HN2.out
            subst hsn
            subst hf
            subst ht
            have zhw : (w1 == w2) = false := beq_eq_false_iff_ne.2 hw
            have yhw : (w1 != w2) = true := bne_iff_ne.2 hw
            go_enter Try.func14, Try.ntmps14
            go_wp2
            go_ret
            exact ⟨by rw [HRR.out]; rfl, HF0.out⟩
        ·
          have HRR := Lib.hid (HNT.out ht)
          subst hk
          have hsn := HN2.out
          subst hsn
          subst hf
          have zht : (t1 == t2) = false := beq_eq_false_iff_ne.2 ht
          have yht : (t1 != t2) = true := bne_iff_ne.2 ht
          go_enter Try.func14, Try.ntmps14
          go_wp2
          go_ret
          exact ⟨by rw [HRR.out]; rfl, HF0.out⟩
      ·
        have HRR := Lib.hid (HNF.out hf)
        subst hk
        have hsn := HN2.out
        subst hsn
        have zhf : (f1 == f2) = false := beq_eq_false_iff_ne.2 hf
        have yhf : (f1 != f2) = true := bne_iff_ne.2 hf
        go_enter Try.func14, Try.ntmps14
        go_wp2
        go_ret
        exact ⟨by rw [HRR.out]; rfl, HF0.out⟩
    ·
      have HRR := Lib.hid (HNN.out hn)
      subst hk
      have hn3 := bytes_ne hn
      have zn := str_ne hn3
      go_enter Try.func14, Try.ntmps14
      go_wp2
      go_ret
      exact ⟨by rw [HRR.out]; rfl, HF0.out⟩
  ·
    have HRR := Lib.hid (HNK.out hk)
    have zhk : (k1 == k2) = false := beq_eq_false_iff_ne.2 hk
    have yhk : (k1 != k2) = true := bne_iff_ne.2 hk
    go_enter Try.func14, Try.ntmps14
    go_wp2
    go_ret
    exact ⟨by rw [HRR.out]; rfl, HF0.out⟩
end Go.Proofs.Ytmnbihpcgkgebaa.CanonL
