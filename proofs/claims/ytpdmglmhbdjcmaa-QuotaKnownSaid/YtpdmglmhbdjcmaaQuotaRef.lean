/-
  The reference's NewQuota, GoodQuota, Slot, Use; the law's own.
-/
import Derived.Test.YtpdmglmhbdjcmaaQuotaSpec
import Derived.Test.YtpdmglmhbdjcmaaTenantRef
import Derived.Deep.DeepCutAuto
namespace Go.Proofs.Ytpdmglmhbdjcmaa.Quota
open Go.RowKit Base _root_.Go.Proofs.Ytpdmglmhbdjcmaa.Tenant

theorem infoR : (Try.prog.info? 33).map (·.size) = some 4 := by kernel_rfl
set_option maxRecDepth 100000 in
set_option maxHeartbeats 4000000 in
theorem rgoodQ_any (q : Qt) (w : World) :
    Calls Try.prog 16 #[.agg (q4 q)] w fun e w' => e = .returned (.bool (goodQ q)) ∧ Fr0 w w' := by
  have hc := (Bx.new 33 w q).cells
  have HF : Hid (Fr0 w (w.alloc (.cells #[.int .i64 q.o, .int .i64 q.e, .int .i64 q.l, .int .i64 q.a] 33))) := Lib.hid ((Fr.refl _ _).alloc _)
  have HG : Hid (goodQ q = (inn q.o 0 1048576 && (inn q.e 1 1048576 && (inn q.l 0 q.o && (inn q.a 0 (q.e - 1)))))) := Lib.hid rfl
  have HBE : Hid (inn q.e 1 1048576 = true → 1 ≤ q.e ∧ q.e ≤ 1048576) := Lib.hid (inn_iff _ _ _).1
  have HI0 := Lib.hid (fun w => rin_any q.o 0 1048576 w)
  have HI1 := Lib.hid (fun w => rin_any q.e 1 1048576 w)
  have HI2 := Lib.hid (fun w => rin_any q.l 0 q.o w)
  have HI3 := Lib.hid (fun w => rin_any q.a 0 (q.e - 1) w)
  generalize inn q.o 0 1048576 = b0 at *
  generalize inn q.e 1 1048576 = b1 at *
  generalize inn q.l 0 q.o = b2 at *
  generalize inn q.a 0 (q.e - 1) = b3 at *
  generalize hW2 : w.alloc (.cells #[.int .i64 q.o, .int .i64 q.e, .int .i64 q.l, .int .i64 q.a] 33) = W2 at *
  obtain ⟨k0, k1, k2, k3⟩ := hc
  generalize goodQ q = gd at *
  unfold q4
  go_enter Try.func16, Try.ntmps16
  go_wp2_with fail
  clear hW2
  refine (HI0.out _).mono ?_
  rintro e wq ⟨rfl, rfl⟩
  cases b0 with
  | false =>
    go_wp2
    go_ret
    exact ⟨by rw [HG.out]; rfl, HF.out⟩
  | true =>
    go_wp2_with fail
    refine (HI1.out _).mono ?_
    rintro e wq ⟨rfl, rfl⟩
    cases b1 with
    | false =>
      go_wp2
      go_ret
      exact ⟨by rw [HG.out]; rfl, HF.out⟩
    | true =>
      obtain ⟨e1, e2⟩ := HBE.out rfl
      go_wp2_with fail
      refine (HI2.out _).mono ?_
      rintro e wq ⟨rfl, rfl⟩
      cases b2 with
      | false =>
        go_wp2
        go_ret
        exact ⟨by rw [HG.out]; rfl, HF.out⟩
      | true =>
        go_wp2_with fail
        refine (HI3.out _).mono ?_
        rintro e wq ⟨rfl, rfl⟩
        cases b3 with
        | false =>
          go_wp2
          go_ret
          exact ⟨by rw [HG.out]; rfl, HF.out⟩
        | true =>
          
          go_wp2
          go_ret
          exact ⟨by rw [HG.out]; rfl, HF.out⟩
set_option maxRecDepth 100000 in
set_option maxHeartbeats 4000000 in
theorem rnewQ_any (of ev : Int) (w : World) :
    Calls Try.prog 12 #[.int .i64 of, .int .i64 ev] w fun e w' => e = .returned (.tuple #[.agg (q4 (newQ of ev)), .int .i64 (newErr of ev)]) ∧ Fr0 w w' := by
  have HI0 := Lib.hid (fun w => rin_any of 0 1048576 w)
  have HI1 := Lib.hid (fun w => rin_any ev 1 1048576 w)
  have HNO : Hid (newOk of ev = false → newQ of ev = zeroQ ∧ newErr of ev = 1) := Lib.hid (fun h => by unfold newQ newErr; rw [h]; exact ⟨rfl, rfl⟩)
  have HYES : Hid (newOk of ev = true → newQ of ev = ⟨of, ev, of, 0⟩ ∧ newErr of ev = 0) := Lib.hid (fun h => by unfold newQ newErr; rw [h]; exact ⟨rfl, rfl⟩)
  have hb : newOk of ev = (inn of 0 1048576 && inn ev 1 1048576) := rfl
  rw [hb] at HNO HYES
  clear hb
  generalize newQ of ev = nq at *
  generalize newErr of ev = ne at *
  generalize inn of 0 1048576 = b0 at *
  generalize inn ev 1 1048576 = b1 at *
  go_enter Try.func12, Try.ntmps12
  go_wp2_with fail
  refine (HI0.out _).mono ?_
  rintro e wq ⟨rfl, rfl⟩
  cases b0 with
  | false =>
    obtain ⟨rfl, rfl⟩ := HNO.out rfl
    go_wp2
    exact bodyPost_ret (res2 rfl Try.underlying33 rfl infoR _ _ rfl rfl (Bx.new 33 w zeroQ)) rfl ⟨rfl, (Fr.refl _ _).alloc _⟩
  | true =>
    go_wp2_with fail
    refine (HI1.out _).mono ?_
    rintro e wq ⟨rfl, rfl⟩
    cases b1 with
    | false =>
      obtain ⟨rfl, rfl⟩ := HNO.out rfl
      go_wp2
      exact bodyPost_ret (res2 rfl Try.underlying33 rfl infoR _ _ rfl rfl (Bx.new 33 w zeroQ)) rfl ⟨rfl, (Fr.refl _ _).alloc _⟩
    | true =>
      obtain ⟨rfl, rfl⟩ := HYES.out rfl
      go_wp2
      exact bodyPost_ret (res2 rfl Try.underlying33 rfl infoR _ _ rfl rfl (Bx.new 33 w ⟨of, ev, of, 0⟩)) rfl ⟨rfl, (Fr.refl _ _).alloc _⟩
/-- the two blocks of a function that takes one and tells one -/
theorem two_blocks (t : TypeId) (w : World) (q : Qt) : Bx t ((w.alloc (.cells #[.int .i64 q.o, .int .i64 q.e, .int .i64 q.l, .int .i64 q.a] t)).alloc (.cells #[.int .i64 0, .int .i64 0, .int .i64 0, .int .i64 0] t)) w.heap.size q ∧ Bx t ((w.alloc (.cells #[.int .i64 q.o, .int .i64 q.e, .int .i64 q.l, .int .i64 q.a] t)).alloc (.cells #[.int .i64 0, .int .i64 0, .int .i64 0, .int .i64 0] t)) (w.heap.size + 1) zeroQ ∧ Fr0 w ((w.alloc (.cells #[.int .i64 q.o, .int .i64 q.e, .int .i64 q.l, .int .i64 q.a] t)).alloc (.cells #[.int .i64 0, .int .i64 0, .int .i64 0, .int .i64 0] t)) := by
  refine ⟨(Bx.new t w q).fr0 ((Fr.refl _ _).alloc _), ?_, ((Fr.refl _ _).alloc _).alloc _⟩
  have h := Bx.new t (w.alloc (.cells #[.int .i64 q.o, .int .i64 q.e, .int .i64 q.l, .int .i64 q.a] t)) zeroQ
  rw [World.size_alloc] at h
  exact h
set_option maxRecDepth 100000 in
set_option maxHeartbeats 4000000 in
theorem rslot_any (q : Qt) (w : World) :
    Calls Try.prog 15 #[.agg (q4 q)] w fun e w' => e = .returned (.agg (q4 (slotQ q))) ∧ Fr0 w w' := by
  have HG := Lib.hid (rgoodQ_any q)
  have HBAD : Hid (goodQ q = false → slotQ q = q) := Lib.hid (fun h => by unfold slotQ; rw [h]; rfl)
  have HLAST : Hid (goodQ q = true → q.a + 1 = q.e → slotQ q = ⟨q.o, q.e, q.o, 0⟩) := Lib.hid (fun h h2 => by unfold slotQ; rw [if_pos h, if_pos h2])
  have HNEXT : Hid (goodQ q = true → q.a + 1 ≠ q.e → slotQ q = ⟨q.o, q.e, q.l, q.a + 1⟩) := Lib.hid (fun h h2 => by unfold slotQ; rw [if_pos h, if_neg h2])
  have HIFF : Hid (goodQ q = true → (1 ≤ q.e ∧ q.e ≤ 1048576) ∧ (0 ≤ q.a ∧ q.a ≤ q.e - 1)) := Lib.hid (fun h => ⟨((good_iff q).1 h).2.1, ((good_iff q).1 h).2.2.2⟩)
  have hfr := two_blocks 33 w q
  generalize slotQ q = sq at *
  generalize goodQ q = gd at *
  unfold q4 at HG
  rw [show q4 q = #[.int .i64 q.o, .int .i64 q.e, .int .i64 q.l, .int .i64 q.a] from rfl]
  obtain ⟨W1, hW1⟩ : ∃ W1, W1 = (w.alloc (.cells #[.int .i64 q.o, .int .i64 q.e, .int .i64 q.l, .int .i64 q.a] 33)).alloc (.cells #[.int .i64 0, .int .i64 0, .int .i64 0, .int .i64 0] 33) := ⟨_, rfl⟩
  have HW1 := Lib.hid hW1
  rw [← hW1] at hfr
  obtain ⟨hb0, hb1, hf1⟩ := hfr
  have HB0 := Lib.hid hb0
  have HB1 := Lib.hid hb1
  have HF1 := Lib.hid hf1
  clear hb0 hb1 hf1 hW1
  go_enter Try.func15, Try.ntmps15
  go_wp2_with fail
  rw [← HW1.out]
  refine (HG.out _).mono ?_
  clear HW1 HG
  rintro e w2 ⟨rfl, hF2⟩
  have HF2 := Lib.hid (HF1.out.trans' hF2)
  have HC0 := Lib.hid (HB0.out.fr0 hF2)
  have HC1 := Lib.hid (HB1.out.fr0 hF2)
  have HWS := Lib.hid HF1.out.size
  clear hF2 HB0 HB1 HF1
  generalize hg : w.heap.size = g at *
  have HGE := Lib.hid hg
  clear hg
  obtain ⟨k0, k1, k2, k3⟩ := HC0.out.cells
  cases gd with
  | false =>
    obtain rfl := HBAD.out rfl
    have HR := Lib.hid (HC1.out.setRow sq)
    have HRF : Hid (Fr0 w (w2.setRow (g + 1) #[.int .i64 sq.o, .int .i64 sq.e, .int .i64 sq.l, .int .i64 sq.a])) := Lib.hid (Fr.setRow HF2.out (fun h => by have := HGE.out; omega) _)
    go_wp2_with ((with_reducible change wpList _ _ _ (⟨_, Op.store 33 _ _, _, _, _, _⟩ :: _) _ _); refine wpList_store_row rfl 33 _ _ rfl (g + 1) #[.int .i64 sq.o, .int .i64 sq.e, .int .i64 sq.l, .int .i64 sq.a] rfl rfl 33 _ HC1.out.heap infoR rfl (q4_one sq) ?_)
    exact bodyPost_ret (res1 rfl Try.underlying33 rfl infoR _ rfl HR.out) rfl ⟨rfl, HRF.out⟩
  | true =>
    obtain ⟨⟨e1, e2⟩, a1, a2⟩ := HIFF.out rfl
    have t3 := HC0.out.thaw 3
    have t2 := HC0.out.thaw 2
    by_cases he : q.a + 1 = q.e
    · have hsq := HLAST.out rfl he
      subst hsq
      have z : (q.a + 1 == q.e) = true := beq_iff_eq.2 he
      clear he
      have HX1 := Lib.hid (HC0.out.set 3 (.int .i64 (q.a + 1)) ⟨q.o, q.e, q.l, q.a + 1⟩ (fun i hi => by
        match i, hi with
        | 0, _ => rfl
        | 1, _ => rfl
        | 2, _ => rfl
        | 3, _ => rfl))
      have HX2 := Lib.hid (HX1.out.set 3 (.int .i64 0) ⟨q.o, q.e, q.l, 0⟩ (fun i hi => by
        match i, hi with
        | 0, _ => rfl
        | 1, _ => rfl
        | 2, _ => rfl
        | 3, _ => rfl))
      have HX3 := Lib.hid (HX2.out.set 2 (.int .i64 q.o) ⟨q.o, q.e, q.o, 0⟩ (fun i hi => by
        match i, hi with
        | 0, _ => rfl
        | 1, _ => rfl
        | 2, _ => rfl
        | 3, _ => rfl))
      have HFX : Hid (Fr0 w (((w2.setCell ⟨g, 3, none⟩ (.int .i64 (q.a + 1))).setCell ⟨g, 3, none⟩ (.int .i64 0)).setCell ⟨g, 2, none⟩ (.int .i64 q.o))) := Lib.hid (Fr.setCell (p := ⟨g, 2, none⟩) (Fr.setCell (p := ⟨g, 3, none⟩) (Fr.setCell (p := ⟨g, 3, none⟩) HF2.out (fun h => by have := HGE.out; have h' : g < w.heap.size := h; omega) _) (fun h => by have := HGE.out; have h' : g < w.heap.size := h; omega) _) (fun h => by have := HGE.out; have h' : g < w.heap.size := h; omega) _)
      have HO3 := Lib.hid (((HC1.out.otherCell (b := g) (by omega) 3 (.int .i64 (q.a + 1))).otherCell (b := g) (by omega) 3 (.int .i64 0)).otherCell (b := g) (by omega) 2 (.int .i64 q.o))
      have HR := Lib.hid (HO3.out.setRow ⟨q.o, q.e, q.o, 0⟩)
      have HRF := Lib.hid (Fr.setRow (g := g + 1) HFX.out (fun h => by have := HGE.out; omega) #[.int .i64 q.o, .int .i64 q.e, .int .i64 q.o, .int .i64 0])
      go_wp2_with ((with_reducible change wpList _ _ _ (⟨_, Op.store 33 _ _, _, _, _, _⟩ :: _) _ _); refine wpList_store_row rfl 33 _ _ rfl (g + 1) #[.int .i64 q.o, .int .i64 q.e, .int .i64 q.o, .int .i64 0] rfl rfl 33 _ HO3.out.heap infoR rfl (q4_one ⟨q.o, q.e, q.o, 0⟩) ?_)
      exact bodyPost_ret (res1 rfl Try.underlying33 rfl infoR _ rfl HR.out) rfl ⟨rfl, HRF.out⟩
    · have hsq := HNEXT.out rfl he
      subst hsq
      have z : (q.a + 1 == q.e) = false := beq_eq_false_iff_ne.2 he
      clear he
      have HX1 := Lib.hid (HC0.out.set 3 (.int .i64 (q.a + 1)) ⟨q.o, q.e, q.l, q.a + 1⟩ (fun i hi => by
        match i, hi with
        | 0, _ => rfl
        | 1, _ => rfl
        | 2, _ => rfl
        | 3, _ => rfl))
      have HFX : Hid (Fr0 w (w2.setCell ⟨g, 3, none⟩ (.int .i64 (q.a + 1)))) := Lib.hid (Fr.setCell (p := ⟨g, 3, none⟩) HF2.out (fun h => by have := HGE.out; have h' : g < w.heap.size := h; omega) _)
      have HO3 := Lib.hid (HC1.out.otherCell (b := g) (by omega) 3 (.int .i64 (q.a + 1)))
      have HR := Lib.hid (HO3.out.setRow ⟨q.o, q.e, q.l, q.a + 1⟩)
      have HRF := Lib.hid (Fr.setRow (g := g + 1) HFX.out (fun h => by have := HGE.out; omega) #[.int .i64 q.o, .int .i64 q.e, .int .i64 q.l, .int .i64 (q.a + 1)])
      go_wp2_with ((with_reducible change wpList _ _ _ (⟨_, Op.store 33 _ _, _, _, _, _⟩ :: _) _ _); refine wpList_store_row rfl 33 _ _ rfl (g + 1) #[.int .i64 q.o, .int .i64 q.e, .int .i64 q.l, .int .i64 (q.a + 1)] rfl rfl 33 _ HO3.out.heap infoR rfl (q4_one ⟨q.o, q.e, q.l, q.a + 1⟩) ?_)
      exact bodyPost_ret (res1 rfl Try.underlying33 rfl infoR _ rfl HR.out) rfl ⟨rfl, HRF.out⟩
set_option maxRecDepth 100000 in
set_option maxHeartbeats 4000000 in
theorem ruse_any (q : Qt) (w : World) :
    Calls Try.prog 13 #[.agg (q4 q)] w fun e w' => e = .returned (.tuple #[.agg (q4 (useQ q)), .bool (useOk q)]) ∧ Fr0 w w' := by
  have HG := Lib.hid (rgoodQ_any q)
  have HBAD : Hid (goodQ q = false → useQ q = q ∧ useOk q = false) := Lib.hid (fun h => by unfold useQ useOk; rw [h]; exact ⟨rfl, rfl⟩)
  have HNONE : Hid (q.l = 0 → useQ q = q ∧ useOk q = false) := Lib.hid (fun h2 => by
    have e : useOk q = false := by unfold useOk; rw [h2]; simp
    unfold useQ
    rw [e]
    exact ⟨rfl, rfl⟩)
  have HSOME : Hid (goodQ q = true → q.l ≠ 0 → useQ q = ⟨q.o, q.e, q.l - 1, q.a⟩ ∧ useOk q = true) := Lib.hid (fun h h2 => by
    have e : useOk q = true := by unfold useOk; rw [h]; simp [h2]
    unfold useQ
    rw [e]
    exact ⟨rfl, rfl⟩)
  have HIFF : Hid (goodQ q = true → (0 ≤ q.o ∧ q.o ≤ 1048576) ∧ (0 ≤ q.l ∧ q.l ≤ q.o)) := Lib.hid (fun h => ⟨((good_iff q).1 h).1, ((good_iff q).1 h).2.2.1⟩)
  have hfr := two_blocks 33 w q
  generalize useQ q = sq at *
  generalize useOk q = so at *
  generalize goodQ q = gd at *
  unfold q4 at HG
  rw [show q4 q = #[.int .i64 q.o, .int .i64 q.e, .int .i64 q.l, .int .i64 q.a] from rfl]
  obtain ⟨W1, hW1⟩ : ∃ W1, W1 = (w.alloc (.cells #[.int .i64 q.o, .int .i64 q.e, .int .i64 q.l, .int .i64 q.a] 33)).alloc (.cells #[.int .i64 0, .int .i64 0, .int .i64 0, .int .i64 0] 33) := ⟨_, rfl⟩
  have HW1 := Lib.hid hW1
  rw [← hW1] at hfr
  obtain ⟨hb0, hb1, hf1⟩ := hfr
  have HB0 := Lib.hid hb0
  have HB1 := Lib.hid hb1
  have HF1 := Lib.hid hf1
  clear hb0 hb1 hf1 hW1
  go_enter Try.func13, Try.ntmps13
  go_wp2_with fail
  rw [← HW1.out]
  refine (HG.out _).mono ?_
  clear HW1 HG
  rintro e w2 ⟨rfl, hF2⟩
  have HF2 := Lib.hid (HF1.out.trans' hF2)
  have HC0 := Lib.hid (HB0.out.fr0 hF2)
  have HC1 := Lib.hid (HB1.out.fr0 hF2)
  clear hF2 HB0 HB1 HF1
  generalize hg : w.heap.size = g at *
  have HGE := Lib.hid hg
  clear hg
  have HR := Lib.hid (HC1.out.setRow q)
  have HRF : Hid (Fr0 w (w2.setRow (g + 1) #[.int .i64 q.o, .int .i64 q.e, .int .i64 q.l, .int .i64 q.a])) := Lib.hid (Fr.setRow HF2.out (fun h => by have := HGE.out; omega) _)
  obtain ⟨k0, k1, k2, k3⟩ := HC0.out.cells
  cases gd with
  | false =>
    obtain ⟨rfl, rfl⟩ := HBAD.out rfl
    go_wp2_with ((with_reducible change wpList _ _ _ (⟨_, Op.store 33 _ _, _, _, _, _⟩ :: _) _ _); refine wpList_store_row rfl 33 _ _ rfl (g + 1) #[.int .i64 sq.o, .int .i64 sq.e, .int .i64 sq.l, .int .i64 sq.a] rfl rfl 33 _ HC1.out.heap infoR rfl (q4_one sq) ?_)
    exact bodyPost_ret (res2 rfl Try.underlying33 rfl infoR _ _ rfl rfl HR.out) rfl ⟨rfl, HRF.out⟩
  | true =>
    obtain ⟨⟨o1, o2⟩, l1, l2⟩ := HIFF.out rfl
    have t2 := HC0.out.thaw 2
    by_cases hl : q.l = 0
    · have z : (q.l == 0) = true := beq_iff_eq.2 hl
      obtain ⟨hs1, hs2⟩ := HNONE.out hl
      subst hs1 hs2
      clear hl
      go_wp2_with ((with_reducible change wpList _ _ _ (⟨_, Op.store 33 _ _, _, _, _, _⟩ :: _) _ _); refine wpList_store_row rfl 33 _ _ rfl (g + 1) #[.int .i64 sq.o, .int .i64 sq.e, .int .i64 sq.l, .int .i64 sq.a] rfl rfl 33 _ HC1.out.heap infoR rfl (q4_one sq) ?_)
      exact bodyPost_ret (res2 rfl Try.underlying33 rfl infoR _ _ rfl rfl HR.out) rfl ⟨rfl, HRF.out⟩
    · have z : (q.l == 0) = false := beq_eq_false_iff_ne.2 hl
      obtain ⟨hs1, hs2⟩ := HSOME.out rfl hl
      subst hs1 hs2
      have HX1 := Lib.hid (HC0.out.set 2 (.int .i64 (q.l - 1)) ⟨q.o, q.e, q.l - 1, q.a⟩ (fun i hi => by
        match i, hi with
        | 0, _ => rfl
        | 1, _ => rfl
        | 2, _ => rfl
        | 3, _ => rfl))
      have HFX : Hid (Fr0 w (w2.setCell ⟨g, 2, none⟩ (.int .i64 (q.l - 1)))) := Lib.hid (Fr.setCell (p := ⟨g, 2, none⟩) HF2.out (fun h => by have := HGE.out; have h' : g < w.heap.size := h; omega) _)
      have HO3 := Lib.hid (HC1.out.otherCell (b := g) (by omega) 2 (.int .i64 (q.l - 1)))
      clear HR HRF
      have HR := Lib.hid (HO3.out.setRow ⟨q.o, q.e, q.l - 1, q.a⟩)
      have HRF := Lib.hid (Fr.setRow (g := g + 1) HFX.out (fun h => by have := HGE.out; omega) #[.int .i64 q.o, .int .i64 q.e, .int .i64 (q.l - 1), .int .i64 q.a])
      go_wp2_with ((with_reducible change wpList _ _ _ (⟨_, Op.store 33 _ _, _, _, _, _⟩ :: _) _ _); refine wpList_store_row rfl 33 _ _ rfl (g + 1) #[.int .i64 q.o, .int .i64 q.e, .int .i64 (q.l - 1), .int .i64 q.a] rfl rfl 33 _ HO3.out.heap infoR rfl (q4_one ⟨q.o, q.e, q.l - 1, q.a⟩) ?_)
      exact bodyPost_ret (res2 rfl Try.underlying33 rfl infoR _ _ rfl rfl HR.out) rfl ⟨rfl, HRF.out⟩
end Go.Proofs.Ytpdmglmhbdjcmaa.Quota
