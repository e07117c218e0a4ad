/-
  The program's within, Good, New, Use, Slots, Slot.
-/
import Derived.Test.YtpdmglmhbdjcmaaQuotaRef
import Derived.StillTailTactics
namespace Go.Proofs.Ytpdmglmhbdjcmaa.Quota
open Go.RowKit Base _root_.Go.Proofs.Ytpdmglmhbdjcmaa.Tenant

theorem slots_good {q : Qt} (h : goodQ q = true) : ∀ n, goodQ (slotsQ q n) = true
  | 0 => h
  | n + 1 => slot_good (slots_good h n)
theorem slots_bad {q : Qt} (h : goodQ q = false) : ∀ n, slotsQ q n = q
  | 0 => rfl
  | n + 1 => by
    show slotQ (slotsQ q n) = q
    rw [slots_bad h n]
    unfold slotQ
    rw [h]
    rfl
theorem slots_eq {q : Qt} (h : goodQ q = true) (n : Nat) : slotsQ q n = ⟨q.o, q.e, if q.e ≤ q.a + n then q.o else q.l, (q.a + n) % q.e⟩ := by
  obtain ⟨⟨-, -⟩, ⟨e1, e2⟩, -, a1, a2⟩ := (good_iff q).1 h
  induction n with
  | zero =>
    have e0 : (q.a + ((0 : Nat) : Int)) % q.e = q.a := by
      rw [show q.a + ((0 : Nat) : Int) = q.a by omega]
      exact Int.emod_eq_of_lt a1 (by omega)
    rw [e0, if_neg (by omega)]
    rfl
  | succ n ih =>
    show slotQ (slotsQ q n) = _
    have hg := slots_good h n
    unfold slotQ
    rw [if_pos hg, ih]
    have r1 := Int.emod_nonneg (q.a + (n : Int)) (show q.e ≠ 0 by omega)
    have r2 := Int.emod_lt_of_pos (q.a + (n : Int)) (show 0 < q.e by omega)
    have r3 := Int.emod_add_mul_ediv (q.a + (n : Int)) q.e
    have r4 : (q.a + ((n + 1 : Nat) : Int)) % q.e = ((q.a + (n : Int)) % q.e + 1) % q.e := by
      rw [show q.a + ((n + 1 : Nat) : Int) = ((q.a + (n : Int)) % q.e + 1) + q.e * ((q.a + (n : Int)) / q.e) by omega, Int.add_mul_emod_self_left]
    have r5 : q.a + (n : Int) < q.e → (q.a + (n : Int)) % q.e = q.a + (n : Int) := fun hl => Int.emod_eq_of_lt (by omega) hl
    have r6 : (q.a + (n : Int)) % q.e ≤ q.a + (n : Int) := by
      have := Int.mul_nonneg (show 0 ≤ q.e by omega) (Int.ediv_nonneg (show 0 ≤ q.a + (n : Int) by omega) (show 0 ≤ q.e by omega))
      omega
    rw [r4]
    generalize (q.a + (n : Int)) % q.e = r at *
    show (if r + 1 = q.e then (⟨q.o, q.e, q.o, 0⟩ : Qt) else ⟨q.o, q.e, if q.e ≤ q.a + (n : Int) then q.o else q.l, r + 1⟩) = _
    by_cases hr : r + 1 = q.e
    · rw [if_pos hr, if_pos (by omega), hr, Int.emod_self]
    · rw [if_neg hr, Int.emod_eq_of_lt (by omega) (show r + 1 < q.e by omega)]
      by_cases hl : q.e ≤ q.a + (n : Int)
      · rw [if_pos hl, if_pos (by omega)]
      · rw [if_neg hl, if_neg (by have := r5 (by omega); omega)]
/-- .. as the program reckons it -/
theorem slots_go {q : Qt} (h : goodQ q = true) (n : Int) (hn : 0 ≤ n) (M : Int) (hM : n % q.e = M) (M2 : Int) (hM2 : (q.a + M) % q.e = M2) : slotsQ q n.toNat = ⟨q.o, q.e, if q.e - q.a ≤ n then q.o else q.l, M2⟩ := by
  rw [slots_eq h, ← hM2, ← hM, Int.add_emod_emod, Int.toNat_of_nonneg hn]
  by_cases hl : q.e - q.a ≤ n
  · rw [if_pos hl, if_pos (by omega)]
  · rw [if_neg hl, if_neg (by omega)]
theorem new_is (of ev : Int) : goodQ ⟨of, ev, of, 0⟩ = newOk of ev := by
  refine Bool.eq_iff_iff.2 ?_
  rw [good_iff]
  unfold newOk
  simp only [Bool.and_eq_true, inn_iff]
  omega
theorem infoP : (Try.prog.info? 24).map (·.size) = some 4 := by kernel_rfl
set_option maxHeartbeats 1000000 in
theorem pwithin_any (v lo hi : Int) (w : World) :
    Calls Try.prog 17 #[.int .i64 v, .int .i64 lo, .int .i64 hi] w fun e w' => e = .returned (.bool (inn v lo hi)) ∧ w = w' := by
  by_cases h1 : lo ≤ v
  · by_cases h2 : v ≤ hi
    · have HD : Hid (inn v lo hi = true) := Lib.hid (decide_eq_true ⟨h1, h2⟩)
      go_enter Try.func17, Try.ntmps17
      go_wp2
      go_ret
      exact ⟨by rw [HD.out]; rfl, rfl⟩
    · have HD : Hid (inn v lo hi = false) := Lib.hid (decide_eq_false (fun h => h2 h.2))
      go_enter Try.func17, Try.ntmps17
      go_wp2
      go_ret
      exact ⟨by rw [HD.out]; rfl, rfl⟩
  · have HD : Hid (inn v lo hi = false) := Lib.hid (decide_eq_false (fun h => h1 h.1))
    go_enter Try.func17, Try.ntmps17
    go_wp2
    go_ret
    exact ⟨by rw [HD.out]; rfl, rfl⟩
set_option maxRecDepth 100000 in
set_option maxHeartbeats 4000000 in
theorem pgood_any (q : Qt) (hq : SizedQ q) (w : World) :
    Calls Try.prog 11 #[.agg (q4 q)] w fun e w' => e = .returned (.bool (goodQ q)) ∧ Fr0 w w' := by
  have hc := (Bx.new 24 w q).cells
  have HF : Hid (Fr0 w (w.alloc (.cells #[.int .i64 q.o, .int .i64 q.e, .int .i64 q.l, .int .i64 q.a] 24))) := Lib.hid ((Fr.refl _ _).alloc _)
  have HG : Hid (goodQ q = (inn q.o 0 1048576 && (inn q.e 1 1048576 && (inn q.l 0 q.o && (inn q.a 0 (q.e - 1)))))) := Lib.hid rfl
  have HBE : Hid (inn q.e 1 1048576 = true → 1 ≤ q.e ∧ q.e ≤ 1048576) := Lib.hid (inn_iff _ _ _).1
  have HI0 := Lib.hid (fun w => pwithin_any q.o 0 1048576 w)
  have HI1 := Lib.hid (fun w => pwithin_any q.e 1 1048576 w)
  have HI2 := Lib.hid (fun w => pwithin_any q.l 0 q.o w)
  have HI3 := Lib.hid (fun w => pwithin_any q.a 0 (q.e - 1) w)
  generalize inn q.o 0 1048576 = b0 at *
  generalize inn q.e 1 1048576 = b1 at *
  generalize inn q.l 0 q.o = b2 at *
  generalize inn q.a 0 (q.e - 1) = b3 at *
  generalize hW2 : w.alloc (.cells #[.int .i64 q.o, .int .i64 q.e, .int .i64 q.l, .int .i64 q.a] 24) = W2 at *
  obtain ⟨k0, k1, k2, k3⟩ := hc
  generalize goodQ q = gd at *
  unfold q4
  go_enter Try.func11, Try.ntmps11
  go_wp2_with fail
  clear hW2
  refine (HI0.out _).mono ?_
  rintro e wq ⟨rfl, rfl⟩
  cases b0 with
  | false =>
    go_wp2
    go_ret
    exact ⟨by rw [HG.out]; rfl, HF.out⟩
  | true =>
    go_wp2_with fail
    refine (HI1.out _).mono ?_
    rintro e wq ⟨rfl, rfl⟩
    cases b1 with
    | false =>
      go_wp2
      go_ret
      exact ⟨by rw [HG.out]; rfl, HF.out⟩
    | true =>
      obtain ⟨e1, e2⟩ := HBE.out rfl
      go_wp2_with fail
      refine (HI2.out _).mono ?_
      rintro e wq ⟨rfl, rfl⟩
      cases b2 with
      | false =>
        go_wp2
        go_ret
        exact ⟨by rw [HG.out]; rfl, HF.out⟩
      | true =>
        go_wp2_with fail
        refine (HI3.out _).mono ?_
        rintro e wq ⟨rfl, rfl⟩
        cases b3 with
        | false =>
          go_wp2
          go_ret
          exact ⟨by rw [HG.out]; rfl, HF.out⟩
        | true =>
          
          go_wp2
          go_ret
          exact ⟨by rw [HG.out]; rfl, HF.out⟩
set_option maxRecDepth 100000 in
set_option maxHeartbeats 4000000 in
theorem pnew_any (of ev : Int) (ho : Fit of) (he : Fit ev) (w : World) :
    Calls Try.prog 7 #[.int .i64 of, .int .i64 ev] w fun e w' => e = .returned (.tuple #[.agg (q4 (newQ of ev)), .int .i64 (newErr of ev)]) ∧ Fr0 w w' := by
  have HG := Lib.hid (pgood_any ⟨of, ev, of, 0⟩ ⟨ho, he, ho, show Fit 0 by unfold Fit; decide⟩)
  rw [new_is] at HG
  have HNO : Hid (newOk of ev = false → newQ of ev = zeroQ ∧ newErr of ev = 1) := Lib.hid (fun h => by unfold newQ newErr; rw [h]; exact ⟨rfl, rfl⟩)
  have HYES : Hid (newOk of ev = true → newQ of ev = ⟨of, ev, of, 0⟩ ∧ newErr of ev = 0) := Lib.hid (fun h => by unfold newQ newErr; rw [h]; exact ⟨rfl, rfl⟩)
  generalize newQ of ev = nq at *
  generalize newErr of ev = ne at *
  generalize newOk of ev = b at *
  have hb0 := (Bx.new 24 w zeroQ).fr0 ((Fr.refl _ _).alloc (.cells #[.int .i64 of, .int .i64 ev, .int .i64 of, .int .i64 0] 24))
  have hb1 := Bx.new 24 (w.alloc (.cells #[.int .i64 0, .int .i64 0, .int .i64 0, .int .i64 0] 24)) ⟨of, ev, of, 0⟩
  rw [World.size_alloc] at hb1
  have hf1 := ((Fr.refl (fun _ => False) w).alloc (.cells #[.int .i64 0, .int .i64 0, .int .i64 0, .int .i64 0] 24)).alloc (.cells #[.int .i64 of, .int .i64 ev, .int .i64 of, .int .i64 0] 24)
  unfold q4 at HG
  obtain ⟨W1, hW1⟩ : ∃ W1, W1 = (w.alloc (.cells #[.int .i64 0, .int .i64 0, .int .i64 0, .int .i64 0] 24)).alloc (.cells #[.int .i64 of, .int .i64 ev, .int .i64 of, .int .i64 0] 24) := ⟨_, rfl⟩
  have HW1 := Lib.hid hW1
  change Bx 24 ((w.alloc (.cells #[.int .i64 0, .int .i64 0, .int .i64 0, .int .i64 0] 24)).alloc (.cells #[.int .i64 of, .int .i64 ev, .int .i64 of, .int .i64 0] 24)) w.heap.size zeroQ at hb0
  rw [← hW1] at hb0 hb1 hf1
  have HB0 := Lib.hid hb0
  have HB1 := Lib.hid hb1
  have HF1 := Lib.hid hf1
  clear hb0 hb1 hf1 hW1
  go_enter Try.func7, Try.ntmps7
  go_wp2_with fail
  rw [← HW1.out]
  refine (HG.out _).mono ?_
  clear HW1 HG
  rintro e w2 ⟨rfl, hF2⟩
  have HF2 := Lib.hid (HF1.out.trans' hF2)
  have HC0 := Lib.hid (HB0.out.fr0 hF2)
  have HC1 := Lib.hid (HB1.out.fr0 hF2)
  clear hF2 HB0 HB1 HF1
  generalize hg : w.heap.size = g at *
  have HGE := Lib.hid hg
  clear hg
  obtain ⟨k0, k1, k2, k3⟩ := HC1.out.cells
  cases b with
  | false =>
    obtain ⟨rfl, rfl⟩ := HNO.out rfl
    have HR := Lib.hid (HC0.out.setRow zeroQ)
    have HRF : Hid (Fr0 w (w2.setRow g #[.int .i64 0, .int .i64 0, .int .i64 0, .int .i64 0])) := Lib.hid (Fr.setRow HF2.out (fun h => by have := HGE.out; have h' : g < w.heap.size := h; omega) _)
    go_wp2_with ((with_reducible change wpList _ _ _ (⟨_, Op.store 24 _ _, _, _, _, _⟩ :: _) _ _); refine wpList_store_row rfl 24 _ _ rfl g #[.int .i64 0, .int .i64 0, .int .i64 0, .int .i64 0] rfl rfl 24 _ HC0.out.heap infoP rfl (q4_one ⟨0, 0, 0, 0⟩) ?_)
    exact bodyPost_ret (res2 rfl Try.underlying24 rfl infoP _ _ rfl rfl HR.out) rfl ⟨rfl, HRF.out⟩
  | true =>
    obtain ⟨rfl, rfl⟩ := HYES.out rfl
    have HR := Lib.hid (HC0.out.setRow ⟨of, ev, of, 0⟩)
    have HRF : Hid (Fr0 w (w2.setRow g #[.int .i64 of, .int .i64 ev, .int .i64 of, .int .i64 0])) := Lib.hid (Fr.setRow HF2.out (fun h => by have := HGE.out; have h' : g < w.heap.size := h; omega) _)
    go_wp2_with ((with_reducible change wpList _ _ _ (⟨_, Op.store 24 _ _, _, _, _, _⟩ :: _) _ _); refine wpList_store_row rfl 24 _ _ rfl g #[.int .i64 of, .int .i64 ev, .int .i64 of, .int .i64 0] rfl rfl 24 _ HC0.out.heap infoP rfl (q4_one ⟨of, ev, of, 0⟩) ?_)
    exact bodyPost_ret (res2 rfl Try.underlying24 rfl infoP _ _ rfl rfl HR.out) rfl ⟨rfl, HRF.out⟩
set_option maxRecDepth 100000 in
set_option maxHeartbeats 4000000 in
theorem puse_any (q : Qt) (hq : SizedQ q) (w : World) :
    Calls Try.prog 8 #[.agg (q4 q)] w fun e w' => e = .returned (.tuple #[.agg (q4 (useQ q)), .bool (useOk q)]) ∧ Fr0 w w' := by
  have HG := Lib.hid (pgood_any q hq)
  have HBAD : Hid (goodQ q = false → useQ q = q ∧ useOk q = false) := Lib.hid (fun h => by unfold useQ useOk; rw [h]; exact ⟨rfl, rfl⟩)
  have HNONE : Hid (q.l = 0 → useQ q = q ∧ useOk q = false) := Lib.hid (fun h2 => by
    have e : useOk q = false := by unfold useOk; rw [h2]; simp
    unfold useQ
    rw [e]
    exact ⟨rfl, rfl⟩)
  have HSOME : Hid (goodQ q = true → q.l ≠ 0 → useQ q = ⟨q.o, q.e, q.l - 1, q.a⟩ ∧ useOk q = true) := Lib.hid (fun h h2 => by
    have e : useOk q = true := by unfold useOk; rw [h]; simp [h2]
    unfold useQ
    rw [e]
    exact ⟨rfl, rfl⟩)
  have HIFF : Hid (goodQ q = true → (0 ≤ q.o ∧ q.o ≤ 1048576) ∧ (0 ≤ q.l ∧ q.l ≤ q.o)) := Lib.hid (fun h => ⟨((good_iff q).1 h).1, ((good_iff q).1 h).2.2.1⟩)
  clear hq
  have hfr := two_blocks 24 w q
  generalize useQ q = sq at *
  generalize useOk q = so at *
  generalize goodQ q = gd at *
  unfold q4 at HG
  rw [show q4 q = #[.int .i64 q.o, .int .i64 q.e, .int .i64 q.l, .int .i64 q.a] from rfl]
  obtain ⟨W1, hW1⟩ : ∃ W1, W1 = (w.alloc (.cells #[.int .i64 q.o, .int .i64 q.e, .int .i64 q.l, .int .i64 q.a] 24)).alloc (.cells #[.int .i64 0, .int .i64 0, .int .i64 0, .int .i64 0] 24) := ⟨_, rfl⟩
  have HW1 := Lib.hid hW1
  rw [← hW1] at hfr
  obtain ⟨hb0, hb1, hf1⟩ := hfr
  have HB0 := Lib.hid hb0
  have HB1 := Lib.hid hb1
  have HF1 := Lib.hid hf1
  clear hb0 hb1 hf1 hW1
  go_enter Try.func8, Try.ntmps8
  go_wp2_with fail
  rw [← HW1.out]
  refine (HG.out _).mono ?_
  clear HW1 HG
  rintro e w2 ⟨rfl, hF2⟩
  have HF2 := Lib.hid (HF1.out.trans' hF2)
  have HC0 := Lib.hid (HB0.out.fr0 hF2)
  have HC1 := Lib.hid (HB1.out.fr0 hF2)
  clear hF2 HB0 HB1 HF1
  generalize hg : w.heap.size = g at *
  have HGE := Lib.hid hg
  clear hg
  obtain ⟨k0, k1, k2, k3⟩ := HC0.out.cells
  have HR := Lib.hid (HC1.out.setRow q)
  have HRF : Hid (Fr0 w (w2.setRow (g + 1) #[.int .i64 q.o, .int .i64 q.e, .int .i64 q.l, .int .i64 q.a])) := Lib.hid (Fr.setRow HF2.out (fun h => by have := HGE.out; omega) _)
  cases gd with
  | false =>
    obtain ⟨rfl, rfl⟩ := HBAD.out rfl
    go_wp2_with ((with_reducible change wpList _ _ _ (⟨_, Op.store 24 _ _, _, _, _, _⟩ :: _) _ _); refine wpList_store_row rfl 24 _ _ rfl (g + 1) #[.int .i64 sq.o, .int .i64 sq.e, .int .i64 sq.l, .int .i64 sq.a] rfl rfl 24 _ HC1.out.heap infoP rfl (q4_one ⟨sq.o, sq.e, sq.l, sq.a⟩) ?_)
    exact bodyPost_ret (res2 rfl Try.underlying24 rfl infoP _ _ rfl rfl HR.out) rfl ⟨rfl, HRF.out⟩
  | true =>
    obtain ⟨⟨o1, o2⟩, l1, l2⟩ := HIFF.out rfl
    have t2 := HC0.out.thaw 2
    by_cases hl : q.l = 0
    · have z : (q.l == 0) = true := beq_iff_eq.2 hl
      obtain ⟨hs1, hs2⟩ := HNONE.out hl
      subst hs1 hs2
      clear hl
      go_wp2_with ((with_reducible change wpList _ _ _ (⟨_, Op.store 24 _ _, _, _, _, _⟩ :: _) _ _); refine wpList_store_row rfl 24 _ _ rfl (g + 1) #[.int .i64 sq.o, .int .i64 sq.e, .int .i64 sq.l, .int .i64 sq.a] rfl rfl 24 _ HC1.out.heap infoP rfl (q4_one ⟨sq.o, sq.e, sq.l, sq.a⟩) ?_)
      exact bodyPost_ret (res2 rfl Try.underlying24 rfl infoP _ _ rfl rfl HR.out) rfl ⟨rfl, HRF.out⟩
    · have z : (q.l == 0) = false := beq_eq_false_iff_ne.2 hl
      obtain ⟨hs1, hs2⟩ := HSOME.out rfl hl
      subst hs1 hs2
      have HX1 := Lib.hid (HC0.out.set 2 (.int .i64 (q.l - 1)) ⟨q.o, q.e, q.l - 1, q.a⟩ (fun i hi => by
        match i, hi with
        | 0, _ => rfl
        | 1, _ => rfl
        | 2, _ => rfl
        | 3, _ => rfl))
      have HFX : Hid (Fr0 w (w2.setCell ⟨g, 2, none⟩ (.int .i64 (q.l - 1)))) := Lib.hid (Fr.setCell (p := ⟨g, 2, none⟩) HF2.out (fun h => by have := HGE.out; have h' : g < w.heap.size := h; omega) _)
      have HO3 := Lib.hid (HC1.out.otherCell (b := g) (by omega) 2 (.int .i64 (q.l - 1)))
      clear HR HRF
      have HR := Lib.hid (HO3.out.setRow ⟨q.o, q.e, q.l - 1, q.a⟩)
      have HRF := Lib.hid (Fr.setRow (g := g + 1) HFX.out (fun h => by have := HGE.out; omega) #[.int .i64 q.o, .int .i64 q.e, .int .i64 (q.l - 1), .int .i64 q.a])
      go_wp2_with ((with_reducible change wpList _ _ _ (⟨_, Op.store 24 _ _, _, _, _, _⟩ :: _) _ _); refine wpList_store_row rfl 24 _ _ rfl (g + 1) #[.int .i64 q.o, .int .i64 q.e, .int .i64 (q.l - 1), .int .i64 q.a] rfl rfl 24 _ HO3.out.heap infoP rfl (q4_one ⟨q.o, q.e, (q.l - 1), q.a⟩) ?_)
      exact bodyPost_ret (res2 rfl Try.underlying24 rfl infoP _ _ rfl rfl HR.out) rfl ⟨rfl, HRF.out⟩
set_option maxRecDepth 100000 in
set_option maxHeartbeats 4000000 in
theorem pslots_any (q : Qt) (n : Int) (hq : SizedQ q) (hn : Fit n) (w : World) :
    Calls Try.prog 10 #[.agg (q4 q), .int .i64 n] w fun e w' => e = .returned (.agg (q4 (slotsQ q n.toNat))) ∧ Fr0 w w' := by
  have HG := Lib.hid (pgood_any q hq)
  have HBAD : Hid (goodQ q = false → slotsQ q n.toNat = q) := Lib.hid (fun h => slots_bad h _)
  have HNEG : Hid (n < 0 → slotsQ q n.toNat = q) := Lib.hid (fun h => by rw [Int.toNat_of_nonpos (by omega)]; rfl)
  have HGO : Hid (goodQ q = true → 0 ≤ n → ∀ M, n % q.e = M → ∀ M2, (q.a + M) % q.e = M2 → slotsQ q n.toNat = ⟨q.o, q.e, if q.e - q.a ≤ n then q.o else q.l, M2⟩) := Lib.hid (fun h h2 M hM M2 hM2 => slots_go h n h2 M hM M2 hM2)
  have HIFF : Hid (goodQ q = true → (1 ≤ q.e ∧ q.e ≤ 1048576) ∧ (0 ≤ q.a ∧ q.a ≤ q.e - 1)) := Lib.hid (fun h => ⟨((good_iff q).1 h).2.1, ((good_iff q).1 h).2.2.2⟩)
  obtain ⟨hn1, hn2⟩ := hn
  clear hq
  have hfr := two_blocks 24 w q
  generalize slotsQ q n.toNat = sq at *
  generalize goodQ q = gd at *
  unfold q4 at HG
  rw [show q4 q = #[.int .i64 q.o, .int .i64 q.e, .int .i64 q.l, .int .i64 q.a] from rfl]
  obtain ⟨W1, hW1⟩ : ∃ W1, W1 = (w.alloc (.cells #[.int .i64 q.o, .int .i64 q.e, .int .i64 q.l, .int .i64 q.a] 24)).alloc (.cells #[.int .i64 0, .int .i64 0, .int .i64 0, .int .i64 0] 24) := ⟨_, rfl⟩
  have HW1 := Lib.hid hW1
  rw [← hW1] at hfr
  obtain ⟨hb0, hb1, hf1⟩ := hfr
  have HB0 := Lib.hid hb0
  have HB1 := Lib.hid hb1
  have HF1 := Lib.hid hf1
  clear hb0 hb1 hf1 hW1
  go_enter Try.func10, Try.ntmps10
  go_wp2_with fail
  rw [← HW1.out]
  refine (HG.out _).mono ?_
  clear HW1 HG
  rintro e w2 ⟨rfl, hF2⟩
  have HF2 := Lib.hid (HF1.out.trans' hF2)
  have HC0 := Lib.hid (HB0.out.fr0 hF2)
  have HC1 := Lib.hid (HB1.out.fr0 hF2)
  clear hF2 HB0 HB1 HF1
  generalize hg : w.heap.size = g at *
  have HGE := Lib.hid hg
  clear hg
  obtain ⟨k0, k1, k2, k3⟩ := HC0.out.cells
  have HR := Lib.hid (HC1.out.setRow q)
  have HRF : Hid (Fr0 w (w2.setRow (g + 1) #[.int .i64 q.o, .int .i64 q.e, .int .i64 q.l, .int .i64 q.a])) := Lib.hid (Fr.setRow HF2.out (fun h => by have := HGE.out; omega) _)
  cases gd with
  | false =>
    obtain rfl := HBAD.out rfl
    go_wp2_with ((with_reducible change wpList _ _ _ (⟨_, Op.store 24 _ _, _, _, _, _⟩ :: _) _ _); refine wpList_store_row rfl 24 _ _ rfl (g + 1) #[.int .i64 sq.o, .int .i64 sq.e, .int .i64 sq.l, .int .i64 sq.a] rfl rfl 24 _ HC1.out.heap infoP rfl (q4_one ⟨sq.o, sq.e, sq.l, sq.a⟩) ?_)
    exact bodyPost_ret (res1 rfl Try.underlying24 rfl infoP _ rfl HR.out) rfl ⟨rfl, HRF.out⟩
  | true =>
    obtain ⟨⟨e1, e2⟩, a1, a2⟩ := HIFF.out rfl
    have t2 := HC0.out.thaw 2
    have t3 := HC0.out.thaw 3
    by_cases hl : n < 0
    · have z : decide (n < 0) = true := decide_eq_true hl
      obtain rfl := HNEG.out hl
      go_wp2_with ((with_reducible change wpList _ _ _ (⟨_, Op.store 24 _ _, _, _, _, _⟩ :: _) _ _); refine wpList_store_row rfl 24 _ _ rfl (g + 1) #[.int .i64 sq.o, .int .i64 sq.e, .int .i64 sq.l, .int .i64 sq.a] rfl rfl 24 _ HC1.out.heap infoP rfl (q4_one ⟨sq.o, sq.e, sq.l, sq.a⟩) ?_)
      exact bodyPost_ret (res1 rfl Try.underlying24 rfl infoP _ rfl HR.out) rfl ⟨rfl, HRF.out⟩
    · have z : decide (n < 0) = false := decide_eq_false hl
      have n0 : 0 ≤ n := by omega
      clear hl HR HRF
      have HGO := Lib.hid (HGO.out rfl n0)
      have e00 : q.e ≠ 0 := by omega
      have e01 : (q.e == 0) = false := beq_eq_false_iff_ne.2 e00
      have m1 := Int.emod_nonneg n (show q.e ≠ 0 by omega)
      have m2 := Int.emod_lt_of_pos n (show 0 < q.e by omega)
      obtain ⟨M, hM⟩ : ∃ M, n % q.e = M := ⟨_, rfl⟩
      have HT1 : n.tmod q.e = M := by rw [Int.tmod_eq_emod_of_nonneg n0]; exact hM
      have HGO := Lib.hid (HGO.out M hM)
      rw [hM] at m1 m2
      have m3 := Int.emod_nonneg (q.a + M) (show q.e ≠ 0 by omega)
      have m4 := Int.emod_lt_of_pos (q.a + M) (show 0 < q.e by omega)
      obtain ⟨M2, hM2⟩ : ∃ M2, (q.a + M) % q.e = M2 := ⟨_, rfl⟩
      have HT2 : (q.a + M).tmod q.e = M2 := by rw [Int.tmod_eq_emod_of_nonneg (by omega)]; exact hM2
      have hs := HGO.out M2 hM2
      rw [hM2] at m3 m4
      by_cases hc : q.e - q.a ≤ n
      · rw [if_pos hc] at hs
        have z2 : decide (q.e - q.a ≤ n) = true := decide_eq_true hc
        subst hs
        have HX0 := Lib.hid (HC0.out.set 2 (.int .i64 q.o) ⟨q.o, q.e, q.o, q.a⟩ (fun i hi => by
                match i, hi with
                | 0, _ => rfl
                | 1, _ => rfl
                | 2, _ => rfl
                | 3, _ => rfl))
        have HO0 := Lib.hid (HC1.out.otherCell (b := g) (by omega) 2 (.int .i64 q.o))
        have HFX0 : Hid (Fr0 w (w2.setCell ⟨g, 2, none⟩ (.int .i64 q.o))) := Lib.hid (Fr.setCell (p := ⟨g, 2, none⟩) HF2.out (fun h => by have := HGE.out; have h' : g < w.heap.size := h; omega) _)
        have HX1 := Lib.hid ((HX0.out.fr0 (Fr.refl _ _).drew).set 3 (.int .i64 M2) ⟨q.o, q.e, q.o, M2⟩ (fun i hi => by
                match i, hi with
                | 0, _ => rfl
                | 1, _ => rfl
                | 2, _ => rfl
                | 3, _ => rfl))
        have HO1 := Lib.hid ((HO0.out.fr0 (Fr.refl _ _).drew).otherCell (b := g) (by omega) 3 (.int .i64 M2))
        have HFX1 := Lib.hid (Fr.setCell (p := ⟨g, 3, none⟩) HFX0.out.drew (fun h => by have := HGE.out; have h' : g < w.heap.size := h; omega) (.int .i64 M2))
        have HR := Lib.hid (HO1.out.setRow ⟨q.o, q.e, q.o, M2⟩)
        have HRF := Lib.hid (Fr.setRow (g := g + 1) HFX1.out (fun h => by have := HGE.out; omega) #[.int .i64 q.o, .int .i64 q.e, .int .i64 q.o, .int .i64 M2])
        go_wp2
        generalize hw3 : w2.setCell ⟨g, 2, none⟩ (.int .i64 q.o) = w3 at *
        clear hw3
        obtain ⟨j0, j1, j2, j3⟩ := HX0.out.cells
        have t4 := HX0.out.thaw 3
        go_still_tail 11, (by kernel_rfl)
        go_wp2_with ((with_reducible change wpList _ _ _ (⟨_, Op.store 24 _ _, _, _, _, _⟩ :: _) _ _); refine wpList_store_row rfl 24 _ _ rfl (g + 1) #[.int .i64 q.o, .int .i64 q.e, .int .i64 q.o, .int .i64 M2] rfl rfl 24 _ HO1.out.heap infoP rfl (q4_one ⟨q.o, q.e, q.o, M2⟩) ?_)
        exact bodyPost_ret (res1 rfl Try.underlying24 rfl infoP _ rfl HR.out) rfl ⟨rfl, HRF.out⟩
      · rw [if_neg hc] at hs
        have z2 : decide (q.e - q.a ≤ n) = false := decide_eq_false hc
        subst hs
        have HX0 := HC0
        have HO0 := HC1
        have HFX0 := HF2
        have HX1 := Lib.hid ((HX0.out.fr0 (Fr.refl _ _).drew).set 3 (.int .i64 M2) ⟨q.o, q.e, q.l, M2⟩ (fun i hi => by
                match i, hi with
                | 0, _ => rfl
                | 1, _ => rfl
                | 2, _ => rfl
                | 3, _ => rfl))
        have HO1 := Lib.hid ((HO0.out.fr0 (Fr.refl _ _).drew).otherCell (b := g) (by omega) 3 (.int .i64 M2))
        have HFX1 := Lib.hid (Fr.setCell (p := ⟨g, 3, none⟩) HFX0.out.drew (fun h => by have := HGE.out; have h' : g < w.heap.size := h; omega) (.int .i64 M2))
        have HR := Lib.hid (HO1.out.setRow ⟨q.o, q.e, q.l, M2⟩)
        have HRF := Lib.hid (Fr.setRow (g := g + 1) HFX1.out (fun h => by have := HGE.out; omega) #[.int .i64 q.o, .int .i64 q.e, .int .i64 q.l, .int .i64 M2])
        go_wp2
        go_still_tail 11, (by kernel_rfl)
        go_wp2_with ((with_reducible change wpList _ _ _ (⟨_, Op.store 24 _ _, _, _, _, _⟩ :: _) _ _); refine wpList_store_row rfl 24 _ _ rfl (g + 1) #[.int .i64 q.o, .int .i64 q.e, .int .i64 q.l, .int .i64 M2] rfl rfl 24 _ HO1.out.heap infoP rfl (q4_one ⟨q.o, q.e, q.l, M2⟩) ?_)
        exact bodyPost_ret (res1 rfl Try.underlying24 rfl infoP _ rfl HR.out) rfl ⟨rfl, HRF.out⟩
set_option maxRecDepth 100000 in
set_option maxHeartbeats 4000000 in
theorem pslot_any (q : Qt) (hq : SizedQ q) (w : World) :
    Calls Try.prog 9 #[.agg (q4 q)] w fun e w' => e = .returned (.agg (q4 (slotQ q))) ∧ Fr0 w w' := by
  have HG := Lib.hid (fun w => pslots_any q 1 hq (by unfold Fit; decide) w)
  have HS : Hid (slotsQ q (1 : Int).toNat = slotQ q) := Lib.hid rfl
  rw [HS.out] at HG
  clear HS hq
  generalize slotQ q = sq at *
  have hfr := two_blocks 24 w q
  unfold q4 at HG
  rw [show q4 sq = #[.int .i64 sq.o, .int .i64 sq.e, .int .i64 sq.l, .int .i64 sq.a] from rfl]
  rw [show q4 q = #[.int .i64 q.o, .int .i64 q.e, .int .i64 q.l, .int .i64 q.a] from rfl]
  obtain ⟨W1, hW1⟩ : ∃ W1, W1 = (w.alloc (.cells #[.int .i64 q.o, .int .i64 q.e, .int .i64 q.l, .int .i64 q.a] 24)).alloc (.cells #[.int .i64 0, .int .i64 0, .int .i64 0, .int .i64 0] 24) := ⟨_, rfl⟩
  have HW1 := Lib.hid hW1
  rw [← hW1] at hfr
  obtain ⟨hb0, hb1, hf1⟩ := hfr
  have HB0 := Lib.hid hb0
  have HB1 := Lib.hid hb1
  have HF1 := Lib.hid hf1
  clear hb0 hb1 hf1 hW1
  go_enter Try.func9, Try.ntmps9
  go_wp2_with fail
  rw [← HW1.out]
  refine (HG.out _).mono ?_
  clear HW1 HG
  rintro e w2 ⟨rfl, hF2⟩
  have HF2 := Lib.hid (HF1.out.trans' hF2)
  have HC0 := Lib.hid (HB0.out.fr0 hF2)
  have HC1 := Lib.hid (HB1.out.fr0 hF2)
  clear hF2 HB0 HB1 HF1
  generalize hg : w.heap.size = g at *
  have HGE := Lib.hid hg
  clear hg
  obtain ⟨k0, k1, k2, k3⟩ := HC0.out.cells
  have HR := Lib.hid (HC1.out.setRow sq)
  have HRF : Hid (Fr0 w (w2.setRow (g + 1) #[.int .i64 sq.o, .int .i64 sq.e, .int .i64 sq.l, .int .i64 sq.a])) := Lib.hid (Fr.setRow HF2.out (fun h => by have := HGE.out; omega) _)
  go_wp2_with ((with_reducible change wpList _ _ _ (⟨_, Op.store 24 _ _, _, _, _, _⟩ :: _) _ _); refine wpList_store_row rfl 24 _ _ rfl (g + 1) #[.int .i64 sq.o, .int .i64 sq.e, .int .i64 sq.l, .int .i64 sq.a] rfl rfl 24 _ HC1.out.heap infoP rfl (q4_one ⟨sq.o, sq.e, sq.l, sq.a⟩) ?_)
  exact bodyPost_ret (res1 rfl Try.underlying24 rfl infoP _ rfl HR.out) rfl ⟨rfl, HRF.out⟩
end Go.Proofs.Ytpdmglmhbdjcmaa.Quota
