/-
  The program's Good, Add, Range, Last.
-/
import Derived.Test.YtbbmjkligiglmaaSerRef
import Derived.Test.YtbbmjkligiglmaaWays
namespace Go.Proofs.Ytbbmjkligiglmaa.Series
open Go.RowKit Base _root_.Go.Proofs.Ytbbmjkligiglmaa.Tenant

theorem infoS : (Try.prog.info? 30).map (fun i => (i.zero, i.size, i.bytes)) = some (some (.agg #[.int .i64 0, .int .i64 0]), 2, 16) := by kernel_rfl
theorem sizeS : (Try.prog.info? 30).map (·.size) = some 2 := by kernel_rfl
set_option maxRecDepth 100000 in
set_option maxHeartbeats 4000000 in
theorem pgood_all (v : Value) (l : List Sm) (hl : l.length ≤ 4611686018427387903) (w : World) (hP : PairsIs w v l) :
    Calls Try.prog 35 #[v] w fun e w' => e = .returned (.bool (rising l)) ∧ Fr0 w w' := by
  obtain ⟨A, C, rfl⟩ := pairs_form hP
  have HP := Lib.hid hP
  clear hP
  have HEND : Hid (∀ i, l.length ≤ i → Ris (l.take i) → rising l = true) := Lib.hid (fun i h h2 => by rw [List.take_of_length_le h] at h2; exact (rising_iff l).2 h2)
  have HSHORT : Hid (l.length ≤ 1 → rising l = true) := Lib.hid (fun h => (rising_iff l).2 (ris_short h))
  have HBAD : Hid (∀ i, i < l.length → 1 ≤ i → (l.getD i (0, 0)).1 ≤ (l.getD (i - 1) (0, 0)).1 → rising l = false) := Lib.hid (fun i => ris_bad)
  have HST : Hid (Ris (l.take 1)) := Lib.hid (ris_short (by rw [List.length_take]; omega))
  generalize rising l = r at *
  generalize hN : l.length = N at *
  have HN := Lib.hid hN
  clear hN
  go_enter Try.func35, Try.ntmps35
  go_wp2_with fail
  go_loopg [3] N (fun kx vi wr => ∃ (i : Nat), vi = .int .i64 (i : Int) ∧ 1 ≤ i ∧ (i ≤ N ∨ i = 1) ∧ N - i ≤ kx ∧ Hid (Ris (l.take i)) ∧ Hid (Fr0 w wr))
  case atStart => exact ⟨1, rfl, Nat.le_refl _, .inr rfl, by omega, HST, Lib.hid (Fr.refl _ _)⟩
  case round =>
    obtain ⟨i, rfl, hi1, hi2, hk, HR, HF⟩ := hrel
    by_cases hlt : i < N
    · obtain ⟨pb, po, rfl, hc⟩ := pairs_at HP.out i (by have := HN.out; omega)
      obtain ⟨pb', po', hpq, hc'⟩ := pairs_at HP.out (i - 1) (by have := HN.out; omega)
      cases hpq
      have d0 := (hc wr HF.out).1
      have e0 := (hc' wr HF.out).1
      have i1 : (i : Int) < (N : Int) := by omega
      have i2 : 0 ≤ (i : Int) := by omega
      obtain ⟨k, hik⟩ : ∃ k, i = k + 1 := ⟨i - 1, by omega⟩
      subst hik
      simp only [Nat.add_sub_cancel] at e0 HBAD
      have HB := Lib.hid (HBAD.out (k + 1) hlt (by omega))
      have HNX : Hid ((l.getD k (0, 0)).1 < (l.getD (k + 1) (0, 0)).1 → Ris (l.take (k + 1 + 1))) := Lib.hid (fun h => ris_next (i := k + 1) (by have := HN.out; omega) (by omega) HR.out (by rw [Nat.add_sub_cancel]; exact h))
      simp only [Nat.add_sub_cancel] at HB
      clear hc hc' HR
      generalize (l.getD k (0, 0)).1 = x at *
      generalize (l.getD (k + 1) (0, 0)).1 = y at *
      have hc1 : ((k + 1 : Nat) : Int) - 1 = (k : Int) := by omega
      have hk3 : (k : Int) < (N : Int) := by omega
      have hk4 : 0 ≤ (k : Int) := by omega
      by_cases hxy : y ≤ x
      · have HE := Lib.hid (HB.out hxy)
        go_wp2
        go_quiet (fail)
        have HF4 := Lib.hid (HF.out.trans' ((Fr.refl (fun _ => False) wr).drewN nq))
        generalize wr.drewN nq = w4 at *
        go_wp2
        go_ret
        exact ⟨by rw [HE.out]; rfl, HF4.out⟩
      · have HR2 := Lib.hid (HNX.out (by omega))
        go_wp2
        go_quiet (fail)
        have HF4 := Lib.hid (HF.out.trans' ((Fr.refl (fun _ => False) wr).drewN nq))
        generalize wr.drewN nq = w4 at *
        clear d0 e0
        go_wp2
        go_roundg (N - (k + 1 + 1))
        case measure => omega
        case rel => exact ⟨k + 1 + 1, by simp, by omega, by omega, by omega, HR2, HF4⟩
    · have HE : Hid (r = true) := Lib.hid (by
        rcases hi2 with h | h
        · exact HEND.out i (by omega) HR.out
        · exact HSHORT.out (by omega))
      go_wp2
      go_ret
      exact ⟨by rw [HE.out]; rfl, HF.out⟩

theorem pgood_any (v : Value) (l : List Sm) (hl : l.length ≤ 1000000) (_hs : SizedS l) (w : World) (hP : PairsIs w v l) :
    Calls Try.prog 35 #[v] w fun e w' => e = .returned (.bool (rising l)) ∧ Fr0 w w' := pgood_all v l (by omega) w hP
set_option maxHeartbeats 1000000 in
theorem pgrow_any (n : Nat) (hn : n ≤ 2000000) (w : World) :
    Calls Try.prog 48 #[.slice none 0 0, .int .i64 (n : Int)] w fun e w' => ∃ v', e = .returned v' ∧ w'.ownsRow w.heap.size 30 2 v' 0 (pcells []) ∧ Fr0 w w' := by
  have z1 : wrap64 ((n : Int) - 0) = (n : Int) := by simp only [wrap64]; omega
  by_cases h0 : n = 0
  · subst h0
    go_enter Try.func48, Try.ntmps48
    go_wp2
    go_ret
    exact ⟨_, rfl, World.ownsRow_nil _ _ _ _, Fr.refl _ _⟩
  · have h1 : (0 : Int) < (n : Int) := by omega
    have hs0 := fun wx : World => cut_hi_of (P := Try.prog) 31 30 Try.underlying31 2 sizeS none 0 0 0 (by omega) 0 rfl wx
    go_enter Try.func48, Try.ntmps48
    go_wp2_with (refine wpList_append_make_nil rfl (.tmp 20) (.tmp 21) 31 3 rfl w.heap.size 30 Try.underlying31 Try.underlying3 (.agg #[.int .i64 0, .int .i64 0]) 2 16 infoS rfl (by decide) n rfl rfl (by omega) (by omega) (by decide) (Nat.le_refl _) ?_)
    intro C w1 hC hO1 hG1
    have hs1 := fun wx : World => cut_hi_of (P := Try.prog) 31 30 Try.underlying31 2 sizeS (some ⟨w.heap.size, 0, none⟩) n C 0 (by omega) 0 rfl wx
    have HO := Lib.hid hO1
    have HF : Hid (Fr0 w w1) := Lib.hid (Fr.of_grown hG1 (fun k hk e => by cases e))
    clear hO1 hG1
    go_wp2
    go_ret
    exact ⟨_, rfl, HO.out, HF.out⟩
theorem flat2 (l m : List Sm) : [l, m].flatten = l ++ m := by simp
set_option maxHeartbeats 2000000 in
/-- slices.Concat of two -/
theorem pconcat_two (A1 A2 : Option Addr) (C1 C2 : Nat) (l m : List Sm) (hl : l.length ≤ 1000000) (hm : m.length ≤ 1000000) (g : Nat) (w : World) (hP : PairsIs w (.slice A1 l.length C1) l) (hQ : PairsIs w (.slice A2 m.length C2) m) (h0 : w.cell? ⟨g, 0, none⟩ = some (.slice A1 l.length C1)) (h1 : w.cell? ⟨g, 1, none⟩ = some (.slice A2 m.length C2)) :
    Calls Try.prog 36 #[.slice (some ⟨g, 0, none⟩) 2 2] w fun e w' => ∃ A C, e = .returned (.slice A (l.length + m.length) C) ∧ w'.ownsRow w.heap.size 30 2 (.slice A (l.length + m.length) C) (l.length + m.length) (pcells (l ++ m)) ∧ Fr0 w w' := by
  have HP := Lib.hid (pairs_vals hP)
  have HQ := Lib.hid (pairs_vals hQ)
  have HPC : Hid (pcells l ++ pcells m = pcells (l ++ m)) := Lib.hid (pcells_append l m).symm
  have HPL : Hid ((pcells l).length = l.length * 2) := Lib.hid (pcells_length l)
  have HQL : Hid ((pcells m).length = m.length * 2) := Lib.hid (pcells_length m)
  have HP1 := Lib.hid (pcells_one l)
  have HQ1 := Lib.hid (pcells_one m)
  have HC : Hid (∀ wr, Fr0 w wr → wr.cell? ⟨g, 0, none⟩ = some (.slice A1 l.length C1) ∧ wr.cell? ⟨g, 1, none⟩ = some (.slice A2 m.length C2)) := Lib.hid (fun wr hf => ⟨(hf.cell (p := ⟨g, 0, none⟩) (World.block_lt_of_cell? w _ h0) (fun f => f)).trans h0, (hf.cell (p := ⟨g, 1, none⟩) (World.block_lt_of_cell? w _ h1) (fun f => f)).trans h1⟩)
  clear hP hQ h0 h1
  generalize pcells (l ++ m) = cs at *
  generalize pcells l = cl at *
  generalize pcells m = cm at *
  generalize l.length = L at *
  generalize m.length = M at *
  have hsum : (L : Int) + (M : Int) = ((L + M : Nat) : Int) := by omega
  obtain ⟨K, hK⟩ : ∃ K, K = L + M := ⟨_, rfl⟩
  rw [← hK] at hsum ⊢
  have HK := Lib.hid hK
  have hK2 : K ≤ 2000000 := by omega
  clear hK
  have nL : decide ((L : Int) < 0) = false := decide_eq_false (by omega)
  have nK : decide ((K : Int) < 0) = false := decide_eq_false (by omega)
  obtain ⟨c0, c1⟩ := HC.out w (Fr.refl _ _)
  go_enter Try.func36, Try.ntmps36
  go_wp2_with fail
  go_loopg [3, 11] 2 (fun kx vs vi wr => w = wr ∧ ∃ i : Nat, vi = .int .i64 (i : Int) ∧ i ≤ 2 ∧ 2 - i ≤ kx ∧ vs = .int .i64 (if i = 0 then 0 else if i = 1 then (L : Int) else (K : Int)))
  case atStart => exact ⟨rfl, 0, rfl, by omega, by omega, rfl⟩
  case round =>
    obtain ⟨rfl, i, rfl, hi, hk, rfl⟩ := hrel
    match i, hi with
    | 0, _ =>
      go_wp2
      go_roundg 1
      case measure => omega
      case rel => exact ⟨rfl, 1, rfl, by omega, by omega, rfl⟩
    | 1, _ =>
      go_wp2
      go_roundg 0
      case measure => omega
      case rel => exact ⟨rfl, 2, rfl, by omega, by omega, rfl⟩
    | 2, _ =>
      go_wp2_with fail
      refine (pgrow_any K hK2 w).mono ?_
      rintro e w2 ⟨v2, rfl, hO2, hF2⟩
      obtain ⟨A0, C0, hv0, _⟩ := owns_form hO2
      subst hv0
      have HO2 := Lib.hid hO2
      have HF2 := Lib.hid hF2
      clear hO2 hF2
      go_wp2_with fail
      go_loopg [6, 27] 2 (fun kx vs vi wx => ∃ (i n : Nat) (Ab : Option Addr) (Cb : Nat) (X : List Value), vi = .int .i64 (i : Int) ∧ vs = .slice Ab n Cb ∧ i ≤ 2 ∧ 2 - i ≤ kx ∧ Hid (wx.ownsRow w.heap.size 30 2 (.slice Ab n Cb) n X) ∧ Hid (Fr0 w wx) ∧ Hid ((i = 0 ∧ n = 0 ∧ X = []) ∨ (i = 1 ∧ n = L ∧ X = cl) ∨ (i = 2 ∧ n = K ∧ X = cs)))
      case atStart => exact ⟨0, 0, A0, C0, [], rfl, rfl, by omega, by omega, HO2, HF2, Lib.hid (.inl ⟨rfl, rfl, rfl⟩)⟩
      case round =>
        clear HO2 HF2 c0 c1
        obtain ⟨i, n, Ab, Cb, X, rfl, rfl, hi2, hk2, HO, HF, HI⟩ := hrel
        obtain ⟨d0, d1⟩ := HC.out wr HF.out
        have HPA := Lib.hid (HP.out.fr0 HF.out)
        have HQA := Lib.hid (HQ.out.fr0 HF.out)
        match i, hi2 with
        | 0, _ =>
          obtain ⟨rfl, rfl⟩ : n = 0 ∧ X = [] := by have := HI.out; simpa using this
          go_wp2_with ((refine wpList_append_valsM rfl (.tmp 31) (.tmp 32) 31 rfl (w.heap.size) 30 Try.underlying31 (.agg #[.int .i64 0, .int .i64 0]) 2 16 infoS rfl (by decide) _ _ 0 L [] cl rfl rfl HO.out HPA.out (by exact HPL.out) (HP1.out) (by unfold maxLen; omega) (by omega) (by exact HF.out.size) ?_); intro v1 w2 hO1 hG1 _; rw [Nat.zero_add, List.nil_append] at hO1; have HO1 := Lib.hid hO1; obtain ⟨A1, C1, hv1, _⟩ := owns_form hO1; subst hv1; have HF1 : Hid (Fr0 w w2) := Lib.hid (HF.out.grown hG1 (fun q hq e => by have := HO.out.lt q e; omega)); clear hO1 hG1)
          go_roundg 1
          case measure => omega
          case rel => exact ⟨1, L, A1, _, cl, rfl, rfl, by omega, by omega, HO1, HF1, Lib.hid (.inr (.inl ⟨rfl, rfl, rfl⟩))⟩
        | 1, _ =>
          obtain ⟨rfl, rfl⟩ : n = L ∧ X = cl := by have := HI.out; simpa using this
          go_wp2_with ((refine wpList_append_valsM rfl (.tmp 31) (.tmp 32) 31 rfl (w.heap.size) 30 Try.underlying31 (.agg #[.int .i64 0, .int .i64 0]) 2 16 infoS rfl (by decide) _ _ n M X cm rfl rfl HO.out HQA.out (by exact HQL.out) (HQ1.out) (by unfold maxLen; omega) (by omega) (by exact HF.out.size) ?_); intro v1 w2 hO1 hG1 _; rw [← HK.out, HPC.out] at hO1; have HO1 := Lib.hid hO1; obtain ⟨A1, C1, hv1, _⟩ := owns_form hO1; subst hv1; have HF1 : Hid (Fr0 w w2) := Lib.hid (HF.out.grown hG1 (fun q hq e => by have := HO.out.lt q e; omega)); clear hO1 hG1)
          go_roundg 0
          case measure => omega
          case rel => exact ⟨2, K, A1, _, cs, rfl, rfl, by omega, by omega, HO1, HF1, Lib.hid (.inr (.inr ⟨rfl, rfl, rfl⟩))⟩
        | 2, _ =>
          obtain ⟨rfl, rfl⟩ : n = K ∧ X = cs := by have := HI.out; simpa using this
          go_wp2
          go_ret
          exact ⟨_, _, rfl, HO.out, HF.out⟩
set_option maxHeartbeats 1000000 in
/-- slices.Clone -/
theorem pclone_typ (A : Option Addr) (C : Nat) (l : List Sm) (hl : l.length ≤ 2000000) (w : World) (hP : PairsIs w (.slice A l.length C) l) :
    Calls Try.prog 28 #[.slice A l.length C] w fun e w' => ∃ v, e = .returned v ∧ PairsIs w' v l ∧ Fr0 w w' ∧ (∀ a n c, v = .slice (some a) n c → 0 < l.length → w.heap.size ≤ a.block) ∧ Typ w' 30 v l := by
  have HL0 : Hid (A = none → l = []) := Lib.hid (fun h => by
    subst h
    obtain ⟨A1, C1, pb, po, hv1, _, hpa, _⟩ := hP
    simp only [Value.slice.injEq] at hv1
    obtain ⟨rfl, _, _⟩ := hv1
    rcases Nat.eq_zero_or_pos l.length with h0 | h0
    · exact List.eq_nil_of_length_eq_zero h0
    · cases hpa h0)
  have HP := Lib.hid (pairs_vals hP)
  have HPL : Hid ((pcells l).length = l.length * 2) := Lib.hid (pcells_length l)
  have HP1 := Lib.hid (pcells_one l)
  clear hP
  have q22 : ∀ (w : World) (a : Option Addr) (n c n' c' : Nat), (binOp .eql 31 (.slice a n c) (.slice none n' c')).run Try.prog w = .ok (.bool a.isNone) w := fun w a n c n' c' => Lib.run_eql_slice_nil w _ _ a n c n' c' Try.underlying31
  cases A with
  | none =>
    obtain rfl := HL0.out rfl
    go_enter Try.func28, Try.ntmps28
    go_wp2
    go_ret
    exact ⟨.slice none 0 0, rfl, pairs_nil _, Fr.refl _ _, typ_nil _ _ _ _ _⟩
  | some ad =>
    clear HL0
    have HF0 := Lib.hid ((Fr.refl (fun _ => False) w).alloc (.cells #[] 30))
    have HO0 := Lib.hid (owns_none w w.heap.size 30 (Nat.le_refl _) _ rfl)
    have HPA := Lib.hid (HP.out.fr0 HF0.out)
    have HLL : Hid (l.length = l.length) := Lib.hid rfl
    go_enter Try.func28, Try.ntmps28
    go_wp2_with ((refine wpList_append_valsM rfl (.tmp 5) (.tmp 6) 31 rfl (w.heap.size) 30 Try.underlying31 (.agg #[.int .i64 0, .int .i64 0]) 2 16 infoS rfl (by decide) _ _ 0 l.length [] (pcells l) rfl rfl HO0.out HPA.out (by exact HPL.out) (HP1.out) (by unfold maxLen; omega) (by omega) (by exact HF0.out.size) ?_); intro v1 w2 hO1 hG1 _; rw [Nat.zero_add, List.nil_append] at hO1; have HO1 := Lib.hid hO1; obtain ⟨A1, C1, hv1, _⟩ := owns_form hO1; subst hv1; have HF1 : Hid (Fr0 w w2) := Lib.hid (HF0.out.trans (Fr.of_grown (S := fun j => (Value.slice (some ⟨w.heap.size, 0, none⟩) 0 0).ownBlock = some j) hG1 (fun k hk e => e)) (fun j hj e => by have e' : w.heap.size = j := Option.some.inj e; omega)); clear hO1 hG1)
    go_ret
    exact ⟨.slice A1 l.length C1, rfl, pairs_own HO1.out rfl, HF1.out, fun a n c h h0 => (HO1.out.lt a.block (by rw [h]; rfl)).1, fun a n c h _ => own_typ HO1.out a (by cases h; rfl)⟩
theorem pclone_any (A : Option Addr) (C : Nat) (l : List Sm) (hl : l.length ≤ 2000000) (w : World) (hP : PairsIs w (.slice A l.length C) l) :
    Calls Try.prog 28 #[.slice A l.length C] w fun e w' => ∃ v, e = .returned v ∧ PairsIs w' v l ∧ Fr0 w w' ∧ ∀ a n c, v = .slice (some a) n c → 0 < l.length → w.heap.size ≤ a.block := (pclone_typ A C l hl w hP).mono fun _ _ ⟨v, h1, h2, h3, h4, _⟩ => ⟨v, h1, h2, h3, h4⟩
set_option maxRecDepth 100000 in
set_option maxHeartbeats 4000000 in
theorem prange_any (v : Value) (l : List Sm) (f t : Int) (hl : l.length ≤ 1000000) (hs : SizedS l) (hf : -9223372036854775808 ≤ f ∧ f ≤ 9223372036854775807) (ht : -9223372036854775808 ≤ t ∧ t ≤ 9223372036854775807) (w : World) (hP : PairsIs w v l) :
    Calls Try.prog 20 #[v, .int .i64 f, .int .i64 t] w fun e w' => ∃ v', e = .returned v' ∧ PairsIs w' v' (rangeOf l f t) ∧ Fr0 w w' := by
  obtain ⟨A, C, rfl⟩ := pairs_form hP
  have HP := Lib.hid hP
  clear hP
  have HEND : Hid (∀ i, l.length ≤ i → rangeOf (l.take i) f t = rangeOf l f t) := Lib.hid (fun i h => by rw [List.take_of_length_le h])
  have HNX := Lib.hid (range_next l f t)
  have HST : Hid (rangeOf (l.take 0) f t = []) := Lib.hid rfl
  generalize hN : l.length = N at *
  have HN := Lib.hid hN
  clear hN
  go_enter Try.func20, Try.ntmps20
  go_wp2_with fail
  go_loopg [7, 12] N (fun kx vr vi wr => ∃ (i n : Nat) (X : List Sm) (Ab : Option Addr) (Cb : Nat), vi = .int .i64 (i : Int) ∧ vr = .slice Ab n Cb ∧ i ≤ N ∧ N - i ≤ kx ∧ n ≤ i ∧ Hid (X.length = n) ∧ Hid (rangeOf (l.take i) f t = X) ∧ Hid (wr.ownsRow w.heap.size 30 2 (.slice Ab n Cb) n (pcells X)) ∧ Hid (Fr0 w wr))
  case atStart => exact ⟨0, 0, [], none, 0, rfl, rfl, Nat.zero_le _, by omega, Nat.le_refl _, Lib.hid rfl, HST, Lib.hid (World.ownsRow_nil _ _ _ _), Lib.hid (Fr.refl _ _)⟩
  case round =>
    obtain ⟨i, n, X, Ab, Cb, rfl, rfl, hi, hk, hn, HXL, HX, HO, HF⟩ := hrel
    by_cases hlt : i < N
    · obtain ⟨pb, po, rfl, hc⟩ := pairs_at HP.out i (by have := HN.out; omega)
      obtain ⟨d0, d1⟩ := hc wr HF.out
      have i1 : (i : Int) < (N : Int) := by omega
      have i2 : 0 ≤ (i : Int) := by omega
      have hnx := HNX.out i hlt
      rw [HX.out] at hnx
      have HB := Lib.hid (between_iff f t (l.getD i (0, 0)))
      have HNXT : Hid (rangeOf (l.take (i + 1)) f t = if between f t (l.getD i (0, 0)) = true then X ++ [((l.getD i (0, 0)).1, (l.getD i (0, 0)).2)] else X) := Lib.hid hnx
      clear hc hnx
      generalize between f t (l.getD i (0, 0)) = bt at *
      generalize (l.getD i (0, 0)).1 = x at *
      generalize (l.getD i (0, 0)).2 = y at *
      by_cases h1 : f ≤ x
      · by_cases h2 : x ≤ t
        · obtain rfl : bt = true := HB.out.2 ⟨h1, h2⟩
          have HFA := Lib.hid ((Fr.refl (fun _ => False) wr).alloc (.cells #[.int .i64 x, .int .i64 y] 30))
          have HFL := Lib.hid (HFA.out.alloc (.cells #[.int .i64 x, .int .i64 y] 30))
          have HOL := Lib.hid (ownsFr HFL.out HO.out (fun _ _ f => f))
          have HPL0 := pair_lit (wr.alloc (.cells #[.int .i64 x, .int .i64 y] 30)) x y 30
          rw [World.size_alloc] at HPL0
          have HPL := Lib.hid HPL0
          have HWS := Lib.hid (Nat.le_trans HF.out.size HFL.out.size)
          clear HPL0
          go_wp2_with ((refine wpList_append_valsM rfl (.tmp 26) (.tmp 28) 31 rfl (w.heap.size) 30 Try.underlying31 (.agg #[.int .i64 0, .int .i64 0]) 2 16 infoS rfl (by decide) _ _ n 1 (pcells X) [.int .i64 x, .int .i64 y] rfl rfl HOL.out HPL.out (by rfl) (by intro u hu; simp at hu; rcases hu with rfl | rfl <;> rfl) (by unfold maxLen; omega) (by omega) (by exact HWS.out) ?_); intro v1 w2 hO1 hG1 _; obtain ⟨A1, C1, hv1, _⟩ := owns_form hO1; subst hv1; have HO1 : Hid (w2.ownsRow w.heap.size 30 2 (.slice A1 (n + 1) C1) (n + 1) (pcells (X ++ [(x, y)]))) := Lib.hid (by rw [pcells_append]; exact hO1); have HF1 : Hid (Fr0 w w2) := Lib.hid ((HF.out.trans' HFL.out).trans (Fr.of_grown (S := fun j => (Value.slice Ab n Cb).ownBlock = some j) hG1 (fun k hk e => e)) (fun j hj e => by have := (HOL.out.lt j e).1; omega)); clear hO1 hG1)
          have HXL1 : Hid ((X ++ [(x, y)]).length = n + 1) := Lib.hid (by rw [List.length_append, HXL.out]; rfl)
          have HX1 : Hid (rangeOf (l.take (i + 1)) f t = X ++ [(x, y)]) := Lib.hid HNXT.out
          clear HFA HFL HOL HPL HWS HO HX HXL HNXT HB d0 d1
          generalize X ++ [(x, y)] = X2 at *
          go_roundg (N - (i + 1))
          case measure => omega
          case rel => exact ⟨i + 1, n + 1, X2, A1, C1, by simp, rfl, by omega, by omega, by omega, HXL1, HX1, HO1, HF1⟩
        · obtain rfl : bt = false := by rw [Bool.eq_false_iff]; intro h; exact h2 (HB.out.1 h).2
          have HX1 : Hid (rangeOf (l.take (i + 1)) f t = X) := Lib.hid HNXT.out
          have HFA := Lib.hid ((Fr.refl (fun _ => False) wr).alloc (.cells #[.int .i64 x, .int .i64 y] 30))
          have HOA := Lib.hid (ownsFr HFA.out HO.out (fun _ _ f => f))
          have HFB := Lib.hid (HF.out.trans' HFA.out)
          go_wp2
          go_roundg (N - (i + 1))
          case measure => omega
          case rel => exact ⟨i + 1, n, X, Ab, Cb, by simp, rfl, by omega, by omega, by omega, HXL, HX1, HOA, HFB⟩
      · obtain rfl : bt = false := by rw [Bool.eq_false_iff]; intro h; exact h1 (HB.out.1 h).1
        have HX1 : Hid (rangeOf (l.take (i + 1)) f t = X) := Lib.hid HNXT.out
        have HFA := Lib.hid ((Fr.refl (fun _ => False) wr).alloc (.cells #[.int .i64 x, .int .i64 y] 30))
        have HOA := Lib.hid (ownsFr HFA.out HO.out (fun _ _ f => f))
        have HFB := Lib.hid (HF.out.trans' HFA.out)
        go_wp2
        go_roundg (N - (i + 1))
        case measure => omega
        case rel => exact ⟨i + 1, n, X, Ab, Cb, by simp, rfl, by omega, by omega, by omega, HXL, HX1, HOA, HFB⟩
    · have HE : Hid (PairsIs wr (.slice Ab n Cb) (rangeOf l f t)) := Lib.hid (by
        rw [← HEND.out i (by omega), HX.out]
        exact pairs_own HO.out HXL.out.symm)
      go_wp2
      go_ret
      exact ⟨_, rfl, HE.out, HF.out⟩
/-- .. and what is told is new -/
def AddNew (l m : List Sm) (r : Int) (w : World) (e : Ending) (w' : World) : Prop := ∃ v, e = .returned (.tuple #[v, .int .i64 (addErr l m r)]) ∧ PairsIs w' v (addOut l m r) ∧ Fr0 w w' ∧ ∀ a n c, v = .slice (some a) n c → 0 < (addOut l m r).length → w.heap.size ≤ a.block
/-- .. and in a block of samples -/
def AddTyp (l m : List Sm) (r : Int) (w : World) (e : Ending) (w' : World) : Prop := ∃ v, e = .returned (.tuple #[v, .int .i64 (addErr l m r)]) ∧ PairsIs w' v (addOut l m r) ∧ Fr0 w w' ∧ (∀ a n c, v = .slice (some a) n c → 0 < (addOut l m r).length → w.heap.size ≤ a.block) ∧ Typ w' 30 v (addOut l m r)
theorem AddTyp.none {l m : List Sm} {r : Int} {w w' : World} (h : addOut l m r = []) (hf : Fr0 w w') : AddTyp l m r w (.returned (.tuple #[.slice none 0 0, .int .i64 (addErr l m r)])) w' := ⟨_, rfl, by rw [h]; exact pairs_nil _, hf, fun a n c hv => (by cases hv), typ_nil _ _ _ _ _⟩
set_option maxRecDepth 100000 in
set_option maxHeartbeats 4000000 in
theorem padd_typ (v u : Value) (l m : List Sm) (r : Int) (hl : l.length ≤ 1000000) (hm : m.length ≤ 1000000) (hs : SizedS l) (hs2 : SizedS m) (hr : -9223372036854775808 ≤ r ∧ r ≤ 9223372036854775807) (w : World) (hP : PairsIs w v l) (hQ : PairsIs w u m) :
    Calls Try.prog 24 #[v, u, .int .i64 r] w (AddTyp l m r w) := by
  obtain ⟨A, C, rfl⟩ := pairs_form hP
  obtain ⟨B, D, rfl⟩ := pairs_form hQ
  have HP := Lib.hid hP
  have HQ := Lib.hid hQ
  have hris := pgood_all (.slice A l.length C) l (by omega) w hP
  have HARG : Hid ((rising l && inn r 1 64) = false → addErr l m r = 1 ∧ addOut l m r = []) := Lib.hid add_arg
  have HORD : Hid (rising l = true → inn r 1 64 = true → rising (l ++ m) = false → addErr l m r = 8 ∧ addOut l m r = []) := Lib.hid (fun h1 h2 h3 => add_order ((rising_iff _).1 h1) ((inn_iff _ _ _).1 h2) (fun h => by rw [(rising_iff _).2 h] at h3; cases h3))
  have HYES : Hid (rising l = true → inn r 1 64 = true → rising (l ++ m) = true → addErr l m r = 0 ∧ addOut l m r = (l ++ m).drop ((l ++ m).length - r.toNat)) := Lib.hid (fun h1 h2 h3 => add_yes ((rising_iff _).1 h1) ((inn_iff _ _ _).1 h2) ((rising_iff _).1 h3))
  have HIFF : Hid (inn r 1 64 = true ↔ 1 ≤ r ∧ r ≤ 64) := Lib.hid (inn_iff _ _ _)
  have HRA := Lib.hid (fun v w => pgood_all v (l ++ m) (by rw [List.length_append]; omega) w)
  have HCL := Lib.hid (fun A C (k : Nat) w => pclone_typ A C ((l ++ m).drop k) (by rw [List.length_drop, List.length_append]; omega) w)
  have HCC := Lib.hid (fun g w => pconcat_two A B C D l m hl hm g w)
  have HLM : Hid ((l ++ m).length = l.length + m.length) := Lib.hid List.length_append
  have HNONE : Hid (∀ w', addOut l m r = [] → Fr0 w w' → AddTyp l m r w (.returned (.tuple #[.slice none 0 0, .int .i64 (addErr l m r)])) w') := Lib.hid (fun w' h hf => AddTyp.none h hf)
  have HEND : Hid (∀ v w', PairsIs w' v (addOut l m r) → Fr0 w w' → (∀ a n c, v = .slice (some a) n c → 0 < (addOut l m r).length → w.heap.size ≤ a.block) → Typ w' 30 v (addOut l m r) → AddTyp l m r w (.returned (.tuple #[v, .int .i64 (addErr l m r)])) w') := Lib.hid (fun v w' h1 h2 h3 h4 => ⟨v, rfl, h1, h2, h3, h4⟩)
  generalize hAN : AddTyp l m r w = post at *
  clear hP hQ hAN
  generalize l ++ m = lm at *
  generalize addErr l m r = er at *
  generalize addOut l m r = out at *
  generalize rising l = b0 at *
  generalize inn r 1 64 = b1 at *
  generalize rising lm = b2 at *
  generalize hL : l.length = L at *
  generalize hM : m.length = M at *
  have HMM := Lib.hid hM
  have HLL := Lib.hid hL
  clear hL hM
  cases b0 with
  | false =>
    obtain ⟨rfl, ho⟩ := HARG.out rfl
    have HE := Lib.hid (fun w' => HNONE.out w' ho)
    clear ho
    go_enter Try.func24, Try.ntmps24
    go_wp2_with fail
    refine hris.mono ?_
    clear hris
    rintro e w1 ⟨rfl, hF⟩
    have HF := Lib.hid hF
    clear hF
    go_wp2
    exact HE.out _ HF.out
  | true =>
    go_enter Try.func24, Try.ntmps24
    go_wp2_with fail
    refine hris.mono ?_
    clear hris
    rintro e w1 ⟨rfl, hF⟩
    have HF := Lib.hid hF
    clear hF
    by_cases hr1 : r < 1
    · obtain rfl : b1 = false := by cases b1 with | false => rfl | true => have := HIFF.out.1 rfl; omega
      obtain ⟨rfl, ho⟩ := HARG.out rfl
      have HE := Lib.hid (fun w' => HNONE.out w' ho)
      clear ho
      go_wp2
      skip
      exact HE.out _ HF.out
    · by_cases hr2 : 64 < r
      · obtain rfl : b1 = false := by cases b1 with | false => rfl | true => have := HIFF.out.1 rfl; omega
        obtain ⟨rfl, ho⟩ := HARG.out rfl
        have HE := Lib.hid (fun w' => HNONE.out w' ho)
        clear ho
        go_wp2
        skip
        exact HE.out _ HF.out
      · obtain rfl : b1 = true := HIFF.out.2 ⟨by omega, by omega⟩
        have HF0 := Lib.hid ((Fr.refl (fun _ => False) w1).alloc (.cells #[.slice A L C, .slice B M D] 31))
        have hcc := HCC.out w1.heap.size (w1.alloc (.cells #[.slice A L C, .slice B M D] 31)) ((HP.out.fr0 HF.out).fr0 HF0.out) ((HQ.out.fr0 HF.out).fr0 HF0.out) (by rw [cell_of_row _ _ _ _ _ _ (heap_alloc_new w1 _)]; rfl) (by rw [cell_of_row _ _ _ _ _ _ (heap_alloc_new w1 _)]; rfl)
        have HF1 := Lib.hid (HF.out.trans' HF0.out)
        clear HF0 HCC HP HQ HF
        go_wp2_with fail
        refine hcc.mono ?_
        clear hcc
        rintro e w3 ⟨A2, C2, rfl, hO, hF3⟩
        have HF3 := Lib.hid (HF1.out.trans' hF3)
        have HPP := Lib.hid (pairs_own hO HLM.out.symm)
        clear hO hF3 HF1
        obtain ⟨K, hK⟩ : ∃ K, K = L + M := ⟨_, rfl⟩
        have hK2 : K ≤ 2000000 := by rw [hK]; omega
        rw [← hK] at HLM HPP
        rw [← hK]
        have HK := Lib.hid hK
        clear hK
        have hra := HRA.out _ w3 HPP.out
        go_wp2_with fail
        refine hra.mono ?_
        clear hra
        rintro e w4 ⟨rfl, hF4⟩
        have HF4 := Lib.hid (HF3.out.trans' hF4)
        have HP4 := Lib.hid (HPP.out.fr0 hF4)
        clear hF4 HPP HF3
        cases b2 with
        | false =>
          obtain ⟨rfl, ho⟩ := HORD.out (by trivial) (by trivial) (by trivial)
          have HE := Lib.hid (fun w' => HNONE.out w' ho)
          clear ho
          go_wp2
          skip
          exact HE.out _ HF4.out
        | true =>
          obtain ⟨rfl, hout⟩ := HYES.out (by trivial) (by trivial) (by trivial)
          obtain ⟨A5, C5, hp5, hs5, _⟩ := cut_pairs (P := Try.prog) 31 30 Try.underlying31 (by kernel_rfl) HP4.out (K - r.toNat) (by rw [HLM.out]; omega) ((K - r.toNat : Nat) : Int) rfl
          have hcl := HCL.out A5 C5 (K - r.toNat) w4
          rw [List.length_drop] at hcl
          rw [HLM.out] at hp5 hs5 hout hcl
          have hcl2 := hcl hp5
          rw [← hout] at hcl2
          have hol : out.length = K - (K - r.toNat) := by rw [hout, List.length_drop, HLM.out]
          clear hcl hp5 hout
          have HCL2 := Lib.hid hcl2
          clear hcl2
          have hsz := HF4.out.size
          have HEE : Hid (∀ v w5, PairsIs w5 v out → Fr0 w4 w5 → (∀ a n c, v = .slice (some a) n c → 0 < out.length → w4.heap.size ≤ a.block) → Typ w5 30 v out → post (.returned (.tuple #[v, .int .i64 0])) w5) := Lib.hid (fun v w5 h1 h2 h3 h4 => HEND.out v w5 h1 (HF4.out.trans' h2) (fun a n c hv h0 => Nat.le_trans hsz (h3 a n c hv h0)) h4)
          clear HEND HNONE hsz HF4 HRA HCL
          have HOE : Hid (out.length = K - (K - r.toNat)) := Lib.hid hol
          clear hol
          by_cases hbig : r < (K : Int)
          · have h1 : (K : Int) - r = ((K - r.toNat : Nat) : Int) := by omega
            have h2 : (0 : Int) < ((K - r.toNat : Nat) : Int) := by omega
            generalize hd : K - r.toNat = d at *
            clear hd
            generalize he : K - d = e at *
            clear he
            go_wp2_with fail
            refine HCL2.out.mono ?_
            rintro e w5 ⟨v5, rfl, h5, h6, h7, h8⟩
            have HX := Lib.hid (HEE.out v5 w5 h5 h6 (fun a n c hv h0 => h7 a n c hv (by rw [← HOE.out]; exact h0)) h8)
            clear h5 h6 h7 h8 HEE HCL2 HOE
            go_wp2
            exact HX.out
          · have h0 : K - r.toNat = 0 := by omega
            have h1 : ¬ ((K : Int) - r > 0) := by omega
            have h2 : (-9223372036854775808 : Int) ≤ (K : Int) - r := by omega
            have h3 : (K : Int) - r < 9223372036854775808 := by omega
            rw [h0] at hs5 HCL2 HOE
            rw [Nat.sub_zero] at hs5 HCL2 HOE
            have hs6 : ∀ wx : World, (Instr.sliceAt 31 (.slice A2 K C2) (some (.int .i64 0)) none none).run Try.prog wx = .ok (.slice A5 K C5) wx := hs5
            clear hs5 h0
            go_wp2_with fail
            refine HCL2.out.mono ?_
            rintro e w5 ⟨v5, rfl, h5, h6, h7, h8⟩
            have HX := Lib.hid (HEE.out v5 w5 h5 h6 (fun a n c hv h0 => h7 a n c hv (by rw [← HOE.out]; exact h0)) h8)
            clear h5 h6 h7 h8 HEE HCL2 HOE
            go_wp2
            exact HX.out
theorem padd_new (v u : Value) (l m : List Sm) (r : Int) (hl : l.length ≤ 1000000) (hm : m.length ≤ 1000000) (hs : SizedS l) (hs2 : SizedS m) (hr : -9223372036854775808 ≤ r ∧ r ≤ 9223372036854775807) (w : World) (hP : PairsIs w v l) (hQ : PairsIs w u m) :
    Calls Try.prog 24 #[v, u, .int .i64 r] w (AddNew l m r w) := (padd_typ v u l m r hl hm hs hs2 hr w hP hQ).mono fun _ _ ⟨v, h1, h2, h3, h4, _⟩ => ⟨v, h1, h2, h3, h4⟩
set_option maxRecDepth 100000 in
theorem padd_any (v u : Value) (l m : List Sm) (r : Int) (hl : l.length ≤ 1000000) (hm : m.length ≤ 1000000) (hs : SizedS l) (hs2 : SizedS m) (hr : -9223372036854775808 ≤ r ∧ r ≤ 9223372036854775807) (w : World) (hP : PairsIs w v l) (hQ : PairsIs w u m) :
    Calls Try.prog 24 #[v, u, .int .i64 r] w (AddPost l m r w) :=
  (padd_new v u l m r hl hm hs hs2 hr w hP hQ).mono (fun e w' ⟨x, he, hp, hf, _⟩ => ⟨x, he, hp, hf⟩)
/-- what Last tells, in its result's cell -/
theorem resS {P : Program} {fn : Func} {p u : Tmp} {t : TypeId} {d : TypeDesc} (h : fn.results = #[.cell p t, .tmp u]) (hu : P.underlying t = some d) (hd : (match d with | .struct _ | .array _ _ => true | _ => false) = true) (hi : (P.info? t).map (·.size) = some 2) (tmps : Array Value) {w : World} {g : Nat} {x y : Int} (v : Value) (hp : tmps.getD p undef = .pointer (some ⟨g, 0, none⟩)) (hv : tmps.getD u undef = v) (hg : w.heap[g]? = some (.cells #[.int .i64 x, .int .i64 y] t)) :
    (results fn tmps).run P w = .ok (.tuple #[.agg #[.int .i64 x, .int .i64 y], v]) w := by
  have hp' : tmps[p]?.getD undef = .pointer (some ⟨g, 0, none⟩) := by simpa using hp
  have hq' : tmps[u]?.getD undef = v := by simpa using hv
  simp [results, h, hp', hq', asAddr, run_loadVar_row w g t t _ (0, 0) d hg hu hd hi]
set_option maxRecDepth 100000 in
set_option maxHeartbeats 4000000 in
theorem plast_any (v : Value) (l : List Sm) (hl : l.length ≤ 1000000) (w : World) (hP : PairsIs w v l) :
    Calls Try.prog 39 #[v] w fun e w' => e = .returned (.tuple #[.agg #[.int .i64 (lastOf l).1, .int .i64 (lastOf l).2], .bool (decide (0 < l.length))]) ∧ Fr0 w w' := by
  obtain ⟨A, C, rfl⟩ := pairs_form hP
  by_cases h0 : l.length = 0
  · obtain rfl : l = [] := List.eq_nil_of_length_eq_zero h0
    clear hP hl h0
    have HF := Lib.hid ((Fr.refl (fun _ => False) w).alloc (.cells #[.int .i64 0, .int .i64 0] 30))
    have HE := Lib.hid (heap_alloc_new w (.cells #[.int .i64 0, .int .i64 0] 30))
    go_enter Try.func39, Try.ntmps39
    go_wp2
    exact bodyPost_ret (resS rfl Try.underlying30 rfl sizeS _ _ rfl rfl HE.out) rfl ⟨rfl, HF.out⟩
  · obtain ⟨pb, po, rfl, hc⟩ := pairs_at hP (l.length - 1) (by omega)
    have HF := Lib.hid ((Fr.refl (fun _ => False) w).alloc (.cells #[.int .i64 0, .int .i64 0] 30))
    obtain ⟨d0, d1⟩ := hc _ HF.out
    have HLO : Hid (lastOf l = l.getD (l.length - 1) (0, 0)) := Lib.hid rfl
    have HD : Hid (decide (0 < l.length) = true) := Lib.hid (decide_eq_true (by omega))
    generalize l.getD (l.length - 1) (0, 0) = q at *
    obtain ⟨x, y⟩ := q
    have HE := Lib.hid (heap_alloc_new w (.cells #[.int .i64 x, .int .i64 y] 30))
    have HF2 := Lib.hid ((Fr.refl (fun _ => False) w).alloc (.cells #[.int .i64 x, .int .i64 y] 30))
    clear hP hc
    obtain ⟨k, hk⟩ : ∃ k, k = l.length - 1 := ⟨_, rfl⟩
    rw [← hk] at d0 d1
    generalize l.length = N at *
    have h1 : (N : Int) - 1 = (k : Int) := by omega
    have h2 : (k : Int) < (N : Int) := by omega
    have h3 : 0 ≤ (k : Int) := by omega
    have h4 : ((N : Int) == 0) = false := beq_eq_false_iff_ne.2 (by omega)
    clear hk h0
    go_enter Try.func39, Try.ntmps39
    go_wp2
    exact bodyPost_ret (resS rfl Try.underlying30 rfl sizeS _ _ rfl rfl HE.out) rfl ⟨by rw [HLO.out, HD.out]; rfl, HF2.out⟩
end Go.Proofs.Ytbbmjkligiglmaa.Series
