/-
  The reference's Rising, Add, Range.
-/
import Derived.Test.YtbbmjkligiglmaaSerAll
import Derived.Test.YtbbmjkligiglmaaTenantRef
import Derived.Deep.DeepCutAuto
import Derived.Deep.LoopGhost
namespace Go.Proofs.Ytbbmjkligiglmaa.Series
open Go.RowKit Base _root_.Go.Proofs.Ytbbmjkligiglmaa.Tenant

theorem infoR : (Try.prog.info? 80).map (fun i => (i.zero, i.size, i.bytes)) = some (some (.agg #[.int .i64 0, .int .i64 0]), 2, 16) := by kernel_rfl
set_option maxRecDepth 100000 in
set_option maxHeartbeats 4000000 in
theorem rrising_any (v : Value) (l : List Sm) (hl : l.length ≤ 9223372036854775807) (w : World) (hP : PairsIs w v l) :
    Calls Try.prog 43 #[v] w fun e w' => e = .returned (.bool (rising l)) ∧ Fr0 w w' := by
  obtain ⟨A, C, rfl⟩ := pairs_form hP
  have HP := Lib.hid hP
  clear hP
  have HEND : Hid (∀ i, l.length ≤ i → Ris (l.take i) → rising l = true) := Lib.hid (fun i h h2 => by rw [List.take_of_length_le h] at h2; exact (rising_iff l).2 h2)
  have HSHORT : Hid (l.length ≤ 1 → rising l = true) := Lib.hid (fun h => (rising_iff l).2 (ris_short h))
  have HBAD : Hid (∀ i, i < l.length → 1 ≤ i → (l.getD i (0, 0)).1 ≤ (l.getD (i - 1) (0, 0)).1 → rising l = false) := Lib.hid (fun i => ris_bad)
  have HST : Hid (Ris (l.take 1)) := Lib.hid (ris_short (by rw [List.length_take]; omega))
  generalize rising l = r at *
  generalize hN : l.length = N at *
  have HN := Lib.hid hN
  clear hN
  go_enter Try.func43, Try.ntmps43
  go_wp2_with fail
  go_loopg [3] N (fun kx vi wr => ∃ (i : Nat), vi = .int .i64 (i : Int) ∧ 1 ≤ i ∧ (i ≤ N ∨ i = 1) ∧ N - i ≤ kx ∧ Hid (Ris (l.take i)) ∧ Hid (Fr0 w wr))
  case atStart => exact ⟨1, rfl, Nat.le_refl _, .inr rfl, by omega, HST, Lib.hid (Fr.refl _ _)⟩
  case round =>
    obtain ⟨i, rfl, hi1, hi2, hk, HR, HF⟩ := hrel
    by_cases hlt : i < N
    · obtain ⟨pb, po, rfl, hc⟩ := pairs_at HP.out i (by have := HN.out; omega)
      obtain ⟨pb', po', hpq, hc'⟩ := pairs_at HP.out (i - 1) (by have := HN.out; omega)
      cases hpq
      have d0 := (hc wr HF.out).1
      have e0 := (hc' wr HF.out).1
      have i1 : (i : Int) < (N : Int) := by omega
      have i2 : 0 ≤ (i : Int) := by omega
      obtain ⟨k, hik⟩ : ∃ k, i = k + 1 := ⟨i - 1, by omega⟩
      subst hik
      simp only [Nat.add_sub_cancel] at e0 HBAD
      have HB := Lib.hid (HBAD.out (k + 1) hlt (by omega))
      have HNX : Hid ((l.getD k (0, 0)).1 < (l.getD (k + 1) (0, 0)).1 → Ris (l.take (k + 1 + 1))) := Lib.hid (fun h => ris_next (i := k + 1) (by have := HN.out; omega) (by omega) HR.out (by rw [Nat.add_sub_cancel]; exact h))
      simp only [Nat.add_sub_cancel] at HB
      clear hc hc' HR
      generalize (l.getD k (0, 0)).1 = x at *
      generalize (l.getD (k + 1) (0, 0)).1 = y at *
      have hc1 : ((k + 1 : Nat) : Int) - 1 = (k : Int) := by omega
      have hk3 : (k : Int) < (N : Int) := by omega
      have hk4 : 0 ≤ (k : Int) := by omega
      by_cases hxy : y ≤ x
      · have HE := Lib.hid (HB.out hxy)
        go_wp2
        go_quiet (fail)
        have HF4 := Lib.hid (HF.out.trans' ((Fr.refl (fun _ => False) wr).drewN nq))
        generalize wr.drewN nq = w4 at *
        go_wp2
        go_ret
        exact ⟨by rw [HE.out]; rfl, HF4.out⟩
      · have HR2 := Lib.hid (HNX.out (by omega))
        go_wp2
        go_quiet (fail)
        have HF4 := Lib.hid (HF.out.trans' ((Fr.refl (fun _ => False) wr).drewN nq))
        generalize wr.drewN nq = w4 at *
        clear d0 e0
        go_wp2
        go_roundg (N - (k + 1 + 1))
        case measure => omega
        case rel => exact ⟨k + 1 + 1, by simp, by omega, by omega, by omega, HR2, HF4⟩
    · have HE : Hid (r = true) := Lib.hid (by
        rcases hi2 with h | h
        · exact HEND.out i (by omega) HR.out
        · exact HSHORT.out (by omega))
      go_wp2
      go_ret
      exact ⟨by rw [HE.out]; rfl, HF.out⟩
def AddPost (l m : List Sm) (r : Int) (w : World) (e : Ending) (w' : World) : Prop := ∃ v, e = .returned (.tuple #[v, .int .i64 (addErr l m r)]) ∧ PairsIs w' v (addOut l m r) ∧ Fr0 w w'
/-- .. and the block that it lies in is of samples -/
def AddPostT (l m : List Sm) (r : Int) (w : World) (e : Ending) (w' : World) : Prop := ∃ v, e = .returned (.tuple #[v, .int .i64 (addErr l m r)]) ∧ PairsIs w' v (addOut l m r) ∧ Fr0 w w' ∧ Typ w' 80 v (addOut l m r) ∧ (∀ a n c, v = .slice (some a) n c → 0 < (addOut l m r).length → w.heap.size ≤ a.block)
set_option maxRecDepth 100000 in
set_option maxHeartbeats 4000000 in
theorem radd_typ (v u : Value) (l m : List Sm) (r : Int) (hl : l.length ≤ 1000000) (hm : m.length ≤ 1000000) (w : World) (hP : PairsIs w v l) (hQ : PairsIs w u m) :
    Calls Try.prog 33 #[v, u, .int .i64 r] w (AddPostT l m r w) := by
  obtain ⟨A, C, rfl⟩ := pairs_form hP
  obtain ⟨B, D, rfl⟩ := pairs_form hQ
  have HP := Lib.hid (pairs_vals hP)
  have HQ := Lib.hid (pairs_vals hQ)
  have hris := rrising_any (.slice A l.length C) l (by omega) w hP
  have HIN := Lib.hid (rin_any r 1 64)
  have HARG : Hid ((rising l && inn r 1 64) = false → addErr l m r = 1 ∧ addOut l m r = []) := Lib.hid add_arg
  have HORD : Hid (rising l = true → inn r 1 64 = true → rising (l ++ m) = false → addErr l m r = 8 ∧ addOut l m r = []) := Lib.hid (fun h1 h2 h3 => add_order ((rising_iff _).1 h1) ((inn_iff _ _ _).1 h2) (fun h => by rw [(rising_iff _).2 h] at h3; cases h3))
  have HYES : Hid (rising l = true → inn r 1 64 = true → rising (l ++ m) = true → addErr l m r = 0 ∧ addOut l m r = (l ++ m).drop ((l ++ m).length - r.toNat)) := Lib.hid (fun h1 h2 h3 => add_yes ((rising_iff _).1 h1) ((inn_iff _ _ _).1 h2) ((rising_iff _).1 h3))
  have HIFF : Hid (inn r 1 64 = true → 1 ≤ r ∧ r ≤ 64) := Lib.hid (inn_iff _ _ _).1
  have HRA := Lib.hid (fun v w => rrising_any v (l ++ m) (by rw [List.length_append]; omega) w)
  have HOWN : Hid (∀ (w : World) (v : Value) n, w.ownsRow w.heap.size 80 2 v n (pcells (l ++ m)) → True) := Lib.hid (fun _ _ _ _ => trivial)
  clear HOWN
  have HPC : Hid (pcells l ++ pcells m = pcells (l ++ m)) := Lib.hid (pcells_append l m).symm
  have HLM : Hid ((l ++ m).length = l.length + m.length) := Lib.hid List.length_append
  have HPL : Hid ((pcells l).length = l.length * 2) := Lib.hid (pcells_length l)
  have HQL : Hid ((pcells m).length = m.length * 2) := Lib.hid (pcells_length m)
  have HP1 := Lib.hid (pcells_one l)
  have HQ1 := Lib.hid (pcells_one m)
  unfold AddPostT
  clear hP hQ
  generalize l ++ m = lm at *
  generalize addErr l m r = er at *
  generalize addOut l m r = out at *
  generalize rising l = b0 at *
  generalize inn r 1 64 = b1 at *
  generalize rising lm = b2 at *
  generalize hL : l.length = L at *
  generalize hM : m.length = M at *
  have HMM := Lib.hid hM
  have HLL := Lib.hid hL
  clear hL hM
  have hin := HIN.out
  clear HIN
  cases b0 with
  | false =>
    obtain ⟨rfl, rfl⟩ := HARG.out rfl
    go_enter Try.func33, Try.ntmps33
    go_wp2_with fail
    refine hris.mono ?_
    clear hris
    rintro e w1 ⟨rfl, hF⟩
    have HF := Lib.hid hF
    clear hF
    go_wp2
    go_ret2
    exact ⟨_, rfl, pairs_nil _, HF.out, typ_nil _ _ _ _ _, fun _ _ _ h => by cases h⟩
  | true =>
    have HIN1 := Lib.hid hin
    clear hin
    go_enter Try.func33, Try.ntmps33
    go_wp2_with fail
    refine hris.mono ?_
    clear hris
    rintro e w1 ⟨rfl, hF⟩
    have HF := Lib.hid hF
    clear hF
    go_wp2_with fail
    refine (HIN1.out _).mono ?_
    rintro e wq ⟨rfl, rfl⟩
    cases b1 with
    | false =>
      obtain ⟨rfl, rfl⟩ := HARG.out rfl
      go_wp2
      go_ret2
      exact ⟨_, rfl, pairs_nil _, HF.out, typ_nil _ _ _ _ _, fun _ _ _ h => by cases h⟩
    | true =>
      obtain ⟨r1, r2⟩ := HIFF.out rfl
      have HF0 := Lib.hid ((Fr.refl (fun _ => False) w1).alloc (.cells #[] 80))
      have HO0 := Lib.hid (owns_none w1 w1.heap.size 80 (Nat.le_refl _) _ rfl)
      have HPA := Lib.hid ((HP.out.fr0 HF.out).fr0 HF0.out)
      have HQA := Lib.hid ((HQ.out.fr0 HF.out).fr0 HF0.out)
      go_wp2_with (first
        | ((refine wpList_append_valsM rfl (.tmp 17) (.tmp 18) 51 rfl (w1.heap.size) 80 Try.underlying51 (.agg #[.int .i64 0, .int .i64 0]) 2 16 infoR rfl (by decide) _ _ 0 L [] (pcells l) rfl rfl HO0.out HPA.out (by exact HPL.out) (HP1.out) (by unfold maxLen; omega) (by omega) (by exact HF0.out.size) ?_); intro v1 w2 hO1 hG1 _; rw [Nat.zero_add, List.nil_append] at hO1; have HO1 := Lib.hid hO1; obtain ⟨A1, C1, hv1, _⟩ := owns_form hO1; subst hv1; have HF1 : Hid (Fr0 w w2) := Lib.hid ((HF.out.trans' HF0.out).trans (Fr.of_grown (S := fun j => (Value.slice (some ⟨w1.heap.size, 0, none⟩) 0 0).ownBlock = some j) hG1 (fun k hk e => e)) (fun j hj e => by have e' : w1.heap.size = j := Option.some.inj e; have := HF.out.size; omega)); have HFS := Lib.hid (Nat.le_trans HF0.out.size (Fr.of_grown (S := fun j => (Value.slice (some ⟨w1.heap.size, 0, none⟩) 0 0).ownBlock = some j) hG1 (fun k hk e => e)).size); have HQB := Lib.hid (HQ.out.fr0 HF1.out); clear hO1 hG1)
        | ((refine wpList_append_valsM rfl (.tmp 19) (.tmp 20) 51 rfl (w1.heap.size) 80 Try.underlying51 (.agg #[.int .i64 0, .int .i64 0]) 2 16 infoR rfl (by decide) _ _ L M (pcells l) (pcells m) rfl rfl HO1.out HQB.out (by exact HQL.out) (HQ1.out) (by unfold maxLen; omega) (by omega) (by exact HFS.out) ?_); intro v2 w3 hO2 hG2 _; rw [HPC.out] at hO2; have HO2 := Lib.hid hO2; obtain ⟨A2, C2, hv2, _⟩ := owns_form hO2; subst hv2; have HF2 : Hid (Fr0 w w3) := Lib.hid (HF1.out.trans (Fr.of_grown (S := fun j => (Value.slice A1 L C1).ownBlock = some j) hG2 (fun k hk e => e)) (fun j hj e => by have := (HO1.out.lt j e).1; have := HF.out.size; omega)); clear hO2 hG2))
      have HPP := Lib.hid (pairs_own HO2.out HLM.out.symm)
      have HTY := Lib.hid (own_typ HO2.out)
      have HNW : Hid (∀ q, A2 = some q → w.heap.size ≤ q.block) := Lib.hid (fun q hq => by
        obtain ⟨A9, C9, hv9, h9⟩ := owns_form HO2.out
        cases hv9
        exact Nat.le_trans HF.out.size (h9 q hq).1)
      have hra := HRA.out _ w3 HPP.out
      clear HO0 HPA HQA HO1 HQB HO2 HF0 HFS
      refine hra.mono ?_
      clear hra
      rintro e w4 ⟨rfl, hF4⟩
      have HF4 := Lib.hid (HF2.out.trans' hF4)
      have HP4 := Lib.hid (HPP.out.fr0 hF4)
      have HT4 : Hid (∀ q, A2 = some q → ∃ cs fr, w4.heap[q.block]? = some (.cells cs 80 fr)) := Lib.hid (fun q hq => let ⟨cs, fr, hh⟩ := HTY.out q hq; ⟨cs, fr, hF4.heap hh (fun f => f)⟩)
      clear HTY
      clear hF4 HPP HF2
      cases b2 with
      | false =>
        obtain ⟨rfl, rfl⟩ := HORD.out (by trivial) (by trivial) (by trivial)
        go_wp2
        go_ret2
        exact ⟨_, rfl, pairs_nil _, HF4.out, typ_nil _ _ _ _ _, fun _ _ _ h => by cases h⟩
      | true =>
        obtain ⟨rfl, hout⟩ := HYES.out (by trivial) (by trivial) (by trivial)
        by_cases hbig : r < ((L + M : Nat) : Int)
        · obtain ⟨A5, C5, hp5, hs5, hb5⟩ := cut_pairs (P := Try.prog) 51 80 Try.underlying51 (by kernel_rfl) HP4.out (L + M - r.toNat) (by rw [HLM.out]; omega) (((L + M : Nat) : Int) - r) (by omega)
          rw [HLM.out] at hp5 hs5 hout
          rw [← hout] at hp5
          have HP5 := Lib.hid hp5
          have HT5 : Hid (Typ w4 80 (.slice A5 (L + M - (L + M - r.toNat)) C5) out) := Lib.hid (fun a n c hv _ => by
            cases hv
            obtain ⟨p, hp, hb⟩ := hb5 _ rfl
            rw [hb]
            exact HT4.out p hp)
          have HN5 : Hid (∀ a n c, Value.slice A5 (L + M - (L + M - r.toNat)) C5 = .slice (some a) n c → 0 < out.length → w.heap.size ≤ a.block) := Lib.hid (fun a n c hv _ => by
            cases hv
            obtain ⟨p, hp, hb⟩ := hb5 _ rfl
            rw [hb]
            exact HNW.out p hp)
          clear hb5
          have h1 : (L : Int) + (M : Int) = ((L + M : Nat) : Int) := by omega
          clear hp5 hout
          generalize L + M = K at *
          go_wp2
          go_ret2
          exact ⟨_, rfl, HP5.out, HF4.out, HT5.out, HN5.out⟩
        · have HP5 : Hid (PairsIs w4 (.slice A2 (L + M) C2) out) := Lib.hid (by
            rw [hout, HLM.out, show L + M - r.toNat = 0 by omega, List.drop_zero]
            exact HP4.out)
          have h1 : (L : Int) + (M : Int) = ((L + M : Nat) : Int) := by omega
          clear hout
          generalize L + M = K at *
          go_wp2
          go_ret2
          exact ⟨_, rfl, HP5.out, HF4.out, fun a n c hv _ => HT4.out a (by cases hv; rfl), fun a n c hv _ => HNW.out a (by cases hv; rfl)⟩
theorem radd_any (v u : Value) (l m : List Sm) (r : Int) (hl : l.length ≤ 1000000) (hm : m.length ≤ 1000000) (w : World) (hP : PairsIs w v l) (hQ : PairsIs w u m) :
    Calls Try.prog 33 #[v, u, .int .i64 r] w (AddPost l m r w) := (radd_typ v u l m r hl hm w hP hQ).mono fun _ _ ⟨v, h1, h2, h3, _⟩ => ⟨v, h1, h2, h3⟩
set_option maxRecDepth 100000 in
set_option maxHeartbeats 4000000 in
theorem rrange_any (v : Value) (l : List Sm) (f t : Int) (hl : l.length ≤ 1000000) (w : World) (hP : PairsIs w v l) :
    Calls Try.prog 32 #[v, .int .i64 f, .int .i64 t] w fun e w' => ∃ v', e = .returned v' ∧ PairsIs w' v' (rangeOf l f t) ∧ Fr0 w w' := by
  obtain ⟨A, C, rfl⟩ := pairs_form hP
  have HP := Lib.hid hP
  clear hP
  have HEND : Hid (∀ i, l.length ≤ i → rangeOf (l.take i) f t = rangeOf l f t) := Lib.hid (fun i h => by rw [List.take_of_length_le h])
  have HNX := Lib.hid (range_next l f t)
  have HST : Hid (rangeOf (l.take 0) f t = []) := Lib.hid rfl
  generalize hN : l.length = N at *
  have HN := Lib.hid hN
  clear hN
  go_enter Try.func32, Try.ntmps32
  go_wp2_with fail
  go_loopg [7, 8] N (fun kx vr vi wr => ∃ (i n : Nat) (X : List Sm) (Ab : Option Addr) (Cb : Nat), vi = .int .i64 (i : Int) ∧ vr = .slice Ab n Cb ∧ i ≤ N ∧ N - i ≤ kx ∧ n ≤ i ∧ Hid (X.length = n) ∧ Hid (rangeOf (l.take i) f t = X) ∧ Hid (wr.ownsRow w.heap.size 80 2 (.slice Ab n Cb) n (pcells X)) ∧ Hid (Fr0 w wr))
  case atStart => exact ⟨0, 0, [], none, 0, rfl, rfl, Nat.zero_le _, by omega, Nat.le_refl _, Lib.hid rfl, HST, Lib.hid (World.ownsRow_nil _ _ _ _), Lib.hid (Fr.refl _ _)⟩
  case round =>
    obtain ⟨i, n, X, Ab, Cb, rfl, rfl, hi, hk, hn, HXL, HX, HO, HF⟩ := hrel
    by_cases hlt : i < N
    · obtain ⟨pb, po, rfl, hc⟩ := pairs_at HP.out i (by have := HN.out; omega)
      obtain ⟨d0, d1⟩ := hc wr HF.out
      have i1 : (i : Int) < (N : Int) := by omega
      have i2 : 0 ≤ (i : Int) := by omega
      have hnx := HNX.out i hlt
      rw [HX.out] at hnx
      have HB := Lib.hid (between_iff f t (l.getD i (0, 0)))
      have HNXT : Hid (rangeOf (l.take (i + 1)) f t = if between f t (l.getD i (0, 0)) = true then X ++ [((l.getD i (0, 0)).1, (l.getD i (0, 0)).2)] else X) := Lib.hid hnx
      clear hc hnx
      generalize between f t (l.getD i (0, 0)) = bt at *
      generalize (l.getD i (0, 0)).1 = x at *
      generalize (l.getD i (0, 0)).2 = y at *
      by_cases h1 : f ≤ x
      · by_cases h2 : x ≤ t
        · obtain rfl : bt = true := HB.out.2 ⟨h1, h2⟩
          have HFL := Lib.hid ((Fr.refl (fun _ => False) wr).alloc (.cells #[.int .i64 x, .int .i64 y] 80))
          have HOL := Lib.hid (ownsFr HFL.out HO.out (fun _ _ f => f))
          have HPL := Lib.hid (pair_lit wr x y 80)
          have HWS := Lib.hid (Nat.le_trans HF.out.size HFL.out.size)
          go_wp2_with ((refine wpList_append_valsM rfl (.tmp 31) (.tmp 36) 51 rfl (w.heap.size) 80 Try.underlying51 (.agg #[.int .i64 0, .int .i64 0]) 2 16 infoR rfl (by decide) _ _ n 1 (pcells X) [.int .i64 x, .int .i64 y] rfl rfl HOL.out HPL.out (by rfl) (by intro u hu; simp at hu; rcases hu with rfl | rfl <;> rfl) (by unfold maxLen; omega) (by omega) (by exact HWS.out) ?_); intro v1 w2 hO1 hG1 _; obtain ⟨A1, C1, hv1, _⟩ := owns_form hO1; subst hv1; have HO1 : Hid (w2.ownsRow w.heap.size 80 2 (.slice A1 (n + 1) C1) (n + 1) (pcells (X ++ [(x, y)]))) := Lib.hid (by rw [pcells_append]; exact hO1); have HF1 : Hid (Fr0 w w2) := Lib.hid ((HF.out.trans' HFL.out).trans (Fr.of_grown (S := fun j => (Value.slice Ab n Cb).ownBlock = some j) hG1 (fun k hk e => e)) (fun j hj e => by have := (HOL.out.lt j e).1; omega)); clear hO1 hG1)
          have HXL1 : Hid ((X ++ [(x, y)]).length = n + 1) := Lib.hid (by rw [List.length_append, HXL.out]; rfl)
          have HX1 : Hid (rangeOf (l.take (i + 1)) f t = X ++ [(x, y)]) := Lib.hid HNXT.out
          clear HFL HOL HPL HWS HO HX HXL HNXT HB d0 d1
          generalize X ++ [(x, y)] = X2 at *
          go_roundg (N - (i + 1))
          case measure => omega
          case rel => exact ⟨i + 1, n + 1, X2, A1, C1, by simp, rfl, by omega, by omega, by omega, HXL1, HX1, HO1, HF1⟩
        · obtain rfl : bt = false := by rw [Bool.eq_false_iff]; intro h; exact h2 (HB.out.1 h).2
          have HX1 : Hid (rangeOf (l.take (i + 1)) f t = X) := Lib.hid HNXT.out
          go_wp2
          go_roundg (N - (i + 1))
          case measure => omega
          case rel => exact ⟨i + 1, n, X, Ab, Cb, by simp, rfl, by omega, by omega, by omega, HXL, HX1, HO, HF⟩
      · obtain rfl : bt = false := by rw [Bool.eq_false_iff]; intro h; exact h1 (HB.out.1 h).1
        have HX1 : Hid (rangeOf (l.take (i + 1)) f t = X) := Lib.hid HNXT.out
        go_wp2
        go_roundg (N - (i + 1))
        case measure => omega
        case rel => exact ⟨i + 1, n, X, Ab, Cb, by simp, rfl, by omega, by omega, by omega, HXL, HX1, HO, HF⟩
    · have HE : Hid (PairsIs wr (.slice Ab n Cb) (rangeOf l f t)) := Lib.hid (by
        rw [← HEND.out i (by omega), HX.out]
        exact pairs_own HO.out HXL.out.symm)
      go_wp2
      go_ret
      exact ⟨_, rfl, HE.out, HF.out⟩
end Go.Proofs.Ytbbmjkligiglmaa.Series
