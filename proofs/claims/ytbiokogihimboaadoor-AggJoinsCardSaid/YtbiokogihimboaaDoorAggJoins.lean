/-
  AggJoins walked.
-/
import Derived.Test.YtbiokogihimboaaDoorAggAwake
import Derived.Test.YtbiokogihimboaaDoorAggJoin
namespace Go.Proofs.YtbiokogihimboaaDoor.AggL
open Go.RowKit Base _root_.Go.Proofs.YtbiokogihimboaaDoor.Series _root_.Go.Proofs.YtbiokogihimboaaDoor.Agg

theorem of_c (l : List Sm) : (agOf l).c = (l.length : Int) := by
  show ((vsOf l).length : Int) = _
  rw [vs_length]
set_option maxRecDepth 100000 in
set_option maxHeartbeats 8000000 in
theorem aggJoins_walk (v u : Value) (l m : List Sm) (hs : SizedS l) (hs2 : SizedS m) (w : World) (hP : PairsIs w v l) (hQ : PairsIs w u m) (hL : Laid w) :
    Calls Tryd.prog 5 #[v, u] w fun e w' => e = .returned (.bool true) ∧ Fr0 w w' := by
  obtain ⟨A, C, rfl⟩ := pairs_form hP
  obtain ⟨B, D, rfl⟩ := pairs_form hQ
  have HP := Lib.hid hP
  have HQ := Lib.hid hQ
  have HPV := Lib.hid (pairs_vals hP)
  have HQV := Lib.hid (pairs_vals hQ)
  have HL := Lib.hid hL
  obtain ⟨q1, q2, q3, q4, q5, q6⟩ := join_of (vsOf l) (vsOf m)
  rw [← vs_app] at q1 q2 q3 q4 q6
  have HOF0 : Hid (¬ 100 < l.length → ∀ w, PairsIs w (.slice A l.length C) l → Calls Tryd.prog 10 #[.slice A l.length C] w fun e w' => e = .returned (.agg (a6 (agOf l))) ∧ Fr0 w w') := Lib.hid (fun h w hp => pof_any _ l (by omega) hs w hp)
  have HOF1 : Hid (¬ 100 < m.length → ∀ w, PairsIs w (.slice B m.length D) m → Calls Tryd.prog 10 #[.slice B m.length D] w fun e w' => e = .returned (.agg (a6 (agOf m))) ∧ Fr0 w w') := Lib.hid (fun h w hp => pof_any _ m (by omega) hs2 w hp)
  have HOF2 : Hid (¬ 100 < l.length → ¬ 100 < m.length → ∀ v w, PairsIs w v (l ++ m) → Calls Tryd.prog 10 #[v] w fun e w' => e = .returned (.agg (a6 (agOf (l ++ m)))) ∧ Fr0 w w') := Lib.hid (fun h h' v w hp => pof_any v (l ++ m) (by rw [List.length_append]; omega) (sized_app hs hs2) w hp)
  have HJO : Hid (¬ 100 < l.length → ¬ 100 < m.length → ∀ w, Calls Tryd.prog 13 #[.agg (a6 (agOf l)), .agg (a6 (agOf m))] w fun e w' => e = .returned (.agg (a6 (joinOf (agOf l) (agOf m)))) ∧ Fr0 w w') := Lib.hid (fun h h' w => pjoin_any _ _ (agOf_sized (by omega) hs) (agOf_sized (by omega) hs2) (by rw [of_c, of_c]; unfold Fit; omega) w)
  have HOX : Hid ((agOf l).o = true → 0 < l.length ∧ (agOf l).s = 0) := Lib.hid (fun h => by have := of_over h; rwa [vs_length] at this)
  have HOY : Hid ((agOf m).o = true → 0 < m.length ∧ (agOf m).s = 0) := Lib.hid (fun h => by have := of_over h; rwa [vs_length] at this)
  have hjt : (agOf l).o = true ∨ (agOf m).o = true → (joinOf (agOf l) (agOf m)).o = true ∧ (joinOf (agOf l) (agOf m)).s = 0 := fun h => q5 (by rw [Bool.or_eq_true]; exact h)
  have hjf : (agOf l).o = false → (agOf m).o = false → joinOf (agOf l) (agOf m) = agOf (l ++ m) := q6
  replace q1 : (joinOf (agOf l) (agOf m)).c = (agOf (l ++ m)).c := q1
  replace q2 : (joinOf (agOf l) (agOf m)).n = (agOf (l ++ m)).n := q2
  replace q3 : (joinOf (agOf l) (agOf m)).x = (agOf (l ++ m)).x := q3
  replace q4 : (joinOf (agOf l) (agOf m)).l = (agOf (l ++ m)).l := q4
  have HPC : Hid (pcells l ++ pcells m = pcells (l ++ m)) := Lib.hid (pcells_append l m).symm
  have HLM : Hid ((l ++ m).length = l.length + m.length) := Lib.hid List.length_append
  have HPL : Hid ((pcells l).length = l.length * 2) := Lib.hid (pcells_length l)
  have HQL : Hid ((pcells m).length = m.length * 2) := Lib.hid (pcells_length m)
  have HP1 := Lib.hid (pcells_one l)
  have HQ1 := Lib.hid (pcells_one m)
  clear hP hQ hL q5 q6 hs hs2
  generalize l ++ m = lm at *
  generalize joinOf (agOf l) (agOf m) = jj at *
  generalize agOf lm = aa at *
  generalize agOf l = x at *
  generalize agOf m = y at *
  obtain ⟨c, s1, n, t, la, o1⟩ := jj
  obtain ⟨c', s2, n', t', la', o2⟩ := aa
  simp only at q1 q2 q3 q4
  subst q1 q2 q3 q4
  have HJT : Hid (x.o = true ∨ y.o = true → o1 = true ∧ s1 = 0) := Lib.hid hjt
  have HJF : Hid (x.o = false → y.o = false → s1 = s2 ∧ o1 = o2) := Lib.hid (fun h1 h2 => by have h := hjf h1 h2; simp only [Ag.mk.injEq] at h; exact ⟨h.2.1, h.2.2.2.2.2⟩)
  rw [show a6 x = #[.int .i64 x.c, .int .i64 x.s, .int .i64 x.n, .int .i64 x.x, .int .i64 x.l, .bool x.o] from rfl] at HOF0 HJO
  rw [show a6 y = #[.int .i64 y.c, .int .i64 y.s, .int .i64 y.n, .int .i64 y.x, .int .i64 y.l, .bool y.o] from rfl] at HOF1 HJO
  rw [show a6 ⟨c, s1, n, t, la, o1⟩ = #[.int .i64 c, .int .i64 s1, .int .i64 n, .int .i64 t, .int .i64 la, .bool o1] from rfl] at HJO
  rw [show a6 ⟨c, s2, n, t, la, o2⟩ = #[.int .i64 c, .int .i64 s2, .int .i64 n, .int .i64 t, .int .i64 la, .bool o2] from rfl] at HOF2
  clear hjt hjf
  generalize hLL : l.length = L at *
  generalize hMM : m.length = M at *
  have HLL := Lib.hid hLL
  have HMM := Lib.hid hMM
  clear hLL hMM
  go_enter Tryd.func5, Tryd.ntmps5
  go_wp2_with fail
  refine (awake_any _ HL.out).mono ?_
  rintro e w1 ⟨rfl, hF⟩
  have HF1 := Lib.hid hF
  clear hF
  by_cases h1 : 100 < L
  · go_wp2
    go_ret
    exact ⟨rfl, HF1.out⟩
  by_cases h2 : 100 < M
  · go_wp2
    go_ret
    exact ⟨rfl, HF1.out⟩
  have hx := HOF0.out h1 _ (HP.out.fr0 HF1.out)
  go_wp2_with fail
  refine hx.mono ?_
  clear hx
  rintro e w2 ⟨rfl, hF⟩
  have HF2 := Lib.hid (HF1.out.trans' hF)
  clear hF HF1
  have hy := HOF1.out h2 _ (HQ.out.fr0 HF2.out)
  go_wp2_with fail
  refine hy.mono ?_
  clear hy
  rintro e w3 ⟨rfl, hF⟩
  have HF3 := Lib.hid (HF2.out.trans' hF)
  clear hF HF2
  have hbx := (Bx.new 24 w3 x).fr0 ((Fr.refl _ _).alloc (.cells #[.int .i64 y.c, .int .i64 y.s, .int .i64 y.n, .int .i64 y.x, .int .i64 y.l, .bool y.o] 24))
  have hby := Bx.new 24 (w3.alloc (.cells #[.int .i64 x.c, .int .i64 x.s, .int .i64 x.n, .int .i64 x.x, .int .i64 x.l, .bool x.o] 24)) y
  rw [World.size_alloc] at hby
  have hf4 : Fr0 w ((w3.alloc (.cells #[.int .i64 x.c, .int .i64 x.s, .int .i64 x.n, .int .i64 x.x, .int .i64 x.l, .bool x.o] 24)).alloc (.cells #[.int .i64 y.c, .int .i64 y.s, .int .i64 y.n, .int .i64 y.x, .int .i64 y.l, .bool y.o] 24)) := (HF3.out.alloc _).alloc _
  have hjo := HJO.out h1 h2 ((w3.alloc (.cells #[.int .i64 x.c, .int .i64 x.s, .int .i64 x.n, .int .i64 x.x, .int .i64 x.l, .bool x.o] 24)).alloc (.cells #[.int .i64 y.c, .int .i64 y.s, .int .i64 y.n, .int .i64 y.x, .int .i64 y.l, .bool y.o] 24))
  have HBX := Lib.hid hbx
  have HBY := Lib.hid hby
  have HF4 := Lib.hid hf4
  clear hbx hby hf4 HF3
  go_wp2_with fail
  refine hjo.mono ?_
  clear hjo
  rintro e w5 ⟨rfl, hF⟩
  have HF5 := Lib.hid (HF4.out.trans' hF)
  have HBX5 := Lib.hid (HBX.out.fr0 hF)
  have HBY5 := Lib.hid (HBY.out.fr0 hF)
  clear hF HF4 HBX HBY
  have HE0 := Lib.hid (owns_none w5 w5.heap.size 44 (Nat.le_refl _) _ rfl)
  have HFE := Lib.hid ((Fr.refl (fun _ => False) w5).alloc (.cells #[] 44))
  have HPA := Lib.hid ((HPV.out.fr0 HF5.out).fr0 HFE.out)
  have HQA := Lib.hid ((HQV.out.fr0 HF5.out).fr0 HFE.out)
  have HSZ5 : Hid (w5.heap.size ≤ (w5.alloc (.cells #[] 44)).heap.size) := Lib.hid HFE.out.size
  go_wp2_with (first
    | (refine wpList_append_valsM rfl (.tmp 26) (.tmp 27) 26 rfl w5.heap.size 44 Tryd.underlying26 (.agg #[.int .i64 0, .int .i64 0]) 2 16 infoS rfl (by decide) _ _ 0 L [] (pcells l) rfl rfl HE0.out HPA.out (by exact HPL.out) (HP1.out) (by unfold maxLen; omega) (by omega) (by exact HSZ5.out) ?_; intro v1 w6 hO1 hG1 _; rw [Nat.zero_add, List.nil_append] at hO1; obtain ⟨A1, C1, hv1, _⟩ := owns_form hO1; subst hv1; have HO1 := Lib.hid hO1; have HFR6 : Hid (Fr0 w5 w6) := Lib.hid (HFE.out.trans (Fr.of_grown (S := fun j => (Value.slice (some (⟨w5.heap.size, 0, none⟩ : Addr)) 0 0).ownBlock = some j) hG1 (fun k hk e => e)) (fun j hj e => by have := (HE0.out.lt j e).1; omega)); have HQB := Lib.hid ((HQV.out.fr0 HF5.out).fr0 HFR6.out); have HSZ6 : Hid (w5.heap.size ≤ w6.heap.size) := Lib.hid HFR6.out.size; clear hO1 hG1)
    | (refine wpList_append_valsM rfl (.tmp 28) (.tmp 29) 26 rfl w5.heap.size 44 Tryd.underlying26 (.agg #[.int .i64 0, .int .i64 0]) 2 16 infoS rfl (by decide) _ _ L M (pcells l) (pcells m) rfl rfl HO1.out HQB.out (by exact HQL.out) (HQ1.out) (by unfold maxLen; omega) (by omega) (by exact HSZ6.out) ?_; intro v2 w7 hO2 hG2 _; rw [HPC.out] at hO2; obtain ⟨A2, C2, hv2, _⟩ := owns_form hO2; subst hv2; have HO2 := Lib.hid hO2; have HFR7 : Hid (Fr0 w5 w7) := Lib.hid (HFR6.out.trans (Fr.of_grown (S := fun j => (Value.slice A1 L C1).ownBlock = some j) hG2 (fun k hk e => e)) (fun j hj e => by have := (HO1.out.lt j e).1; omega)); clear hO2 hG2))
  have HF7 := Lib.hid (HF5.out.trans' HFR7.out)
  have HBX7 := Lib.hid (HBX5.out.fr0 HFR7.out)
  have HBY7 := Lib.hid (HBY5.out.fr0 HFR7.out)
  have hal := HOF2.out h1 h2 _ w7 (pairs_own HO2.out HLM.out.symm)
  clear HF5 HE0 HFE HPA HQA HSZ5 HO1 HFR6 HQB HSZ6 HO2 HFR7 HBX5 HBY5
  refine hal.mono ?_
  clear hal
  rintro e w8 ⟨rfl, hF⟩
  have HF8 := Lib.hid (HF7.out.trans' hF)
  have HBX8 := Lib.hid (HBX7.out.fr0 hF)
  have HBY8 := Lib.hid (HBY7.out.fr0 hF)
  clear hF HF7 HBX7 HBY7
  have hfe := ((Fr.refl (fun _ => False) w8).alloc (.cells #[.int .i64 c, .int .i64 s1, .int .i64 n, .int .i64 t, .int .i64 la, .bool o1] 24)).alloc (.cells #[.int .i64 c, .int .i64 s2, .int .i64 n, .int .i64 t, .int .i64 la, .bool o2] 24)
  obtain ⟨-, -, -, -, -, x5⟩ := (HBX8.out.fr0 hfe).cells
  obtain ⟨-, -, -, -, -, y5⟩ := (HBY8.out.fr0 hfe).cells
  have HFX := Lib.hid (HF8.out.trans' hfe)
  clear hfe HF8 HBX8 HBY8
  cases hxo : x.o with
  | true =>
    obtain ⟨h3, h4⟩ := HOX.out hxo
    obtain ⟨rfl, rfl⟩ := HJT.out (.inl hxo)
    rw [hxo] at x5
    have h3' : (0 : Int) < (L : Int) := by omega
    clear HJT HJF HOX HOY
    go_wp2
    go_ret
    exact ⟨rfl, HFX.out⟩
  | false =>
    rw [hxo] at x5
    cases hyo : y.o with
    | true =>
      obtain ⟨h3, h4⟩ := HOY.out hyo
      obtain ⟨rfl, rfl⟩ := HJT.out (.inr hyo)
      rw [hyo] at y5
      have h3' : (0 : Int) < (M : Int) := by omega
      clear HJT HJF HOX HOY
      go_wp2
      go_ret
      exact ⟨rfl, HFX.out⟩
    | false =>
      rw [hyo] at y5
      obtain ⟨rfl, rfl⟩ := HJF.out hxo hyo
      have heq := fun w => eq_go ⟨c, s1, n, t, la, o1⟩ w
      clear HJT HJF HOX HOY
      go_wp2
      go_ret
      exact ⟨rfl, HFX.out⟩
end Go.Proofs.YtbiokogihimboaaDoor.AggL
