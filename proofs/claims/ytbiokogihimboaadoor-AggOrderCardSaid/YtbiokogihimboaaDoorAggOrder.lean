/-
  AggOrder walked.
-/
import Derived.Test.YtbiokogihimboaaDoorAggAwake
namespace Go.Proofs.YtbiokogihimboaaDoor.AggL
open Go.RowKit Base _root_.Go.Proofs.YtbiokogihimboaaDoor.Series _root_.Go.Proofs.YtbiokogihimboaaDoor.Agg

theorem turn_get (l : List Sm) (K i : Nat) (hK : K < l.length) (hi : i < l.length) : (l.drop K ++ l.take K).getD i (0, 0) = l.getD ((i + K) % l.length) (0, 0) := by
  rw [List.getD_eq_getElem?_getD, List.getD_eq_getElem?_getD]
  rcases Nat.lt_or_ge (i + K) l.length with h | h
  · rw [List.getElem?_append_left (by rw [List.length_drop]; omega), List.getElem?_drop, Nat.mod_eq_of_lt h, Nat.add_comm]
  · rw [List.getElem?_append_right (by rw [List.length_drop]; omega), List.length_drop, List.getElem?_take_of_lt (by omega), Nat.mod_eq_sub_mod h, Nat.mod_eq_of_lt (by omega)]
    congr 2
    omega
theorem turn_next (l : List Sm) (K i : Nat) (hK : K < l.length) (hi : i < l.length) : pcells ((l.drop K ++ l.take K).take (i + 1)) = pcells ((l.drop K ++ l.take K).take i) ++ [.int .i64 (l.getD ((i + K) % l.length) (0, 0)).1, .int .i64 (l.getD ((i + K) % l.length) (0, 0)).2] := by
  have hlen : (l.drop K ++ l.take K).length = l.length := by rw [List.length_append, List.length_drop, List.length_take]; omega
  rw [← turn_get l K i hK hi]
  generalize l.drop K ++ l.take K = m at *
  have hx : i < m.length := by omega
  rw [List.take_add_one, List.getD_eq_getElem?_getD, List.getElem?_eq_getElem hx]
  simp only [Option.toList_some, Option.getD_some]
  rw [pcells_append]
  rfl
/-- but for the last one, it is the same in whatever order -/
theorem turn_ag (l : List Sm) (K : Nat) (h0 : 0 < l.length) : ∃ c s n x o l1 l2, agOf l = ⟨c, s, n, x, l1, o⟩ ∧ agOf (l.drop K ++ l.take K) = ⟨c, s, n, x, l2, o⟩ := by
  have ht : tot (vsOf (l.drop K ++ l.take K)) = tot (vsOf l) := by
    rw [vs_app, tot_app, Int.add_comm, ← tot_app, ← vs_app, List.take_append_drop]
  have hm : ∀ y, y ∈ vsOf l ↔ y ∈ vsOf (l.drop K ++ l.take K) := fun y => by
    rw [vs_app, List.mem_append, Or.comm, ← List.mem_append, ← vs_app, List.take_append_drop]
  have hl : (vsOf (l.drop K ++ l.take K)).length = (vsOf l).length := by
    rw [vs_length, vs_length, List.length_append, List.length_drop, List.length_take]
    omega
  have h1 := least_eq (by rw [vs_length]; exact h0) hm
  have h2 := great_eq (by rw [vs_length]; exact h0) hm
  refine ⟨((vsOf l).length : Int), if fits (tot (vsOf l)) = true then tot (vsOf l) else 0, least (vsOf l), great (vsOf l), !fits (tot (vsOf l)), lastV (vsOf l), lastV (vsOf (l.drop K ++ l.take K)), rfl, ?_⟩
  unfold agOf ofV
  rw [hl, ht, ← h1, ← h2]
set_option maxRecDepth 100000 in
set_option maxHeartbeats 8000000 in
theorem aggOrder_walk (v : Value) (l : List Sm) (tn : Int) (hs : SizedS l) (htn : -9223372036854775808 ≤ tn ∧ tn ≤ 9223372036854775807) (w : World) (hP : PairsIs w v l) (hL : Laid w) :
    Calls Tryd.prog 6 #[v, .int .i64 tn] w fun e w' => e = .returned (.bool true) ∧ Fr0 w w' := by
  obtain ⟨A, C, rfl⟩ := pairs_form hP
  have HP := Lib.hid hP
  have HL := Lib.hid hL
  have HOF0 : Hid (l.length ≤ 100 → ∀ w, PairsIs w (.slice A l.length C) l → Calls Tryd.prog 10 #[.slice A l.length C] w fun e w' => e = .returned (.agg (a6 (agOf l))) ∧ Fr0 w w') := Lib.hid (fun h w hp => pof_any _ l (by omega) hs w hp)
  have HMM : Hid (∀ K, K < l.length → (l.drop K ++ l.take K).length = l.length ∧ SizedS (l.drop K ++ l.take K) ∧ ∃ c s n x o l1 l2, agOf l = ⟨c, s, n, x, l1, o⟩ ∧ agOf (l.drop K ++ l.take K) = ⟨c, s, n, x, l2, o⟩) := Lib.hid (fun K hK => ⟨by rw [List.length_append, List.length_drop, List.length_take]; omega, sized_app (sized_sub hs (fun q h => List.mem_of_mem_drop h)) (sized_sub hs (fun q h => List.mem_of_mem_take h)), turn_ag l K (by omega)⟩)
  have HRR : Hid (∀ K, K < l.length → ∀ i, i < l.length → pcells ((l.drop K ++ l.take K).take (i + 1)) = pcells ((l.drop K ++ l.take K).take i) ++ [.int .i64 (l.getD ((i + K) % l.length) (0, 0)).1, .int .i64 (l.getD ((i + K) % l.length) (0, 0)).2]) := Lib.hid (fun K hK i hi => turn_next l K i hK hi)
  clear hP hL hs
  generalize hN : l.length = N at *
  have HN := Lib.hid hN
  clear hN
  go_enter Tryd.func6, Tryd.ntmps6
  go_wp2_with fail
  refine (awake_any _ HL.out).mono ?_
  rintro e w1 ⟨rfl, hF⟩
  have HF1 := Lib.hid hF
  clear hF
  by_cases h1 : N < 1
  · go_wp2
    go_ret
    exact ⟨rfl, HF1.out⟩
  by_cases h2 : 100 < N
  · go_wp2
    go_ret
    exact ⟨rfl, HF1.out⟩
  by_cases h3 : tn < 0
  · go_wp2
    go_ret
    exact ⟨rfl, HF1.out⟩
  obtain ⟨T, rfl⟩ := Int.eq_ofNat_of_zero_le (show 0 ≤ tn by omega)
  obtain ⟨K, hK⟩ : ∃ K, K = T % N := ⟨_, rfl⟩
  have hKN : K < N := by rw [hK]; exact Nat.mod_lt _ (by omega)
  have hm1 : Int.tmod (T : Int) (N : Int) = (K : Int) := by rw [hK, Int.ofNat_tmod]
  have hN0 : ((N : Int) == 0) = false := beq_eq_false_iff_ne.2 (by omega)
  have HMK := HMM.out K hKN
  have HRK := Lib.hid (HRR.out K hKN)
  clear hK HMM HRR
  obtain ⟨m, hm⟩ : ∃ m, m = l.drop K ++ l.take K := ⟨_, rfl⟩
  rw [← hm] at HMK HRK
  obtain ⟨hml, hms, hag⟩ := HMK
  have HMS := Lib.hid hms
  have HML := Lib.hid hml
  have HAG := Lib.hid hag
  clear hm hml hms hag
  have hNT : (T : Int) ≤ 9223372036854775807 := by omega
  go_wp2_with fail
  go_loopg [5, 6] N (fun kx vr vi wr => ∃ (i : Nat) (Ab : Option Addr) (Cb : Nat), vi = .int .i64 (i : Int) ∧ vr = .slice Ab i Cb ∧ i ≤ N ∧ N - i ≤ kx ∧ Hid (wr.ownsRow w.heap.size 44 2 (.slice Ab i Cb) i (pcells (m.take i))) ∧ Hid (Fr0 w wr))
  case atStart => exact ⟨0, none, 0, rfl, rfl, Nat.zero_le _, by omega, Lib.hid (World.ownsRow_nil _ _ _ _), HF1⟩
  case round =>
    clear HF1
    obtain ⟨i, Ab, Cb, rfl, rfl, hi, hk, HO, HF⟩ := hrel
    by_cases hlt : i < N
    · obtain ⟨R, hR⟩ : ∃ R, R = (i + K) % N := ⟨_, rfl⟩
      have hRN : R < N := by rw [hR]; exact Nat.mod_lt _ (by omega)
      have hm2 : Int.tmod ((i : Int) + (K : Int)) (N : Int) = (R : Int) := by rw [hR, show (i : Int) + (K : Int) = ((i + K : Nat) : Int) by omega, Int.ofNat_tmod]
      have hw : wrap64 ((i : Int) + (K : Int)) = (i : Int) + (K : Int) := by simp only [wrap64]; omega
      obtain ⟨pb, po, rfl, hc⟩ := pairs_at HP.out R (by have := HN.out; omega)
      obtain ⟨d0, d1⟩ := hc wr HF.out
      have hnx := HRK.out i hlt
      rw [← hR] at hnx
      have HNI := Lib.hid hnx
      have i1 : (i : Int) < (N : Int) := by omega
      have r1 : (R : Int) < (N : Int) := by omega
      have r2 : 0 ≤ (R : Int) := by omega
      clear hc hR hnx
      generalize (l.getD R (0, 0)).1 = px at *
      generalize (l.getD R (0, 0)).2 = py at *
      have HFL := Lib.hid ((Fr.refl (fun _ => False) wr).alloc (.cells #[.int .i64 px, .int .i64 py] 44))
      have HOL := Lib.hid (ownsFr HFL.out HO.out (fun _ _ f => f))
      have HPL := Lib.hid (pair_lit wr px py 44)
      have HWS := Lib.hid (Nat.le_trans HF.out.size HFL.out.size)
      have HFW := Lib.hid (HF.out.trans' HFL.out)
      go_wp2_with (refine wpList_append_valsM rfl (.tmp 29) (.tmp 42) 26 rfl (w.heap.size) 44 Tryd.underlying26 (.agg #[.int .i64 0, .int .i64 0]) 2 16 infoS rfl (by decide) _ _ i 1 (pcells (m.take i)) [.int .i64 px, .int .i64 py] rfl rfl HOL.out HPL.out (by rfl) (by intro u hu; simp at hu; rcases hu with rfl | rfl <;> rfl) (by unfold maxLen; omega) (by omega) (by exact HWS.out) ?_)
      intro v1 w2 hO1 hG1 _
      obtain ⟨A1, C1, hv1, _⟩ := owns_form hO1
      subst hv1
      have HO1 : Hid (w2.ownsRow w.heap.size 44 2 (.slice A1 (i + 1) C1) (i + 1) (pcells (m.take (i + 1)))) := Lib.hid (by rw [HNI.out]; exact hO1)
      have HF1 : Hid (Fr0 w w2) := Lib.hid (HFW.out.trans (Fr.of_grown (S := fun j => (Value.slice Ab i Cb).ownBlock = some j) hG1 (fun k hk e => e)) (fun j hj e => by have := (HOL.out.lt j e).1; omega))
      clear hO1 hG1 d0 d1
      go_wp2
      go_roundg (N - (i + 1))
      case measure => omega
      case rel => exact ⟨i + 1, A1, C1, by simp, rfl, by omega, by omega, HO1, HF1⟩
    · obtain rfl : i = N := by omega
      have HPM : Hid (PairsIs wr (.slice Ab i Cb) m) := Lib.hid (by
        have h := pairs_own HO.out (by rw [List.length_take, HML.out, Nat.min_self])
        rw [List.take_of_length_le (by rw [HML.out]; exact Nat.le_refl _)] at h
        exact h)
      have hl := HOF0.out (by omega) wr (HP.out.fr0 HF.out)
      have HO2 := Lib.hid (fun v w h => pof_any v m (by rw [HML.out]; omega) HMS.out w h)
      obtain ⟨c, s, n, x, o, l1, l2, e1, e2⟩ := HAG.out
      rw [e1] at hl
      rw [e2] at HO2
      rw [show a6 ⟨c, s, n, x, l1, o⟩ = #[.int .i64 c, .int .i64 s, .int .i64 n, .int .i64 x, .int .i64 l1, .bool o] from rfl] at hl
      rw [show a6 ⟨c, s, n, x, l2, o⟩ = #[.int .i64 c, .int .i64 s, .int .i64 n, .int .i64 x, .int .i64 l2, .bool o] from rfl] at HO2
      clear e1 e2 HAG HO
      go_wp2_with fail
      refine hl.mono ?_
      clear hl
      rintro e w2 ⟨rfl, hF⟩
      have HF2 := Lib.hid (HF.out.trans' hF)
      have hm2 := HO2.out _ w2 (HPM.out.fr0 hF)
      clear hF HF HPM HO2
      go_wp2_with fail
      refine hm2.mono ?_
      clear hm2
      rintro e w3 ⟨rfl, hF⟩
      have HF3 := Lib.hid (HF2.out.trans' hF)
      clear hF HF2
      have HFX : Hid (Fr0 w ((w3.alloc (.cells #[.int .i64 c, .int .i64 s, .int .i64 n, .int .i64 x, .int .i64 0, .bool o] 24)).alloc (.cells #[.int .i64 c, .int .i64 s, .int .i64 n, .int .i64 x, .int .i64 0, .bool o] 24))) := Lib.hid ((HF3.out.alloc _).alloc _)
      have heq := fun w => eq_go ⟨c, s, n, x, 0, o⟩ w
      go_wp2
      go_ret
      exact ⟨rfl, HFX.out⟩
end Go.Proofs.YtbiokogihimboaaDoor.AggL
