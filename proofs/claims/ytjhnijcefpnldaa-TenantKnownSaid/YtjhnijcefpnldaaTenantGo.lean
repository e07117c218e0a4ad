/-
  The program's Find, Budgets, All.
-/
import Derived.Test.YtjhnijcefpnldaaTenantGoGood
import Derived.Test.YtjhnijcefpnldaaLaw
import Derived.Deep.DeepCutAuto
import Derived.Deep.LoopGhost
namespace Go.Proofs.Ytjhnijcefpnldaa.Tenant
open Go.RowKit Base

theorem infoP : (Try.prog.info? 26).map (·.size) = some 9 := by kernel_rfl
theorem infoI : (Try.prog.info? 3).map (fun i => (i.zero, i.size, i.bytes)) = some (some (.int .i64 0), 1, 8) := by kernel_rfl
set_option maxRecDepth 100000 in
set_option maxHeartbeats 4000000 in
theorem pfind_free (v : Value) (L : List Tn) (id : Int) (hl : L.length ≤ 9223372036854775807) (w : World) (hT : Tens w v L) :
    Calls Try.prog 11 #[v, .int .i64 id] w fun e w' => ∃ (k : Nat) (ok : Bool), e = .returned (.tuple #[.int .i64 (k : Int), .bool ok]) ∧ FoundBy L id k ok ∧ Fr0 w w' := by
  obtain ⟨A, C, rfl⟩ := hT.form
  have HT := Lib.hid hT
  clear hT
  generalize hN : L.length = N at *
  have HN := Lib.hid hN
  clear hN
  go_enter Try.func11, Try.ntmps11
  go_wp2_with fail
  go_loopg [10] N (fun kx vi wr => ∃ (i : Nat), vi = .int .i64 (i : Int) ∧ i ≤ N ∧ N - i ≤ kx ∧ Hid (∀ j, j < i → (L.getD j zero).id ≠ id) ∧ Hid (Fr0 w wr))
  case atStart => exact ⟨0, rfl, Nat.zero_le _, by omega, Lib.hid (fun j h => absurd h (Nat.not_lt_zero j)), Lib.hid (Fr.refl _ _)⟩
  case round =>
    obtain ⟨i, rfl, hi, hk, HNE, HF⟩ := hrel
    by_cases hlt : i < N
    · obtain ⟨pb, po, B, D, rfl, hc, hb⟩ := tens_at HT.out i (by have := HN.out; omega)
      have i1 : (i : Int) < (N : Int) := by omega
      have i2 : 0 ≤ (i : Int) := by omega
      obtain ⟨c0, c1, c2, c3, c4, c5, c6, c7, c8⟩ := hc wr HF.out
      have HYES : Hid ((L.getD i zero).id = id → FoundBy L id i true) := Lib.hid (fun he => ⟨fun _ => ⟨by rw [HN.out]; exact hlt, he, HNE.out⟩, fun h => by cases h⟩)
      have HNN : Hid ((L.getD i zero).id ≠ id → ∀ j, j < i + 1 → (L.getD j zero).id ≠ id) := Lib.hid (fun hne j hj => by
        rcases Nat.lt_or_eq_of_le (Nat.le_of_lt_succ hj) with h1 | rfl
        · exact HNE.out j h1
        · exact hne)
      clear hc hb HNE
      generalize L.getD i zero = q at *
      have hg := heap_alloc_new wr (.cells #[.int .i64 0, .slice none 0 0, .int .i64 0, .int .i64 0, .int .i64 0, .int .i64 0, .int .i64 0, .int .i64 0, .int .i64 0] 26)
      obtain ⟨W1, hW1⟩ : ∃ W', W' = (wr.alloc (.cells #[.int .i64 0, .slice none 0 0, .int .i64 0, .int .i64 0, .int .i64 0, .int .i64 0, .int .i64 0, .int .i64 0, .int .i64 0] 26)).setRow wr.heap.size #[.int .i64 q.id, .slice B q.key.length D, .int .i64 q.ri, .int .i64 q.bu, .int .i64 q.qu, .int .i64 q.ev, .int .i64 q.qe, .int .i64 q.se, .int .i64 q.re] := ⟨_, rfl⟩
      have hr := setRow_heap _ wr.heap.size _ #[.int .i64 q.id, .slice B q.key.length D, .int .i64 q.ri, .int .i64 q.bu, .int .i64 q.qu, .int .i64 q.ev, .int .i64 q.qe, .int .i64 q.se, .int .i64 q.re] _ _ hg
      rw [← hW1] at hr
      have hf : Fr0 wr W1 := by rw [hW1]; exact Fr.setRow ((Fr.refl _ _).alloc _) (fun h => absurd h (Nat.lt_irrefl _)) _
      have HG := Lib.hid hg
      have HW1 := Lib.hid hW1
      have HBX : Hid (Bx 26 W1 wr.heap.size (.slice B q.key.length D) q) := Lib.hid ⟨hr⟩
      have HF1 := Lib.hid (HF.out.trans' hf)
      obtain ⟨k0, k1, k2, k3, k4, k5, k6, k7, k8⟩ := HBX.out.cells
      clear hg hW1 hr hf
      by_cases hq : q.id = id
      · have HE := Lib.hid (HYES.out hq)
        have z : (q.id == id) = true := beq_iff_eq.2 hq
        clear HYES HNN HBX hq
        go_wp2_with (refine wpList_store_row rfl 26 _ _ rfl wr.heap.size #[.int .i64 q.id, .slice B q.key.length D, .int .i64 q.ri, .int .i64 q.bu, .int .i64 q.qu, .int .i64 q.ev, .int .i64 q.qe, .int .i64 q.se, .int .i64 q.re] rfl rfl 26 _ HG.out infoP rfl (t9_one _ q rfl) ?_; rw [← HW1.out])
        go_ret2
        exact ⟨i, true, rfl, HE.out, HF1.out⟩
      · have HNK := Lib.hid (HNN.out hq)
        have z : (q.id == id) = false := beq_eq_false_iff_ne.2 hq
        clear HYES HNN HBX
        go_wp2_with (refine wpList_store_row rfl 26 _ _ rfl wr.heap.size #[.int .i64 q.id, .slice B q.key.length D, .int .i64 q.ri, .int .i64 q.bu, .int .i64 q.qu, .int .i64 q.ev, .int .i64 q.qe, .int .i64 q.se, .int .i64 q.re] rfl rfl 26 _ HG.out infoP rfl (t9_one _ q rfl) ?_; rw [← HW1.out])
        go_roundg (N - (i + 1))
        case measure => omega
        case rel => exact ⟨i + 1, by simp, by omega, by omega, HNK, HF1⟩
    · obtain rfl : i = N := by omega
      go_wp2
      go_ret2
      exact ⟨0, false, rfl, ⟨fun h => (by cases h), fun _ j hj => HNE.out j (by rw [← HN.out]; exact hj)⟩, HF.out⟩
theorem pfind_any (v : Value) (L : List Tn) (id : Int) (hid : -9223372036854775808 ≤ id ∧ id ≤ 9223372036854775807) (hl : L.length ≤ 9223372036854775807) (w : World) (hT : Tens w v L) :
    Calls Try.prog 11 #[v, .int .i64 id] w fun e w' => ∃ (k : Nat) (ok : Bool), e = .returned (.tuple #[.int .i64 (k : Int), .bool ok]) ∧ FoundBy L id k ok ∧ Fr0 w w' := pfind_free v L id hl w hT
def budCell (L : List Tn) (k j : Nat) : Value := if j < k then .int .i64 (L.getD j zero).bu else .int .i64 0
set_option maxRecDepth 100000 in
set_option maxHeartbeats 4000000 in
theorem pbud_any (v : Value) (L : List Tn) (hl : L.length ≤ 1000000) (w : World) (hT : Tens w v L) :
    Calls Try.prog 12 #[v] w fun e w' => ∃ v', e = .returned v' ∧ IntsIs w' v' (L.map (·.bu)) ∧ Fr0 w w' := by
  obtain ⟨A, C, rfl⟩ := hT.form
  have HT := Lib.hid hT
  clear hT
  have HML : Hid ((L.map (·.bu)).length = L.length) := Lib.hid (List.length_map _)
  generalize hN : L.length = N at *
  have HN := Lib.hid hN
  clear hN
  have hmk := fun wx : World => run_make_row' (P := Try.prog) 33 3 (.int .i64 0) 8 Try.underlying33 infoI rfl .i64 .i64 N (by omega) (by omega) wx
  have HR0 : Hid ((w.alloc (.cells (madeCells #[.int .i64 0] N) 3)).rowIs w.heap.size 3 N (budCell L 0)) := Lib.hid ((World.rowIs_made w (.int .i64 0) N 3).congr (fun i hi => by
    unfold budCell
    rw [if_neg (Nat.not_lt_zero _)]))
  have HF0 : Hid (Fr0 w (w.alloc (.cells (madeCells #[.int .i64 0] N) 3))) := Lib.hid ((Fr.refl _ _).alloc _)
  go_enter Try.func12, Try.ntmps12
  go_wp2_with fail
  clear hmk
  go_loopg [11] N (fun kx vi wr => ∃ (i : Nat), vi = .int .i64 (i : Int) ∧ i ≤ N ∧ N - i ≤ kx ∧ Hid (wr.rowIs w.heap.size 3 N (budCell L i)) ∧ Hid (Fr0 w wr))
  case atStart => exact ⟨0, rfl, Nat.zero_le _, by omega, HR0, HF0⟩
  case round =>
    clear HR0 HF0
    obtain ⟨i, rfl, hi, hk, HR, HF⟩ := hrel
    by_cases hlt : i < N
    · obtain ⟨pb, po, B, D, rfl, hc, hb⟩ := tens_at HT.out i (by have := HN.out; omega)
      have i1 : (i : Int) < (N : Int) := by omega
      have i2 : 0 ≤ (i : Int) := by omega
      obtain ⟨c0, c1, c2, c3, c4, c5, c6, c7, c8⟩ := hc wr HF.out
      have HBU : Hid (∀ j, j < N → (if j = i then Value.int .i64 (L.getD i zero).bu else budCell L i j) = budCell L (i + 1) j) := Lib.hid (fun j hj => by
        unfold budCell
        by_cases h : j = i
        · subst h; rw [if_pos rfl, if_pos (Nat.lt_succ_self _)]
        · rw [if_neg h]
          by_cases h' : j < i
          · rw [if_pos h', if_pos (by omega)]
          · rw [if_neg h', if_neg (by omega)])
      clear hc hb
      generalize L.getD i zero = q at *
      have hws : w.heap.size < wr.heap.size := HR.out.lt
      have HRW := Lib.hid hws
      have hg := heap_alloc_new wr (.cells #[.int .i64 0, .slice none 0 0, .int .i64 0, .int .i64 0, .int .i64 0, .int .i64 0, .int .i64 0, .int .i64 0, .int .i64 0] 26)
      obtain ⟨W1, hW1⟩ : ∃ W', W' = (wr.alloc (.cells #[.int .i64 0, .slice none 0 0, .int .i64 0, .int .i64 0, .int .i64 0, .int .i64 0, .int .i64 0, .int .i64 0, .int .i64 0] 26)).setRow wr.heap.size #[.int .i64 q.id, .slice B q.key.length D, .int .i64 q.ri, .int .i64 q.bu, .int .i64 q.qu, .int .i64 q.ev, .int .i64 q.qe, .int .i64 q.se, .int .i64 q.re] := ⟨_, rfl⟩
      have hr := setRow_heap _ wr.heap.size _ #[.int .i64 q.id, .slice B q.key.length D, .int .i64 q.ri, .int .i64 q.bu, .int .i64 q.qu, .int .i64 q.ev, .int .i64 q.qe, .int .i64 q.se, .int .i64 q.re] _ _ hg
      rw [← hW1] at hr
      have hf : Fr0 wr W1 := by rw [hW1]; exact Fr.setRow ((Fr.refl _ _).alloc _) (fun h => absurd h (Nat.lt_irrefl _)) _
      have HG := Lib.hid hg
      have HW1 := Lib.hid hW1
      have HBX : Hid (Bx 26 W1 wr.heap.size (.slice B q.key.length D) q) := Lib.hid ⟨hr⟩
      have HF1 := Lib.hid (HF.out.trans' hf)
      obtain ⟨k0, k1, k2, k3, k4, k5, k6, k7, k8⟩ := HBX.out.cells
      clear hg hW1 hr hf
      have hr1 : W1.rowIs w.heap.size 3 N (budCell L i) := by
        rw [HW1.out]
        exact rowIs_setRow_other (HR.out.alloc _) _ (by omega)
      have cw : W1.cell? ⟨w.heap.size, i, none⟩ = some (.int .i64 0) := by rw [hr1.cell (i := i) hlt]; unfold budCell; rw [if_neg (Nat.lt_irrefl _)]
      have cf := hr1.frozen i
      have HR1 := Lib.hid hr1
      clear hr1 hws HBX
      go_wp2_with (refine wpList_store_row rfl 26 _ _ rfl wr.heap.size #[.int .i64 q.id, .slice B q.key.length D, .int .i64 q.ri, .int .i64 q.bu, .int .i64 q.qu, .int .i64 q.ev, .int .i64 q.qe, .int .i64 q.se, .int .i64 q.re] rfl rfl 26 _ HG.out infoP rfl (t9_one _ q rfl) ?_; rw [← HW1.out])
      go_roundg (N - (i + 1))
      case measure => omega
      case rel => exact ⟨i + 1, by simp, by omega, by omega, Lib.hid ((HR1.out.set i _).congr HBU.out), Lib.hid (Fr.setCell (p := ⟨w.heap.size, i, none⟩) HF1.out (fun h => absurd h (Nat.lt_irrefl _)) _)⟩
    · obtain rfl : i = N := by omega
      have HE : Hid (IntsIs wr (.slice (some ⟨w.heap.size, 0, none⟩) i i) (L.map (·.bu))) := Lib.hid (by
        refine ⟨_, i, w.heap.size, 0, by rw [HML.out], by rw [HML.out]; exact Nat.le_refl _, fun _ => rfl, fun j hj => ?_⟩
        rw [HML.out] at hj
        rw [Nat.zero_add, HR.out.cell (i := j) hj]
        unfold budCell
        rw [if_pos hj, List.getD_eq_getElem?_getD, List.getD_eq_getElem?_getD, List.getElem?_map, List.getElem?_eq_getElem (by rw [HN.out]; exact hj)]
        rfl)
      go_wp2
      go_ret
      exact ⟨_, rfl, HE.out, HF.out⟩
theorem Each.sum_le {L : List Tn} {i : Nat} : ∀ {n : Nat}, Each L n → i ≤ n → sumB L i ≤ sumB L n
  | 0, _, h => by
    obtain rfl : i = 0 := by omega
    exact Int.le_refl _
  | n + 1, hE, h => by
    rcases Nat.lt_or_eq_of_le h with h1 | rfl
    · have h2 := Each.sum_le (L := L) (i := i) (n := n) ⟨fun j hj => hE.1 j (by omega), fun j hj => hE.2 j (by omega)⟩ (by omega)
      have h3 := ((good_iff _).1 (hE.1 n (by omega))).2.2.2.1
      show sumB L i ≤ sumB L n + _
      omega
    · exact Int.le_refl _
set_option maxRecDepth 100000 in
set_option maxHeartbeats 8000000 in
theorem pall_any (v : Value) (L : List Tn) (pool : Int) (hp : -9223372036854775808 ≤ pool ∧ pool ≤ 9223372036854775807) (hl : L.length ≤ 9223372036854775807) (hkey : ∀ i, i < L.length → (L.getD i zero).key.length ≤ 9223372036854775807) (w : World) (hT : Tens w v L) :
    Calls Try.prog 10 #[v, .int .i64 pool] w fun e w' => e = .returned (.int .i64 (allErr L pool)) ∧ Fr0 w w' := by
  obtain ⟨A, C, rfl⟩ := hT.form
  have HT := Lib.hid hT
  have HKL := Lib.hid hkey
  have HNO : Hid (¬ Fits L pool → allErr L pool = 1) := Lib.hid all_no
  have HYES : Hid (Fits L pool → allErr L pool = 0) := Lib.hid all_yes
  have HINP := Lib.hid (pin_any pool 0 65536)
  have HINL := Lib.hid (pin_any (L.length : Int) 1 64)
  have HNX : Hid (∀ i, sumB L (i + 1) = sumB L i + (L.getD i zero).bu) := Lib.hid (fun i => rfl)
  have HP := Lib.hid hp
  have HFI := Lib.hid (fun (x : Int) wx hTx => pfind_free (.slice A L.length C) L x hl wx hTx)
  clear hT hkey hp
  generalize allErr L pool = er at *
  generalize hN : L.length = N at *
  have HN := Lib.hid hN
  clear hN
  cases hlb : inn (N : Int) 1 64 with
  | false =>
    have HE := Lib.hid (HNO.out (fun h => by have h3 := (inn_iff (N : Int) 1 64).2 ⟨by have := h.1.1; rw [HN.out] at this; omega, by have := h.1.2; rw [HN.out] at this; omega⟩; rw [hlb] at h3; cases h3))
    have hin := HINL.out w
    rw [hlb] at hin
    clear hlb
    go_enter Try.func10, Try.ntmps10
    go_wp2_with fail
    refine hin.mono ?_
    clear hin
    rintro e wq ⟨rfl, rfl⟩
    go_wp2
    go_ret
    exact ⟨by rw [HE.out]; rfl, Fr.refl _ _⟩
  | true =>
    have HLL := Lib.hid ((inn_iff (N : Int) 1 64).1 hlb)
    have hin := HINL.out w
    rw [hlb] at hin
    clear hlb
    cases hpb : inn pool 0 65536 with
    | false =>
      have HE := Lib.hid (HNO.out (fun h => by have h3 := (inn_iff pool 0 65536).2 h.2.1; rw [hpb] at h3; cases h3))
      have hinp := HINP.out w
      rw [hpb] at hinp
      clear hpb
      go_enter Try.func10, Try.ntmps10
      go_wp2_with fail
      refine hin.mono ?_
      clear hin
      rintro e wq ⟨rfl, rfl⟩
      go_wp2_with fail
      refine hinp.mono ?_
      clear hinp
      rintro e wq ⟨rfl, rfl⟩
      go_wp2
      go_ret
      exact ⟨by rw [HE.out]; rfl, Fr.refl _ _⟩
    | true =>
      have HPL := Lib.hid ((inn_iff pool 0 65536).1 hpb)
      have hinp := HINP.out w
      rw [hpb] at hinp
      clear hpb
      go_enter Try.func10, Try.ntmps10
      go_wp2_with fail
      refine hin.mono ?_
      clear hin
      rintro e wq ⟨rfl, rfl⟩
      go_wp2_with fail
      refine hinp.mono ?_
      clear hinp
      rintro e wq ⟨rfl, rfl⟩
      go_wp2_with fail
      go_loopg [5, 22] N (fun kx vl vi wr => ∃ (i : Nat) (lf : Int), vi = .int .i64 (i : Int) ∧ vl = .int .i64 lf ∧ i ≤ N ∧ N - i ≤ kx ∧ 0 ≤ lf ∧ lf ≤ 65536 ∧ Hid (sumB L i + lf = pool) ∧ Hid (Each L i) ∧ Hid (Fr0 w wr))
      case atStart => exact ⟨0, pool, rfl, rfl, Nat.zero_le _, by omega, HPL.out.1, HPL.out.2, Lib.hid (Int.zero_add _), Lib.hid (Each.start L), Lib.hid (Fr.refl _ _)⟩
      case round =>
        obtain ⟨i, lf, rfl, rfl, hi, hk, l0, l1, HLF, HEA, HF⟩ := hrel
        by_cases hlt : i < N
        · obtain ⟨pb, po, B, D, rfl, hc, hb⟩ := tens_at HT.out i (by have := HN.out; omega)
          have i1 : (i : Int) < (N : Int) := by omega
          have i2 : 0 ≤ (i : Int) := by omega
          obtain ⟨c0, c1, c2, c3, c4, c5, c6, c7, c8⟩ := hc wr HF.out
          have HC := Lib.hid hc
          have HGD := Lib.hid (fun wx => pgoodT_any B D (L.getD i zero) (HKL.out i hlt) wx)
          have HNI := Lib.hid (HNX.out i)
          have HBG : Hid (good (L.getD i zero) = true → (0 ≤ (L.getD i zero).id ∧ (L.getD i zero).id ≤ 65535) ∧ 0 ≤ (L.getD i zero).bu ∧ (L.getD i zero).bu ≤ 65536) := Lib.hid (fun h => ⟨((good_iff _).1 h).1, ((good_iff _).1 h).2.2.2.1⟩)
          have HEN := Lib.hid (fun h1 h2 => HEA.out.next (i := i) h1 h2)
          have HBAD : Hid (good (L.getD i zero) = false → er = 1) := Lib.hid (fun h => HNO.out (fun hf => by
            have h1 := hf.2.2.1.1 i (by rw [HN.out]; exact hlt)
            rw [h] at h1
            cases h1))
          have HDUP : Hid (∀ k, k < i → (L.getD k zero).id = (L.getD i zero).id → er = 1) := Lib.hid (fun k hk he => HNO.out (fun hf => hf.2.2.1.2 i (by rw [HN.out]; exact hlt) k hk he))
          have HOVER : Hid (lf < (L.getD i zero).bu → er = 1) := Lib.hid (fun h => HNO.out (fun hf => by
            have h1 := hf.2.2.1.sum_le (i := i + 1) (by rw [HN.out]; omega)
            have h2 := hf.2.2.2
            have h3 := HNI.out
            have h4 := HLF.out
            omega))
          have HSELF : Hid (∀ (k : Nat) (ok : Bool), FoundBy L (L.getD i zero).id k ok → k ≤ i ∧ (L.getD k zero).id = (L.getD i zero).id ∧ ∀ j, j < k → (L.getD j zero).id ≠ (L.getD i zero).id) := Lib.hid (fun k ok h => by
            cases ok with
            | false => exact absurd rfl (h.2 rfl i (by rw [HN.out]; exact hlt))
            | true =>
              obtain ⟨h1, h2, h3⟩ := h.1 rfl
              exact ⟨by
                rcases Nat.lt_or_ge i k with h4 | h4
                · exact absurd rfl (h3 i h4)
                · exact h4, h2, h3⟩)
          clear hc hb
          generalize hq : L.getD i zero = q at *
          have HQ := Lib.hid hq
          clear hq
          have hg := heap_alloc_new wr (.cells #[.int .i64 0, .slice none 0 0, .int .i64 0, .int .i64 0, .int .i64 0, .int .i64 0, .int .i64 0, .int .i64 0, .int .i64 0] 26)
          obtain ⟨W1, hW1⟩ : ∃ W', W' = (wr.alloc (.cells #[.int .i64 0, .slice none 0 0, .int .i64 0, .int .i64 0, .int .i64 0, .int .i64 0, .int .i64 0, .int .i64 0, .int .i64 0] 26)).setRow wr.heap.size #[.int .i64 q.id, .slice B q.key.length D, .int .i64 q.ri, .int .i64 q.bu, .int .i64 q.qu, .int .i64 q.ev, .int .i64 q.qe, .int .i64 q.se, .int .i64 q.re] := ⟨_, rfl⟩
          have hr := setRow_heap _ wr.heap.size _ #[.int .i64 q.id, .slice B q.key.length D, .int .i64 q.ri, .int .i64 q.bu, .int .i64 q.qu, .int .i64 q.ev, .int .i64 q.qe, .int .i64 q.se, .int .i64 q.re] _ _ hg
          rw [← hW1] at hr
          have hf : Fr0 wr W1 := by rw [hW1]; exact Fr.setRow ((Fr.refl _ _).alloc _) (fun h => absurd h (Nat.lt_irrefl _)) _
          have HG := Lib.hid hg
          have HW1 := Lib.hid hW1
          have HBX : Hid (Bx 26 W1 wr.heap.size (.slice B q.key.length D) q) := Lib.hid ⟨hr⟩
          have HF1 := Lib.hid (HF.out.trans' hf)
          obtain ⟨k0, k1, k2, k3, k4, k5, k6, k7, k8⟩ := HBX.out.cells
          clear hg hW1 hr hf
          have hfi := HFI.out q.id W1 (HT.out.fr0 HF1.out)
          go_wp2_with (refine wpList_store_row rfl 26 _ _ rfl wr.heap.size #[.int .i64 q.id, .slice B q.key.length D, .int .i64 q.ri, .int .i64 q.bu, .int .i64 q.qu, .int .i64 q.ev, .int .i64 q.qe, .int .i64 q.se, .int .i64 q.re] rfl rfl 26 _ HG.out infoP rfl (t9_one _ q rfl) ?_; rw [← HW1.out])
          refine hfi.mono ?_
          clear hfi c0 c1 c2 c3 c4 c5 c6 c7 c8 k0 k1 k2 k3 k4 k5 k6 k7 k8
          rintro e w2 ⟨k, ok, rfl, hfb, hF2⟩
          obtain ⟨hki, hke, hkn⟩ := HSELF.out k ok hfb
          have HF2 := Lib.hid (HF1.out.trans' hF2)
          obtain ⟨k0, k1, k2, k3, k4, k5, k6, k7, k8⟩ := (HBX.out.fr0 hF2).cells
          have HBX2 := Lib.hid (HBX.out.fr0 hF2)
          by_cases hlk : k < i
          · have HE := Lib.hid (HDUP.out k hlk hke)
            have z : ((k : Int) == (i : Int)) = false := beq_eq_false_iff_ne.2 (by omega)
            clear hfb hF2 hkn hke
            go_wp2
            go_ret
            exact ⟨by rw [HE.out]; rfl, HF2.out⟩
          · obtain rfl : k = i := by omega
            have HNE := Lib.hid hkn
            clear hfb hF2 hkn hke hlk hki
            have hgd := HGD.out w2
            obtain ⟨g, hg⟩ : ∃ g, g = good q := ⟨_, rfl⟩
            rw [← hg] at hgd HBG HEN HBAD
            clear hg
            unfold t9 at hgd
            go_wp2_with fail
            refine hgd.mono ?_
            clear hgd k0 k1 k2 k3 k4 k5 k6 k7 k8
            rintro e w3 ⟨rfl, hF3⟩
            have HF3 := Lib.hid (HF2.out.trans' hF3)
            cases g with
            | false =>
              have HE := Lib.hid (HBAD.out rfl)
              clear hF3
              go_wp2
              go_ret
              exact ⟨by rw [HE.out]; rfl, HF3.out⟩
            | true =>
              obtain ⟨-, b1, b2⟩ := HBG.out rfl
              obtain ⟨-, -, -, k3, -⟩ := (HBX2.out.fr0 hF3).cells
              clear hF3
              have HEK := Lib.hid (HEN.out rfl HNE.out)
              by_cases hov : lf < q.bu
              · have HE := Lib.hid (HOVER.out hov)
                go_wp2
                go_ret
                exact ⟨by rw [HE.out]; rfl, HF3.out⟩
              · have HSM : Hid (sumB L (k + 1) + (lf - q.bu) = pool) := Lib.hid (by have h3 := HNI.out; have h4 := HLF.out; omega)
                go_wp2
                go_roundg (N - (k + 1))
                case measure => omega
                case rel => exact ⟨k + 1, lf - q.bu, by simp, rfl, by omega, by omega, by omega, by omega, HSM, HEK, HF3⟩
        · obtain rfl : i = N := by omega
          have HE := Lib.hid (HYES.out ⟨by rw [HN.out]; have := HLL.out; omega, HPL.out, by rw [HN.out]; exact HEA.out, by rw [HN.out]; have := HLF.out; omega⟩)
          go_wp2
          go_ret
          exact ⟨by rw [HE.out]; rfl, HF.out⟩
end Go.Proofs.Ytjhnijcefpnldaa.Tenant
