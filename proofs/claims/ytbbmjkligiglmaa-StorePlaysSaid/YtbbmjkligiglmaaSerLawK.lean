/-
  A slice of slices of pairs that came in.
-/
import Derived.Test.YtbbmjkligiglmaaSerAll
import Derived.ChangeMaps5
namespace Go.Proofs.Ytbbmjkligiglmaa.Series
open Go.RowKit Go.ChangeShapes Go.WideShapes Go.ChangeAt Base

section
variable {H : Type} {enc : TypeId × Value → H} {P : Program} {w : World}
/-- one cell that is a slice of pairs -/
theorem pairs_cell {t e : TypeId} {f0 f1 : Field} {v : Value} {fuel : Nat} {x : DataW H × List MemPlace} (ht : P.underlying t = some (.slice e)) (he : P.underlying e = some (.struct #[f0, f1]))
    (ce : P.cellsOf e = 2) (o0 : f0.offset = 0) (o1 : f1.offset = 1) (c0 : P.cellsOf f0.type = 1) (c1 : P.cellsOf f1.type = 1) (u0 : P.underlying f0.type = some (.int .i64)) (u1 : P.underlying f1.type = some (.int .i64))
    (hf : DataW.trod enc P w 0 (fun _ => true) true fuel t [v] = some x) :
    ∃ l A C, v = .slice A l.length C ∧ PairsIs w v l ∧ l.length ≤ 9223372036854775807 ∧ ∀ q ∈ l, (-9223372036854775808 ≤ q.1 ∧ q.1 ≤ 9223372036854775807) ∧ (-9223372036854775808 ≤ q.2 ∧ q.2 ≤ 9223372036854775807) := by
  rcases Deep.open_slice_pairs ht he ce o0 o1 c0 c1 hf with ⟨h0, _⟩ | ⟨a, len, cap, m, n, V0, V1, D0, D1, P0, P1, h1, _, hle, hmax, hm, _, hcell⟩
  · simp only [List.cons.injEq, and_true] at h0
    subst h0
    exact ⟨[], none, 0, rfl, ⟨none, 0, 0, 0, rfl, Nat.le_refl _, fun h => absurd h (by simp), fun j hj => absurd hj (by simp)⟩, by simp, fun q hq => by simp at hq⟩
  · simp only [List.cons.injEq, and_true] at h1
    subst h1
    have hlm : len ≤ m := by rw [hm]; split <;> omega
    have key : ∀ i, i < m → V0 i = .int .i64 (intOf (V0 i)) ∧ V1 i = .int .i64 (intOf (V1 i)) ∧ (-9223372036854775808 ≤ intOf (V0 i) ∧ intOf (V0 i) ≤ 9223372036854775807) ∧ (-9223372036854775808 ≤ intOf (V1 i) ∧ intOf (V1 i) ≤ 9223372036854775807) := fun i hi => by
      obtain ⟨_, _, h3, h4⟩ := hcell i hi
      obtain ⟨n0, e0, _, w0⟩ := DataW.trod_int u0 h3
      obtain ⟨n1, e1, _, w1⟩ := DataW.trod_int u1 h4
      simp only [List.cons.injEq, and_true] at e0 e1
      rw [e0, e1]
      exact ⟨rfl, rfl, bounds_i64 w0, bounds_i64 w1⟩
    obtain ⟨ab, ao, sp⟩ := a
    have hlen : ((List.range len).map fun i => (intOf (V0 i), intOf (V1 i))).length = len := by simp
    refine ⟨(List.range len).map fun i => (intOf (V0 i), intOf (V1 i)), some ⟨ab, ao, sp⟩, cap, by rw [hlen], ?_, by rw [hlen]; unfold maxLen at hmax; omega, fun q hq => ?_⟩
    · by_cases h0 : len = 0
      · subst h0
        exact ⟨some ⟨ab, ao, sp⟩, cap, 0, 0, by simp, by simp, fun h => absurd h (by simp), fun j hj => absurd hj (by simp)⟩
      · have hsp : sp = none := by
          have h0 := (hcell 0 (by omega)).1
          simpa [Addr.add] using World.cell?_spot h0
        subst hsp
        refine ⟨some ⟨ab, ao, none⟩, cap, ab, ao, by rw [hlen], by rw [hlen]; exact hle, fun _ => rfl, fun j hj => ?_⟩
        rw [hlen] at hj
        obtain ⟨h1, h2, _, _⟩ := hcell j (by omega)
        obtain ⟨k0, k1, _, _⟩ := key j (by omega)
        have hg : ((List.range len).map fun i => (intOf (V0 i), intOf (V1 i))).getD j (0, 0) = (intOf (V0 j), intOf (V1 j)) := by
          rw [List.getD_eq_getElem?_getD, List.getElem?_map, List.getElem?_range hj]
          rfl
        rw [hg]
        rw [Addr.add_mid] at h1 h2
        exact ⟨by rw [h1, ← k0], by rw [Nat.add_assoc, h2, ← k1]⟩
    · simp only [List.mem_map, List.mem_range] at hq
      obtain ⟨i, hi, rfl⟩ := hq
      obtain ⟨_, _, k2, k3⟩ := key i (by omega)
      exact ⟨k2, k3⟩
theorem open_rows {r : Reach} {b0 : Nat} {t e q : TypeId} {f0 f1 : Field} {v : Value} {d : DataW H} {ps : List MemPlace} (ht : P.underlying t = some (.slice e)) (ce : P.cellsOf e = 1) (he : P.underlying e = some (.slice q)) (hq : P.underlying q = some (.struct #[f0, f1]))
    (cq : P.cellsOf q = 2) (o0 : f0.offset = 0) (o1 : f1.offset = 1) (c0 : P.cellsOf f0.type = 1) (c1 : P.cellsOf f1.type = 1) (u0 : P.underlying f0.type = some (.int .i64)) (u1 : P.underlying f1.type = some (.int .i64))
    (hval : Value.okWide P w r b0 t v) (hd : DataW.Trod enc P w 0 (fun _ => true) true t v d ps) :
    ∃ ls : List (List (Int × Int)), RowsIs w v ls ∧ ls.length ≤ 9223372036854775807 ∧ ∀ l ∈ ls, l.length ≤ 9223372036854775807 ∧ SizedS l := by
  obtain ⟨a0, len0, cap0, rfl⟩ := okWide_slice ht hval
  obtain ⟨fuel, hf⟩ := hd
  rcases Deep.open_slice1 ht ce hf with ⟨h0, _⟩ | ⟨a, len, cap, m, n, V, D, Pl, h1, _, hle, hmax, hm, _, hx⟩
  · simp [Value.cells] at h0
    obtain ⟨rfl, rfl, rfl⟩ := h0
    exact ⟨[], ⟨none, 0, 0, 0, rfl, Nat.le_refl _, fun h => absurd h (by simp), fun i hi => absurd hi (by simp)⟩, by simp, by simp⟩
  · simp [Value.cells] at h1
    obtain ⟨rfl, rfl, rfl⟩ := h1
    have hlm : len0 ≤ m := by rw [hm]; split <;> omega
    have each : ∀ i, i < m → ∃ l : List (Int × Int), PairsIs w (V i) l ∧ l.length ≤ 9223372036854775807 ∧ SizedS l := fun i hi => by
      obtain ⟨l, A, C, hv, hp, hl, hs⟩ := pairs_cell he hq cq o0 o1 c0 c1 u0 u1 (hx i hi).2
      exact ⟨l, hp, hl, hs⟩
    obtain ⟨F, hF⟩ := Deep.choose_lt each
    obtain ⟨ab, ao, sp⟩ := a
    have hlen : ((List.range len0).map F).length = len0 := by simp
    refine ⟨(List.range len0).map F, ?_, by rw [hlen]; unfold maxLen at hmax; omega, fun l hl => ?_⟩
    · by_cases h0 : len0 = 0
      · subst h0
        exact ⟨some ⟨ab, ao, sp⟩, cap0, 0, 0, by simp, by simp, fun h => absurd h (by simp), fun i hi => absurd hi (by simp)⟩
      · have hsp : sp = none := by
          have h0 := (hx 0 (by omega)).1
          simpa [Addr.add] using World.cell?_spot h0
        subst hsp
        refine ⟨some ⟨ab, ao, none⟩, cap0, ab, ao, by rw [hlen], by rw [hlen]; exact hle, fun _ => rfl, fun i hi => ?_⟩
        rw [hlen] at hi
        have h1 := (hx i (by omega)).1
        rw [Addr.add_mid] at h1
        refine ⟨_, h1, ?_⟩
        have hg : ((List.range len0).map F).getD i [] = F i := by simp [hi]
        rw [hg]
        exact (hF i (by omega)).1
    · simp only [List.mem_map, List.mem_range] at hl
      obtain ⟨i, hi, rfl⟩ := hl
      exact (hF i (by omega)).2
end
end Go.Proofs.Ytbbmjkligiglmaa.Series
