/-
  A slice of structs of two ints and a slice of ints that came in.
-/
import Derived.Test.YtagniipldmagdaaLaw
import Derived.Deep.Strs
namespace Go.Proofs.Ytagniipldmagdaa.Base
open Go.RowKit Go.ChangeShapes Go.WideShapes Go.ChangeAt

abbrev Trio := Int × Int × List Int
/-- v is a slice of such structs that reads as l -/
def TriosIs (w : World) (v : Value) (l : List Trio) : Prop :=
  ∃ (a : Option Addr) (cap pb po : Nat), v = .slice a l.length cap ∧ l.length ≤ cap ∧ (0 < l.length → a = some ⟨pb, po, none⟩) ∧
    (∀ j t, l[j]? = some t → w.cell? ⟨pb, po + j * 3, none⟩ = some (.int .i64 t.1) ∧ w.cell? ⟨pb, po + j * 3 + 1, none⟩ = some (.int .i64 t.2.1) ∧
      ∃ pv, w.cell? ⟨pb, po + j * 3 + 2, none⟩ = some pv ∧ IntsIs w pv t.2.2)
section
variable {H : Type} {enc : TypeId × Value → H} {P : Program} {w : World}
/-- one cell that is a slice of ints -/
theorem ints_cell {t e : TypeId} {v : Value} {fuel : Nat} {x : DataW H × List MemPlace} (ht : P.underlying t = some (.slice e)) (he : P.underlying e = some (.int .i64)) (hc : P.cellsOf e = 1) (hf : DataW.trod enc P w 0 (fun _ => true) true fuel t [v] = some x) :
    ∃ l, IntsIs w v l ∧ l.length ≤ 9223372036854775807 ∧ ∀ n ∈ l, -9223372036854775808 ≤ n ∧ n ≤ 9223372036854775807 := by
  rcases open_ints ht he hc hf with ⟨h0, _⟩ | ⟨a, len, cap, zs, h1, _, hle, hmax, hlen, _, hcell, hwf⟩
  · simp only [List.cons.injEq, and_true] at h0
    subst h0
    exact ⟨[], IntsIs.nil w, by simp, fun n hn => by simp at hn⟩
  · simp only [List.cons.injEq, and_true] at h1
    subst h1
    simp at hlen
    have hl : (zs.take len).length = len := by simp; omega
    refine ⟨zs.take len, ?_, by rw [hl]; unfold maxLen at hmax; omega, fun n hn => bounds_i64 (hwf n (List.mem_of_mem_take hn))⟩
    obtain ⟨ab, ao, sp⟩ := a
    by_cases h0 : len = 0
    · subst h0
      exact ⟨some ⟨ab, ao, sp⟩, cap, 0, 0, by rw [hl], by rw [hl]; omega, fun h => absurd h (by simp), fun j hj => absurd hj (by simp)⟩
    · have hsp : sp = none := by
        have := hcell 0 (by omega)
        rw [show (⟨ab, ao, sp⟩ : Addr).add 0 = ⟨ab, ao, sp⟩ from by simp [Addr.add]] at this
        cases sp with
        | none => rfl
        | some q => simp [World.cell?] at this; split at this <;> simp_all
      subst hsp
      refine ⟨_, cap, ab, ao, by rw [hl], by rw [hl]; exact hle, fun _ => rfl, fun j hj => ?_⟩
      rw [hl] at hj
      have h1 := hcell j (by omega)
      rw [Addr.add_mid] at h1
      rw [h1]
      simp [hj, show j < zs.length from by omega]
theorem open_trios {r : Reach} {b0 : Nat} {t e eb : TypeId} {f0 f1 f2 : Field} {v : Value} {d : DataW H} {ps : List MemPlace} (ht : P.underlying t = some (.slice e)) (he : P.underlying e = some (.struct #[f0, f1, f2]))
    (ce : P.cellsOf e = 3) (o0 : f0.offset = 0) (o1 : f1.offset = 1) (o2 : f2.offset = 2) (c0 : P.cellsOf f0.type = 1) (c1 : P.cellsOf f1.type = 1) (c2 : P.cellsOf f2.type = 1)
    (u0 : P.underlying f0.type = some (.int .i64)) (u1 : P.underlying f1.type = some (.int .i64)) (u2 : P.underlying f2.type = some (.slice eb)) (ub : P.underlying eb = some (.int .i64)) (cb : P.cellsOf eb = 1)
    (hval : Value.okWide P w r b0 t v) (hd : DataW.Trod enc P w 0 (fun _ => true) true t v d ps) :
    ∃ l, TriosIs w v l ∧ l.length ≤ 9223372036854775807 ∧ ∀ q ∈ l, (-9223372036854775808 ≤ q.1 ∧ q.1 ≤ 9223372036854775807) ∧ (-9223372036854775808 ≤ q.2.1 ∧ q.2.1 ≤ 9223372036854775807) ∧ q.2.2.length ≤ 9223372036854775807 ∧ ∀ n ∈ q.2.2, -9223372036854775808 ≤ n ∧ n ≤ 9223372036854775807 := by
  obtain ⟨a0, len0, cap0, rfl⟩ := okWide_slice ht hval
  obtain ⟨fuel, hf⟩ := hd
  rcases Deep.open_slice ht hf with ⟨h0, _⟩ | ⟨a, len, cap, m, n, D, Pl, h1, _, hle, hmax, hm, _, hx⟩
  · simp [Value.cells] at h0
    obtain ⟨rfl, rfl, rfl⟩ := h0
    exact ⟨[], ⟨none, 0, 0, 0, rfl, Nat.le_refl _, fun h => absurd h (by simp), fun j t hj => by simp at hj⟩, by simp, fun q hq => by simp at hq⟩
  · simp [Value.cells] at h1
    obtain ⟨rfl, rfl, rfl⟩ := h1
    have hlm : len0 ≤ m := by rw [hm]; split <;> omega
    have each : ∀ i, i < m → ∃ q : Trio, (w.cell? (a.add (i * 3)) = some (.int .i64 q.1) ∧ w.cell? (a.add (i * 3 + 1)) = some (.int .i64 q.2.1) ∧
        ∃ pv, w.cell? (a.add (i * 3 + 2)) = some pv ∧ IntsIs w pv q.2.2) ∧ (-9223372036854775808 ≤ q.1 ∧ q.1 ≤ 9223372036854775807) ∧ (-9223372036854775808 ≤ q.2.1 ∧ q.2.1 ≤ 9223372036854775807) ∧ q.2.2.length ≤ 9223372036854775807 ∧ ∀ n ∈ q.2.2, -9223372036854775808 ≤ n ∧ n ≤ 9223372036854775807 := by
      intro i hi
      obtain ⟨cs', h1, h2⟩ := hx i hi
      rw [ce] at h1
      obtain ⟨_, hlen, hcell⟩ := World.cells?_some h1
      obtain ⟨y0, y1, y2, k, _, _, g0, g1, g2⟩ := Deep.trod_struct3 he h2
      match cs', hlen with
      | [v0, v1, v2], _ =>
        simp [o0, o1, o2, c0, c1, c2] at g0 g1 g2
        have e0 := hcell 0 (by omega)
        have e1 := hcell 1 (by omega)
        have e2 := hcell 2 (by omega)
        rw [Deep.add_add] at e0 e1 e2
        obtain ⟨n0, x0, _, w0⟩ := DataW.trod_int u0 g0
        obtain ⟨n1, x1, _, w1⟩ := DataW.trod_int u1 g1
        obtain ⟨is, hb, hbl, hbb⟩ := ints_cell u2 ub cb g2
        simp only [List.cons.injEq, and_true] at x0 x1
        subst x0 x1
        exact ⟨(n0, n1, is), ⟨by simpa using e0, by simpa using e1, v2, by simpa using e2, hb⟩, bounds_i64 w0, bounds_i64 w1, hbl, hbb⟩
    obtain ⟨q, hq⟩ := Deep.choose_lt each
    obtain ⟨ab, ao, sp⟩ := a
    have hlen : ((List.range len0).map q).length = len0 := by simp
    refine ⟨(List.range len0).map q, ?_, by rw [hlen]; unfold maxLen at hmax; omega, fun x hx => ?_⟩
    · by_cases h0 : len0 = 0
      · subst h0
        exact ⟨some ⟨ab, ao, sp⟩, cap0, 0, 0, by simp, by simp, fun h => absurd h (by simp), fun j t hj => by simp at hj⟩
      · have hsp : sp = none := by
          have h0 := (hq 0 (by omega)).1.1
          simpa [Addr.add] using World.cell?_spot h0
        subst hsp
        refine ⟨some ⟨ab, ao, none⟩, cap0, ab, ao, by rw [hlen], by rw [hlen]; exact hle, fun _ => rfl, fun j t hj => ?_⟩
        have hj' : j < len0 := by have := (List.getElem?_eq_some_iff.1 hj).1; rwa [hlen] at this
        rw [List.getElem?_map, List.getElem?_range hj'] at hj
        simp only [Option.map_some, Option.some.injEq] at hj
        subst hj
        obtain ⟨⟨h1, h2, h3⟩, _⟩ := hq j (by omega)
        simp only [Addr.add_mid, ← Nat.add_assoc] at h1 h2 h3
        exact ⟨h1, h2, h3⟩
    · simp only [List.mem_map, List.mem_range] at hx
      obtain ⟨i, hi, rfl⟩ := hx
      exact (hq i (by omega)).2
end
end Go.Proofs.Ytagniipldmagdaa.Base
