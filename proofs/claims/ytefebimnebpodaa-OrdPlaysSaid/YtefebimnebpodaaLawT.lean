/-
  A slice of structs of two ints and a string that came in.
-/
import Derived.Test.YtefebimnebpodaaLaw
import Derived.Deep.Strs
namespace Go.Proofs.Ytefebimnebpodaa.Base
open Go.RowKit Go.ChangeShapes Go.WideShapes Go.ChangeAt

/-- v is a slice of triples (an int, an int, a string) that reads as l -/
def TripsIs (w : World) (v : Value) (l : List (Int × Int × ByteArray)) : Prop :=
  ∃ (a : Option Addr) (cap pb po : Nat), v = .slice a l.length cap ∧ l.length ≤ cap ∧ (0 < l.length → a = some ⟨pb, po, none⟩) ∧
    (∀ j t, l[j]? = some t → w.cell? ⟨pb, po + j * 3, none⟩ = some (.int .i64 t.1) ∧ w.cell? ⟨pb, po + j * 3 + 1, none⟩ = some (.int .i64 t.2.1) ∧ w.cell? ⟨pb, po + j * 3 + 2, none⟩ = some (.string t.2.2))
section
variable {H : Type} {enc : TypeId × Value → H} {P : Program} {w : World}
theorem open_trips {r : Reach} {b0 : Nat} {t e : TypeId} {f0 f1 f2 : Field} {v : Value} {d : DataW H} {ps : List MemPlace} (ht : P.underlying t = some (.slice e)) (he : P.underlying e = some (.struct #[f0, f1, f2]))
    (ce : P.cellsOf e = 3) (o0 : f0.offset = 0) (o1 : f1.offset = 1) (o2 : f2.offset = 2) (c0 : P.cellsOf f0.type = 1) (c1 : P.cellsOf f1.type = 1) (c2 : P.cellsOf f2.type = 1) (u0 : P.underlying f0.type = some (.int .i64)) (u1 : P.underlying f1.type = some (.int .i64)) (u2 : P.underlying f2.type = some .string)
    (hval : Value.okWide P w r b0 t v) (hd : DataW.Trod enc P w 0 (fun _ => true) true t v d ps) :
    ∃ l, TripsIs w v l ∧ l.length ≤ 9223372036854775807 := by
  obtain ⟨a0, len0, cap0, rfl⟩ := okWide_slice ht hval
  obtain ⟨fuel, hf⟩ := hd
  rcases Deep.open_slice ht hf with ⟨h0, _⟩ | ⟨a, len, cap, m, n, D, Pl, h1, _, hle, hmax, hm, _, hx⟩
  · simp [Value.cells] at h0
    obtain ⟨rfl, rfl, rfl⟩ := h0
    exact ⟨[], ⟨none, 0, 0, 0, rfl, Nat.le_refl _, fun h => absurd h (by simp), fun j t hj => by simp at hj⟩, by simp⟩
  · simp [Value.cells] at h1
    obtain ⟨rfl, rfl, rfl⟩ := h1
    have hlm : len0 ≤ m := by rw [hm]; split <;> omega
    have each : ∀ i, i < m → ∃ q : Int × Int × ByteArray, w.cell? (a.add (i * 3)) = some (.int .i64 q.1) ∧ w.cell? (a.add (i * 3 + 1)) = some (.int .i64 q.2.1) ∧ w.cell? (a.add (i * 3 + 2)) = some (.string q.2.2) := by
      intro i hi
      obtain ⟨cs', h1, h2⟩ := hx i hi
      rw [ce] at h1
      obtain ⟨_, hlen, hcell⟩ := World.cells?_some h1
      obtain ⟨y0, y1, y2, k, _, _, g0, g1, g2⟩ := Deep.trod_struct3 he h2
      match cs', hlen with
      | [v0, v1, v2], _ =>
        simp [o0, o1, o2, c0, c1, c2] at g0 g1 g2
        have e0 := hcell 0 (by omega)
        have e1 := hcell 1 (by omega)
        have e2 := hcell 2 (by omega)
        rw [Deep.add_add] at e0 e1 e2
        obtain ⟨n0, x0, _, _⟩ := DataW.trod_int u0 g0
        obtain ⟨n1, x1, _, _⟩ := DataW.trod_int u1 g1
        obtain ⟨s, x2, _, _⟩ := DataW.trod_string u2 g2
        simp only [List.cons.injEq, and_true] at x0 x1 x2
        subst x0 x1 x2
        exact ⟨(n0, n1, s), by simpa using e0, by simpa using e1, by simpa using e2⟩
    obtain ⟨q, hq⟩ := Deep.choose_lt each
    obtain ⟨ab, ao, sp⟩ := a
    have hlen : ((List.range len0).map q).length = len0 := by simp
    refine ⟨(List.range len0).map q, ?_, by rw [hlen]; unfold maxLen at hmax; omega⟩
    by_cases h0 : len0 = 0
    · subst h0
      exact ⟨some ⟨ab, ao, sp⟩, cap0, 0, 0, by simp, by simp, fun h => absurd h (by simp), fun j t hj => by simp at hj⟩
    · have hsp : sp = none := by
        have h0 := (hq 0 (by omega)).1
        simpa [Addr.add] using World.cell?_spot h0
      subst hsp
      refine ⟨some ⟨ab, ao, none⟩, cap0, ab, ao, by rw [hlen], by rw [hlen]; exact hle, fun _ => rfl, fun j t hj => ?_⟩
      have hj' : j < len0 := by have := (List.getElem?_eq_some_iff.1 hj).1; rwa [hlen] at this
      rw [List.getElem?_map, List.getElem?_range hj'] at hj
      simp only [Option.map_some, Option.some.injEq] at hj
      subst hj
      obtain ⟨h1, h2, h3⟩ := hq j (by omega)
      rw [Addr.add_mid] at h1 h2 h3
      exact ⟨h1, by rw [Nat.add_assoc]; exact h2, by rw [Nat.add_assoc]; exact h3⟩
end
end Go.Proofs.Ytefebimnebpodaa.Base
