/-
  A request that came in by value.
-/
import Derived.Test.YtmnbihpcgkgebaaAskRefGood
import Derived.Test.YtmnbihpcgkgebaaLawP
import Derived.ChangeMaps5
namespace Go.Proofs.Ytmnbihpcgkgebaa.Ask
open Go.RowKit Go.ChangeShapes Go.WideShapes Go.ChangeAt Base

section
variable {H : Type} {enc : TypeId × Value → H} {P : Program} {w : World}
theorem trod_struct6 {base : Nat} {spare : Nat → Bool} {held : Bool} {t : TypeId} {f0 f1 f2 f3 f4 f5 : Field} {fuel : Nat} {cs : List Value} {x : DataW H × List MemPlace} (ht : P.underlying t = some (.struct #[f0, f1, f2, f3, f4, f5])) (h : DataW.trod enc P w base spare held fuel t cs = some x) :
    ∃ y0 y1 y2 y3 y4 y5 n, cs.length = P.cellsOf t ∧ DataW.trod enc P w base spare held n f0.type ((cs.drop f0.offset).take (P.cellsOf f0.type)) = some y0 ∧
      DataW.trod enc P w base spare held n f1.type ((cs.drop f1.offset).take (P.cellsOf f1.type)) = some y1 ∧ DataW.trod enc P w base spare held n f2.type ((cs.drop f2.offset).take (P.cellsOf f2.type)) = some y2 ∧
      DataW.trod enc P w base spare held n f3.type ((cs.drop f3.offset).take (P.cellsOf f3.type)) = some y3 ∧ DataW.trod enc P w base spare held n f4.type ((cs.drop f4.offset).take (P.cellsOf f4.type)) = some y4 ∧ DataW.trod enc P w base spare held n f5.type ((cs.drop f5.offset).take (P.cellsOf f5.type)) = some y5 := by
  obtain ⟨xs, n, _, rfl, hl, hlen, hf⟩ := DataW.trod_struct ht h
  match xs, hlen with
  | [y0, y1, y2, y3, y4, y5], _ => exact ⟨y0, y1, y2, y3, y4, y5, n, hl, by simpa using hf 0 f0 rfl, by simpa using hf 1 f1 rfl, by simpa using hf 2 f2 rfl, by simpa using hf 3 f3 rfl, by simpa using hf 4 f4 rfl, by simpa using hf 5 f5 rfl⟩
theorem list6 {α : Type} {cs : List α} (h : cs.length = 6) : ∃ c0 c1 c2 c3 c4 c5, cs = [c0, c1, c2, c3, c4, c5] := by
  match cs, h with
  | [c0, c1, c2, c3, c4, c5], _ => exact ⟨c0, c1, c2, c3, c4, c5, rfl⟩
/-- one cell that is a slice of pairs -/
theorem pairs_cell {t e : TypeId} {f0 f1 : Field} {v : Value} {fuel : Nat} {x : DataW H × List MemPlace} (ht : P.underlying t = some (.slice e)) (he : P.underlying e = some (.struct #[f0, f1]))
    (ce : P.cellsOf e = 2) (o0 : f0.offset = 0) (o1 : f1.offset = 1) (c0 : P.cellsOf f0.type = 1) (c1 : P.cellsOf f1.type = 1) (u0 : P.underlying f0.type = some (.int .i64)) (u1 : P.underlying f1.type = some (.int .i64))
    (hf : DataW.trod enc P w 0 (fun _ => true) true fuel t [v] = some x) :
    ∃ l A C, v = .slice A l.length C ∧ PairsIs w v l ∧ l.length ≤ 9223372036854775807 ∧ ∀ q ∈ l, (-9223372036854775808 ≤ q.1 ∧ q.1 ≤ 9223372036854775807) ∧ (-9223372036854775808 ≤ q.2 ∧ q.2 ≤ 9223372036854775807) := by
  rcases Deep.open_slice_pairs ht he ce o0 o1 c0 c1 hf with ⟨h0, _⟩ | ⟨a, len, cap, m, n, V0, V1, D0, D1, P0, P1, h1, _, hle, hmax, hm, _, hcell⟩
  · simp only [List.cons.injEq, and_true] at h0
    subst h0
    exact ⟨[], none, 0, rfl, ⟨none, 0, 0, 0, rfl, Nat.le_refl _, fun h => absurd h (by simp), fun j hj => absurd hj (by simp)⟩, by simp, fun q hq => by simp at hq⟩
  · simp only [List.cons.injEq, and_true] at h1
    subst h1
    have hlm : len ≤ m := by rw [hm]; split <;> omega
    have key : ∀ i, i < m → V0 i = .int .i64 (intOf (V0 i)) ∧ V1 i = .int .i64 (intOf (V1 i)) ∧ (-9223372036854775808 ≤ intOf (V0 i) ∧ intOf (V0 i) ≤ 9223372036854775807) ∧ (-9223372036854775808 ≤ intOf (V1 i) ∧ intOf (V1 i) ≤ 9223372036854775807) := fun i hi => by
      obtain ⟨_, _, h3, h4⟩ := hcell i hi
      obtain ⟨n0, e0, _, w0⟩ := DataW.trod_int u0 h3
      obtain ⟨n1, e1, _, w1⟩ := DataW.trod_int u1 h4
      simp only [List.cons.injEq, and_true] at e0 e1
      rw [e0, e1]
      exact ⟨rfl, rfl, bounds_i64 w0, bounds_i64 w1⟩
    obtain ⟨ab, ao, sp⟩ := a
    have hlen : ((List.range len).map fun i => (intOf (V0 i), intOf (V1 i))).length = len := by simp
    refine ⟨(List.range len).map fun i => (intOf (V0 i), intOf (V1 i)), some ⟨ab, ao, sp⟩, cap, by rw [hlen], ?_, by rw [hlen]; unfold maxLen at hmax; omega, fun q hq => ?_⟩
    · by_cases h0 : len = 0
      · subst h0
        exact ⟨some ⟨ab, ao, sp⟩, cap, 0, 0, by simp, by simp, fun h => absurd h (by simp), fun j hj => absurd hj (by simp)⟩
      · have hsp : sp = none := by
          have h0 := (hcell 0 (by omega)).1
          simpa [Addr.add] using World.cell?_spot h0
        subst hsp
        refine ⟨some ⟨ab, ao, none⟩, cap, ab, ao, by rw [hlen], by rw [hlen]; exact hle, fun _ => rfl, fun j hj => ?_⟩
        rw [hlen] at hj
        obtain ⟨h1, h2, _, _⟩ := hcell j (by omega)
        obtain ⟨k0, k1, _, _⟩ := key j (by omega)
        have hg : ((List.range len).map fun i => (intOf (V0 i), intOf (V1 i))).getD j (0, 0) = (intOf (V0 j), intOf (V1 j)) := by
          rw [List.getD_eq_getElem?_getD, List.getElem?_map, List.getElem?_range hj]
          rfl
        rw [hg]
        rw [Addr.add_mid] at h1 h2
        exact ⟨by rw [h1, ← k0], by rw [Nat.add_assoc, h2, ← k1]⟩
    · simp only [List.mem_map, List.mem_range] at hq
      obtain ⟨i, hi, rfl⟩ := hq
      obtain ⟨_, _, k2, k3⟩ := key i (by omega)
      exact ⟨k2, k3⟩
/-- a request that came in -/
def In (w : World) (a : Rq) (v : Value) : Prop := ∃ A C, v = .agg (rv (.slice A a.s.length C) a) ∧ PairsIs w (.slice A a.s.length C) a.s
def Sized (a : Rq) : Prop := a.n.length ≤ 9223372036854775807 ∧ a.s.length ≤ 9223372036854775807 ∧ Fits a ∧ (-9223372036854775808 ≤ a.k ∧ a.k ≤ 9223372036854775807) ∧ (-9223372036854775808 ≤ a.wn ∧ a.wn ≤ 9223372036854775807)
theorem open_ask {r : Reach} {b0 : Nat} {t e : TypeId} {f0 f1 f2 f3 f4 f5 g0 g1 : Field} {v : Value} {d : DataW H} {ps : List MemPlace} (ht : P.underlying t = some (.struct #[f0, f1, f2, f3, f4, f5])) (ct : P.cellsOf t = 6)
    (o : #[f0, f1, f2, f3, f4, f5].map (·.offset) = #[0, 1, 2, 3, 4, 5]) (c : #[f0, f1, f2, f3, f4, f5].map (fun f => P.cellsOf f.type) = #[1, 1, 1, 1, 1, 1])
    (u0 : P.underlying f0.type = some (.int .i64)) (u1 : P.underlying f1.type = some .string) (u2 : P.underlying f2.type = some (.slice e)) (u3 : P.underlying f3.type = some (.int .i64)) (u4 : P.underlying f4.type = some (.int .i64)) (u5 : P.underlying f5.type = some (.int .i64))
    (he : P.underlying e = some (.struct #[g0, g1])) (ce : P.cellsOf e = 2) (p0 : g0.offset = 0) (p1 : g1.offset = 1) (q0 : P.cellsOf g0.type = 1) (q1 : P.cellsOf g1.type = 1) (x0 : P.underlying g0.type = some (.int .i64)) (x1 : P.underlying g1.type = some (.int .i64))
    (hval : Value.okWide P w r b0 t v) (hd : DataW.Trod enc P w 0 (fun _ => true) true t v d ps) :
    ∃ a : Rq, In w a v ∧ Sized a := by
  obtain ⟨cs, rfl, hsz⟩ := okWide_struct ht hval
  obtain ⟨fuel, hf⟩ := hd
  rw [ct] at hsz
  obtain ⟨y0, y1, y2, y3, y4, y5, k, _, h0, h1, h2, h3, h4, h5⟩ := trod_struct6 ht hf
  obtain ⟨v0, v1, v2, v3, v4, v5, hv⟩ := list6 (cs := cs.toList) (by simpa using hsz)
  simp at o c
  obtain ⟨o0, o1, o2, o3, o4, o5⟩ := o
  obtain ⟨c0, c1, c2, c3, c4, c5⟩ := c
  simp only [Value.cells] at h0 h1 h2 h3 h4 h5
  rw [hv] at h0 h1 h2 h3 h4 h5
  simp [o0, o1, o2, o3, o4, o5, c0, c1, c2, c3, c4, c5] at h0 h1 h2 h3 h4 h5
  obtain ⟨n0, e0, _, w0⟩ := DataW.trod_int u0 h0
  obtain ⟨s1, e1, _, w1⟩ := DataW.trod_string u1 h1
  obtain ⟨l, A, C, e2, hp, hl, hq⟩ := pairs_cell u2 he ce p0 p1 q0 q1 x0 x1 h2
  obtain ⟨n3, e3, _, w3⟩ := DataW.trod_int u3 h3
  obtain ⟨n4, e4, _, w4⟩ := DataW.trod_int u4 h4
  obtain ⟨n5, e5, _, w5⟩ := DataW.trod_int u5 h5
  simp only [List.cons.injEq, and_true] at e0 e1 e3 e4 e5
  subst e0 e1 e2 e3 e4 e5
  refine ⟨⟨n0, s1.data.toList, l, n3, n4, n5⟩, ⟨A, C, ?_, hp⟩, ?_, hl, ⟨hq, bounds_i64 w3, bounds_i64 w4⟩, bounds_i64 w0, bounds_i64 w5⟩
  · unfold rv
    congr 1
    apply Array.toList_inj.1
    rw [hv]
  · unfold maxLen at w1
    rw [Array.length_toList]
    show s1.size ≤ _
    omega
end
end Go.Proofs.Ytmnbihpcgkgebaa.Ask
