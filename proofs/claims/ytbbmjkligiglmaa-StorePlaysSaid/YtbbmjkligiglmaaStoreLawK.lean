/-
  The calls that a law of stores is given: a slice of structs (an int, a string, a slice of samples, two ints) that came in. No program stands here.
-/
import Derived.Test.YtbbmjkligiglmaaSerLawK
import Derived.Test.YtbbmjkligiglmaaLawA
import Derived.SizedLaws
namespace Go.Proofs.Ytbbmjkligiglmaa.Store
open Go.RowKit Go.ChangeShapes Go.WideShapes Go.ChangeAt Base _root_.Go.Proofs.Ytbbmjkligiglmaa.Series

/-- one call -/
structure Ac where
  op : Int
  nm : ByteArray
  l : List (Int × Int)
  f : Int
  t : Int
  deriving Inhabited
/-- v is a slice of them that reads as l -/
def ActsIs (w : World) (v : Value) (l : List Ac) : Prop :=
  ∃ (a : Option Addr) (cap pb po : Nat), v = .slice a l.length cap ∧ l.length ≤ cap ∧ (0 < l.length → a = some ⟨pb, po, none⟩) ∧
    (∀ j t, l[j]? = some t → w.cell? ⟨pb, po + j * 5, none⟩ = some (.int .i64 t.op) ∧ w.cell? ⟨pb, po + j * 5 + 1, none⟩ = some (.string t.nm) ∧ (∃ A C, w.cell? ⟨pb, po + j * 5 + 2, none⟩ = some (.slice A t.l.length C) ∧ PairsIs w (.slice A t.l.length C) t.l) ∧
      w.cell? ⟨pb, po + j * 5 + 3, none⟩ = some (.int .i64 t.f) ∧ w.cell? ⟨pb, po + j * 5 + 4, none⟩ = some (.int .i64 t.t))
/-- it can come in -/
structure SizedAc (t : Ac) : Prop where
  op : inI64 t.op
  nm : t.nm.size ≤ 140737488351232
  len : t.l.length ≤ 9223372036854775807
  l : SizedS t.l
  f : inI64 t.f
  t : inI64 t.t
section
variable {H : Type} {enc : TypeId × Value → H} {P : Program} {w : World}
theorem trod_struct5x {base : Nat} {spare : Nat → Bool} {held : Bool} {t : TypeId} {f0 f1 f2 f3 f4 : Field} {fuel : Nat} {cs : List Value} {x : DataW H × List MemPlace} (ht : P.underlying t = some (.struct #[f0, f1, f2, f3, f4])) (h : DataW.trod enc P w base spare held fuel t cs = some x) :
    ∃ y0 y1 y2 y3 y4 n, x.1 = .agg [y0.1, y1.1, y2.1, y3.1, y4.1] ∧ cs.length = P.cellsOf t ∧ DataW.trod enc P w base spare held n f0.type ((cs.drop f0.offset).take (P.cellsOf f0.type)) = some y0 ∧
      DataW.trod enc P w base spare held n f1.type ((cs.drop f1.offset).take (P.cellsOf f1.type)) = some y1 ∧ DataW.trod enc P w base spare held n f2.type ((cs.drop f2.offset).take (P.cellsOf f2.type)) = some y2 ∧
      DataW.trod enc P w base spare held n f3.type ((cs.drop f3.offset).take (P.cellsOf f3.type)) = some y3 ∧ DataW.trod enc P w base spare held n f4.type ((cs.drop f4.offset).take (P.cellsOf f4.type)) = some y4 := by
  obtain ⟨xs, n, _, rfl, hl, hlen, hf⟩ := DataW.trod_struct ht h
  match xs, hlen with
  | [y0, y1, y2, y3, y4], _ => exact ⟨y0, y1, y2, y3, y4, n, rfl, hl, by simpa using hf 0 f0 rfl, by simpa using hf 1 f1 rfl, by simpa using hf 2 f2 rfl, by simpa using hf 3 f3 rfl, by simpa using hf 4 f4 rfl⟩
theorem weights_mem_all {e : TypeId} {d : DataW H} : ∀ {ds : List (DataW H)}, d ∈ ds → ∀ n ∈ d.weights P e, n ∈ DataW.weightsAll P e ds
  | x :: ds, h, n, hn => by
    simp only [DataW.weightsAll, List.mem_append]
    rcases List.mem_cons.1 h with rfl | h
    · exact .inl hn
    · exact .inr (weights_mem_all h n hn)
theorem open_acts {r : Reach} {b0 : Nat} {t e s q : TypeId} {f0 f1 f2 f3 f4 g0 g1 : Field} {v : Value} {d : DataW H} {ps : List MemPlace} (ht : P.underlying t = some (.slice e)) (he : P.underlying e = some (.struct #[f0, f1, f2, f3, f4]))
    (ce : P.cellsOf e = 5) (o0 : f0.offset = 0) (o1 : f1.offset = 1) (o2 : f2.offset = 2) (o3 : f3.offset = 3) (o4 : f4.offset = 4) (c0 : P.cellsOf f0.type = 1) (c1 : P.cellsOf f1.type = 1) (c2 : P.cellsOf f2.type = 1) (c3 : P.cellsOf f3.type = 1) (c4 : P.cellsOf f4.type = 1)
    (u0 : P.underlying f0.type = some (.int .i64)) (u1 : P.underlying f1.type = some .string) (e2 : f2.type = s) (u3 : P.underlying f3.type = some (.int .i64)) (u4 : P.underlying f4.type = some (.int .i64))
    (us : P.underlying s = some (.slice q)) (uq : P.underlying q = some (.struct #[g0, g1])) (cq : P.cellsOf q = 2) (p0 : g0.offset = 0) (p1 : g1.offset = 1) (d0 : P.cellsOf g0.type = 1) (d1 : P.cellsOf g1.type = 1) (v0 : P.underlying g0.type = some (.int .i64)) (v1 : P.underlying g1.type = some (.int .i64))
    (hval : Value.okWide P w r b0 t v) (hd : DataW.Trod enc P w 0 (fun _ => true) true t v d ps) (hz : (d.weights P t).all (· ≤ reachBytes) = true) :
    ∃ l, ActsIs w v l ∧ l.length ≤ 9223372036854775807 ∧ ∀ q ∈ l, SizedAc q := by
  obtain ⟨a0, len0, cap0, rfl⟩ := okWide_slice ht hval
  obtain ⟨fuel, hf⟩ := hd
  rcases Deep.open_slice ht hf with ⟨h0, _⟩ | ⟨a, len, cap, m, n, D, Pl, h1, _, hle, hmax, hm, hxd, hx⟩
  · simp [Value.cells] at h0
    obtain ⟨rfl, rfl, rfl⟩ := h0
    exact ⟨[], ⟨none, 0, 0, 0, rfl, Nat.le_refl _, fun h => absurd h (by simp), fun j t hj => by simp at hj⟩, by simp, fun q hq => by simp at hq⟩
  · simp [Value.cells] at h1
    obtain ⟨rfl, rfl, rfl⟩ := h1
    simp only [Prod.mk.injEq] at hxd
    obtain ⟨rfl, rfl⟩ := hxd
    have hlm : len0 ≤ m := by rw [hm]; split <;> omega
    have wei : ∀ i, i < len0 → ∀ n ∈ (D i).weights P e, n ≤ 140737488351232 := fun i hi n hn => by
      have h1 : n ∈ DataW.weightsAll P e ((List.range len0).map D) := weights_mem_all (List.mem_map.2 ⟨i, by simpa using hi, rfl⟩) n hn
      have h2 := List.all_eq_true.1 hz n (by simp only [DataW.weights, ht, List.mem_cons, List.mem_append]; exact .inr (.inl h1))
      have h3 : n ≤ reachBytes := by simpa using h2
      exact h3
    have each : ∀ i, i < len0 → ∃ q : Ac, (w.cell? (a.add (i * 5)) = some (.int .i64 q.op) ∧ w.cell? (a.add (i * 5 + 1)) = some (.string q.nm) ∧ (∃ A C, w.cell? (a.add (i * 5 + 2)) = some (.slice A q.l.length C) ∧ PairsIs w (.slice A q.l.length C) q.l) ∧ w.cell? (a.add (i * 5 + 3)) = some (.int .i64 q.f) ∧ w.cell? (a.add (i * 5 + 4)) = some (.int .i64 q.t)) ∧ SizedAc q := by
      intro i hi
      obtain ⟨cs', h1, h2⟩ := hx i (by omega)
      rw [ce] at h1
      obtain ⟨_, hlen, hcell⟩ := World.cells?_some h1
      obtain ⟨y0, y1, y2, y3, y4, k, hag, _, g0, g1, g2, g3, g4⟩ := trod_struct5x he h2
      obtain ⟨z0, z1, z2, z3, z4, rfl⟩ := list5 hlen
      rw [e2] at g2 c2
      simp [o0, o1, o2, o3, o4, c0, c1, c2, c3, c4] at g0 g1 g2 g3 g4
      have e0 := hcell 0 (by omega)
      have e1 := hcell 1 (by omega)
      have e2' := hcell 2 (by omega)
      have e3 := hcell 3 (by omega)
      have e4 := hcell 4 (by omega)
      rw [Deep.add_add] at e0 e1 e2' e3 e4
      obtain ⟨n0, x0, _, w0⟩ := DataW.trod_int u0 g0
      obtain ⟨s1, x1, hy1, _⟩ := DataW.trod_string u1 g1
      obtain ⟨l, A, C, hv, hp, hl, hss⟩ := pairs_cell us uq cq p0 p1 d0 d1 v0 v1 g2
      obtain ⟨n3, x3, _, w3⟩ := DataW.trod_int u3 g3
      obtain ⟨n4, x4, _, w4⟩ := DataW.trod_int u4 g4
      simp only [List.cons.injEq, and_true] at x0 x1 x3 x4
      subst x0 x1 x3 x4
      have hsz : s1.size ≤ 140737488351232 := wei i hi _ (by
        have hag' : D i = .agg [y0.1, y1.1, y2.1, y3.1, y4.1] := hag
        rw [hag']
        simp only [DataW.weights, he]
        refine DataW.weights_mem_each (j := 1) (t := f1.type) (d := y1.1) rfl rfl _ ?_
        rw [hy1]
        simp only [DataW.weights, List.mem_singleton]
        exact (Array.length_toList).symm)
      exact ⟨⟨n0, s1, l, n3, n4⟩, ⟨by simpa using e0, by simpa using e1, ⟨A, C, by rw [← hv]; simpa using e2', by rw [← hv]; exact hp⟩, by simpa using e3, by simpa using e4⟩, bounds_i64 w0, hsz, hl, hss, bounds_i64 w3, bounds_i64 w4⟩
    obtain ⟨q, hq⟩ := Deep.choose_lt each
    obtain ⟨ab, ao, sp⟩ := a
    have hlen : ((List.range len0).map q).length = len0 := by simp
    refine ⟨(List.range len0).map q, ?_, by rw [hlen]; unfold maxLen at hmax; omega, fun x hx => ?_⟩
    · by_cases h0 : len0 = 0
      · subst h0
        exact ⟨some ⟨ab, ao, sp⟩, cap0, 0, 0, by simp, by simp, fun h => absurd h (by simp), fun j t hj => by simp at hj⟩
      · have hsp : sp = none := by
          have h0 := (hq 0 (by omega)).1.1
          simpa [Addr.add] using World.cell?_spot h0
        subst hsp
        refine ⟨some ⟨ab, ao, none⟩, cap0, ab, ao, by rw [hlen], by rw [hlen]; exact hle, fun _ => rfl, fun j t hj => ?_⟩
        have hj' : j < len0 := by have := (List.getElem?_eq_some_iff.1 hj).1; rwa [hlen] at this
        rw [List.getElem?_map, List.getElem?_range hj'] at hj
        simp only [Option.map_some, Option.some.injEq] at hj
        subst hj
        obtain ⟨⟨h1, h2, h3, h4, h5⟩, _⟩ := hq j (by omega)
        simp only [Addr.add_mid, ← Nat.add_assoc] at h1 h2 h3 h4 h5
        exact ⟨h1, h2, h3, h4, h5⟩
    · simp only [List.mem_map, List.mem_range] at hx
      obtain ⟨i, hi, rfl⟩ := hx
      exact (hq i hi).2
end
end Go.Proofs.Ytbbmjkligiglmaa.Store
