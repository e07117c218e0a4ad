/-
  A slice of structs of three ints and a slice of bytes that came in.
-/
import Derived.Test.YtjhnijcefpnldaaLawA
namespace Go.Proofs.Ytjhnijcefpnldaa.Base
open Go.RowKit Go.ChangeShapes Go.WideShapes Go.ChangeAt

abbrev Quad := Int × Int × Int × List UInt8
/-- v is a slice of such structs that reads as l -/
def QuadsIs (w : World) (v : Value) (l : List Quad) : Prop :=
  ∃ (a : Option Addr) (cap pb po : Nat), v = .slice a l.length cap ∧ l.length ≤ cap ∧ (0 < l.length → a = some ⟨pb, po, none⟩) ∧
    (∀ j t, l[j]? = some t → w.cell? ⟨pb, po + j * 4, none⟩ = some (.int .i64 t.1) ∧ w.cell? ⟨pb, po + j * 4 + 1, none⟩ = some (.int .i64 t.2.1) ∧ w.cell? ⟨pb, po + j * 4 + 2, none⟩ = some (.int .i64 t.2.2.1) ∧
      ∃ pv, w.cell? ⟨pb, po + j * 4 + 3, none⟩ = some pv ∧ BytesIs w pv t.2.2.2)
section
variable {H : Type} {enc : TypeId × Value → H} {P : Program} {w : World}
theorem trod_struct4 {base : Nat} {spare : Nat → Bool} {held : Bool} {t : TypeId} {f0 f1 f2 f3 : Field} {fuel : Nat} {cs : List Value} {x : DataW H × List MemPlace} (ht : P.underlying t = some (.struct #[f0, f1, f2, f3])) (h : DataW.trod enc P w base spare held fuel t cs = some x) :
    ∃ y0 y1 y2 y3 n, cs.length = P.cellsOf t ∧ DataW.trod enc P w base spare held n f0.type ((cs.drop f0.offset).take (P.cellsOf f0.type)) = some y0 ∧
      DataW.trod enc P w base spare held n f1.type ((cs.drop f1.offset).take (P.cellsOf f1.type)) = some y1 ∧ DataW.trod enc P w base spare held n f2.type ((cs.drop f2.offset).take (P.cellsOf f2.type)) = some y2 ∧
      DataW.trod enc P w base spare held n f3.type ((cs.drop f3.offset).take (P.cellsOf f3.type)) = some y3 := by
  obtain ⟨xs, n, _, rfl, hl, hlen, hf⟩ := DataW.trod_struct ht h
  match xs, hlen with
  | [y0, y1, y2, y3], _ => exact ⟨y0, y1, y2, y3, n, hl, by simpa using hf 0 f0 rfl, by simpa using hf 1 f1 rfl, by simpa using hf 2 f2 rfl, by simpa using hf 3 f3 rfl⟩
theorem list4 {α : Type} {cs : List α} (h : cs.length = 4) : ∃ c0 c1 c2 c3, cs = [c0, c1, c2, c3] := by
  match cs, h with
  | [c0, c1, c2, c3], _ => exact ⟨c0, c1, c2, c3, rfl⟩
theorem open_quads {r : Reach} {b0 : Nat} {t e eb : TypeId} {f0 f1 f2 f3 : Field} {v : Value} {d : DataW H} {ps : List MemPlace} (ht : P.underlying t = some (.slice e)) (he : P.underlying e = some (.struct #[f0, f1, f2, f3]))
    (ce : P.cellsOf e = 4) (o0 : f0.offset = 0) (o1 : f1.offset = 1) (o2 : f2.offset = 2) (o3 : f3.offset = 3) (c0 : P.cellsOf f0.type = 1) (c1 : P.cellsOf f1.type = 1) (c2 : P.cellsOf f2.type = 1) (c3 : P.cellsOf f3.type = 1)
    (u0 : P.underlying f0.type = some (.int .i64)) (u1 : P.underlying f1.type = some (.int .i64)) (u2 : P.underlying f2.type = some (.int .i64)) (u3 : P.underlying f3.type = some (.slice eb)) (ub : P.underlying eb = some (.int .u8)) (cb : P.cellsOf eb = 1)
    (hval : Value.okWide P w r b0 t v) (hd : DataW.Trod enc P w 0 (fun _ => true) true t v d ps) :
    ∃ l, QuadsIs w v l ∧ l.length ≤ 9223372036854775807 ∧ ∀ q ∈ l, inI64 q.1 ∧ inI64 q.2.1 ∧ inI64 q.2.2.1 ∧ q.2.2.2.length ≤ 9223372036854775807 := by
  obtain ⟨a0, len0, cap0, rfl⟩ := okWide_slice ht hval
  obtain ⟨fuel, hf⟩ := hd
  rcases Deep.open_slice ht hf with ⟨h0, _⟩ | ⟨a, len, cap, m, n, D, Pl, h1, _, hle, hmax, hm, _, hx⟩
  · simp [Value.cells] at h0
    obtain ⟨rfl, rfl, rfl⟩ := h0
    exact ⟨[], ⟨none, 0, 0, 0, rfl, Nat.le_refl _, fun h => absurd h (by simp), fun j t hj => by simp at hj⟩, by simp, fun q hq => by simp at hq⟩
  · simp [Value.cells] at h1
    obtain ⟨rfl, rfl, rfl⟩ := h1
    have hlm : len0 ≤ m := by rw [hm]; split <;> omega
    have each : ∀ i, i < m → ∃ q : Quad, (w.cell? (a.add (i * 4)) = some (.int .i64 q.1) ∧ w.cell? (a.add (i * 4 + 1)) = some (.int .i64 q.2.1) ∧ w.cell? (a.add (i * 4 + 2)) = some (.int .i64 q.2.2.1) ∧
        ∃ pv, w.cell? (a.add (i * 4 + 3)) = some pv ∧ BytesIs w pv q.2.2.2) ∧ inI64 q.1 ∧ inI64 q.2.1 ∧ inI64 q.2.2.1 ∧ q.2.2.2.length ≤ 9223372036854775807 := by
      intro i hi
      obtain ⟨cs', h1, h2⟩ := hx i hi
      rw [ce] at h1
      obtain ⟨_, hlen, hcell⟩ := World.cells?_some h1
      obtain ⟨y0, y1, y2, y3, k, _, g0, g1, g2, g3⟩ := trod_struct4 he h2
      obtain ⟨v0, v1, v2, v3, rfl⟩ := list4 hlen
      simp [o0, o1, o2, o3, c0, c1, c2, c3] at g0 g1 g2 g3
      have e0 := hcell 0 (by omega)
      have e1 := hcell 1 (by omega)
      have e2 := hcell 2 (by omega)
      have e3 := hcell 3 (by omega)
      rw [Deep.add_add] at e0 e1 e2 e3
      obtain ⟨n0, x0, _, w0⟩ := DataW.trod_int u0 g0
      obtain ⟨n1, x1, _, w1⟩ := DataW.trod_int u1 g1
      obtain ⟨n2, x2, _, w2⟩ := DataW.trod_int u2 g2
      obtain ⟨bs, hb, hbl⟩ := bytes_cell u3 ub cb g3
      simp only [List.cons.injEq, and_true] at x0 x1 x2
      subst x0 x1 x2
      exact ⟨(n0, n1, n2, bs), ⟨by simpa using e0, by simpa using e1, by simpa using e2, v3, by simpa using e3, hb⟩, bounds_i64 w0, bounds_i64 w1, bounds_i64 w2, hbl⟩
    obtain ⟨q, hq⟩ := Deep.choose_lt each
    obtain ⟨ab, ao, sp⟩ := a
    have hlen : ((List.range len0).map q).length = len0 := by simp
    refine ⟨(List.range len0).map q, ?_, by rw [hlen]; unfold maxLen at hmax; omega, fun x hx => ?_⟩
    · by_cases h0 : len0 = 0
      · subst h0
        exact ⟨some ⟨ab, ao, sp⟩, cap0, 0, 0, by simp, by simp, fun h => absurd h (by simp), fun j t hj => by simp at hj⟩
      · have hsp : sp = none := by
          have h0 := (hq 0 (by omega)).1.1
          simpa [Addr.add] using World.cell?_spot h0
        subst hsp
        refine ⟨some ⟨ab, ao, none⟩, cap0, ab, ao, by rw [hlen], by rw [hlen]; exact hle, fun _ => rfl, fun j t hj => ?_⟩
        have hj' : j < len0 := by have := (List.getElem?_eq_some_iff.1 hj).1; rwa [hlen] at this
        rw [List.getElem?_map, List.getElem?_range hj'] at hj
        simp only [Option.map_some, Option.some.injEq] at hj
        subst hj
        obtain ⟨⟨h1, h2, h3, h4⟩, _⟩ := hq j (by omega)
        simp only [Addr.add_mid, ← Nat.add_assoc] at h1 h2 h3 h4
        exact ⟨h1, h2, h3, h4⟩
    · simp only [List.mem_map, List.mem_range] at hx
      obtain ⟨i, hi, rfl⟩ := hx
      exact (hq i (by omega)).2
end
end Go.Proofs.Ytjhnijcefpnldaa.Base
