/-
  A slice of structs of four ints and a slice of bytes that came in.
-/
import Derived.Test.YtnglmkombogheaaWays
import Derived.Deep.Strs
namespace Go.Proofs.Ytnglmkombogheaa.Base
open Go.RowKit Go.ChangeShapes Go.WideShapes Go.ChangeAt

abbrev Quint := Int × Int × Int × Int × List UInt8
/-- v is a slice of such structs that reads as l -/
def QuintsIs (w : World) (v : Value) (l : List Quint) : Prop :=
  ∃ (a : Option Addr) (cap pb po : Nat), v = .slice a l.length cap ∧ l.length ≤ cap ∧ (0 < l.length → a = some ⟨pb, po, none⟩) ∧
    (∀ j t, l[j]? = some t → w.cell? ⟨pb, po + j * 5, none⟩ = some (.int .i64 t.1) ∧ w.cell? ⟨pb, po + j * 5 + 1, none⟩ = some (.int .i64 t.2.1) ∧ w.cell? ⟨pb, po + j * 5 + 2, none⟩ = some (.int .i64 t.2.2.1) ∧ w.cell? ⟨pb, po + j * 5 + 3, none⟩ = some (.int .i64 t.2.2.2.1) ∧
      ∃ pv, w.cell? ⟨pb, po + j * 5 + 4, none⟩ = some pv ∧ BytesIs w pv t.2.2.2.2)
def inI64 (n : Int) : Prop := -9223372036854775808 ≤ n ∧ n ≤ 9223372036854775807
section
variable {H : Type} {enc : TypeId × Value → H} {P : Program} {w : World}
/-- one cell that is a slice of bytes -/
theorem bytes_cell {t e : TypeId} {v : Value} {fuel : Nat} {x : DataW H × List MemPlace} (ht : P.underlying t = some (.slice e)) (he : P.underlying e = some (.int .u8)) (hc : P.cellsOf e = 1) (hf : DataW.trod enc P w 0 (fun _ => true) true fuel t [v] = some x) :
    ∃ l, BytesIs w v l ∧ l.length ≤ 9223372036854775807 := by
  rcases open_ints ht he hc hf with ⟨h0, _⟩ | ⟨a, len, cap, zs, h1, _, hle, hmax, hlen, _, hcell, hwf⟩
  · simp only [List.cons.injEq, and_true] at h0
    subst h0
    exact ⟨[], BytesIs.nil w, by simp⟩
  · simp only [List.cons.injEq, and_true] at h1
    subst h1
    simp at hlen
    have hl : ((zs.take len).map fun n => UInt8.ofNat n.toNat).length = len := by simp; omega
    refine ⟨(zs.take len).map fun n => UInt8.ofNat n.toNat, ?_, by rw [hl]; unfold maxLen at hmax; omega⟩
    obtain ⟨ab, ao, sp⟩ := a
    by_cases h0 : len = 0
    · subst h0
      exact ⟨some ⟨ab, ao, sp⟩, cap, 0, 0, by rw [hl], by rw [hl]; omega, fun h => absurd h (by simp), fun j hj => absurd hj (by simp)⟩
    · have hsp : sp = none := by
        have := hcell 0 (by omega)
        rw [show (⟨ab, ao, sp⟩ : Addr).add 0 = ⟨ab, ao, sp⟩ from by simp [Addr.add]] at this
        cases sp with
        | none => rfl
        | some q => simp [World.cell?] at this; split at this <;> simp_all
      subst hsp
      refine ⟨_, cap, ab, ao, by rw [hl], by rw [hl]; exact hle, fun _ => rfl, fun j hj => ?_⟩
      rw [hl] at hj
      have h1 := hcell j (by omega)
      rw [Addr.add_mid] at h1
      rw [h1]
      have hm : zs.getD j 0 ∈ zs := by
        rw [List.getD_eq_getElem?_getD, List.getElem?_eq_getElem (by omega)]
        exact List.getElem_mem _
      have e : ((zs.take len).map fun n => UInt8.ofNat n.toNat).getD j 0 = UInt8.ofNat (zs.getD j 0).toNat := by
        simp [hj, show j < zs.length from by omega]
      rw [e, u8_of_wf (hwf _ hm)]
theorem trod_struct5 {base : Nat} {spare : Nat → Bool} {held : Bool} {t : TypeId} {f0 f1 f2 f3 f4 : Field} {fuel : Nat} {cs : List Value} {x : DataW H × List MemPlace} (ht : P.underlying t = some (.struct #[f0, f1, f2, f3, f4])) (h : DataW.trod enc P w base spare held fuel t cs = some x) :
    ∃ y0 y1 y2 y3 y4 n, cs.length = P.cellsOf t ∧ DataW.trod enc P w base spare held n f0.type ((cs.drop f0.offset).take (P.cellsOf f0.type)) = some y0 ∧
      DataW.trod enc P w base spare held n f1.type ((cs.drop f1.offset).take (P.cellsOf f1.type)) = some y1 ∧ DataW.trod enc P w base spare held n f2.type ((cs.drop f2.offset).take (P.cellsOf f2.type)) = some y2 ∧
      DataW.trod enc P w base spare held n f3.type ((cs.drop f3.offset).take (P.cellsOf f3.type)) = some y3 ∧ DataW.trod enc P w base spare held n f4.type ((cs.drop f4.offset).take (P.cellsOf f4.type)) = some y4 := by
  obtain ⟨xs, n, _, rfl, hl, hlen, hf⟩ := DataW.trod_struct ht h
  match xs, hlen with
  | [y0, y1, y2, y3, y4], _ => exact ⟨y0, y1, y2, y3, y4, n, hl, by simpa using hf 0 f0 rfl, by simpa using hf 1 f1 rfl, by simpa using hf 2 f2 rfl, by simpa using hf 3 f3 rfl, by simpa using hf 4 f4 rfl⟩
theorem list5 {α : Type} {cs : List α} (h : cs.length = 5) : ∃ c0 c1 c2 c3 c4, cs = [c0, c1, c2, c3, c4] := by
  match cs, h with
  | [c0, c1, c2, c3, c4], _ => exact ⟨c0, c1, c2, c3, c4, rfl⟩
theorem open_quints {r : Reach} {b0 : Nat} {t e eb : TypeId} {f0 f1 f2 f3 f4 : Field} {v : Value} {d : DataW H} {ps : List MemPlace} (ht : P.underlying t = some (.slice e)) (he : P.underlying e = some (.struct #[f0, f1, f2, f3, f4]))
    (ce : P.cellsOf e = 5) (o0 : f0.offset = 0) (o1 : f1.offset = 1) (o2 : f2.offset = 2) (o3 : f3.offset = 3) (o4 : f4.offset = 4) (c0 : P.cellsOf f0.type = 1) (c1 : P.cellsOf f1.type = 1) (c2 : P.cellsOf f2.type = 1) (c3 : P.cellsOf f3.type = 1) (c4 : P.cellsOf f4.type = 1)
    (u0 : P.underlying f0.type = some (.int .i64)) (u1 : P.underlying f1.type = some (.int .i64)) (u2 : P.underlying f2.type = some (.int .i64)) (u3 : P.underlying f3.type = some (.int .i64)) (u4 : P.underlying f4.type = some (.slice eb)) (ub : P.underlying eb = some (.int .u8)) (cb : P.cellsOf eb = 1)
    (hval : Value.okWide P w r b0 t v) (hd : DataW.Trod enc P w 0 (fun _ => true) true t v d ps) :
    ∃ l, QuintsIs w v l ∧ l.length ≤ 9223372036854775807 ∧ ∀ q ∈ l, inI64 q.1 ∧ inI64 q.2.1 ∧ inI64 q.2.2.1 ∧ inI64 q.2.2.2.1 ∧ q.2.2.2.2.length ≤ 9223372036854775807 := by
  obtain ⟨a0, len0, cap0, rfl⟩ := okWide_slice ht hval
  obtain ⟨fuel, hf⟩ := hd
  rcases Deep.open_slice ht hf with ⟨h0, _⟩ | ⟨a, len, cap, m, n, D, Pl, h1, _, hle, hmax, hm, _, hx⟩
  · simp [Value.cells] at h0
    obtain ⟨rfl, rfl, rfl⟩ := h0
    exact ⟨[], ⟨none, 0, 0, 0, rfl, Nat.le_refl _, fun h => absurd h (by simp), fun j t hj => by simp at hj⟩, by simp, fun q hq => by simp at hq⟩
  · simp [Value.cells] at h1
    obtain ⟨rfl, rfl, rfl⟩ := h1
    have hlm : len0 ≤ m := by rw [hm]; split <;> omega
    have each : ∀ i, i < m → ∃ q : Quint, (w.cell? (a.add (i * 5)) = some (.int .i64 q.1) ∧ w.cell? (a.add (i * 5 + 1)) = some (.int .i64 q.2.1) ∧ w.cell? (a.add (i * 5 + 2)) = some (.int .i64 q.2.2.1) ∧ w.cell? (a.add (i * 5 + 3)) = some (.int .i64 q.2.2.2.1) ∧
        ∃ pv, w.cell? (a.add (i * 5 + 4)) = some pv ∧ BytesIs w pv q.2.2.2.2) ∧ inI64 q.1 ∧ inI64 q.2.1 ∧ inI64 q.2.2.1 ∧ inI64 q.2.2.2.1 ∧ q.2.2.2.2.length ≤ 9223372036854775807 := by
      intro i hi
      obtain ⟨cs', h1, h2⟩ := hx i hi
      rw [ce] at h1
      obtain ⟨_, hlen, hcell⟩ := World.cells?_some h1
      obtain ⟨y0, y1, y2, y3, y4, k, _, g0, g1, g2, g3, g4⟩ := trod_struct5 he h2
      obtain ⟨v0, v1, v2, v3, v4, rfl⟩ := list5 hlen
      simp [o0, o1, o2, o3, o4, c0, c1, c2, c3, c4] at g0 g1 g2 g3 g4
      have e0 := hcell 0 (by omega)
      have e1 := hcell 1 (by omega)
      have e2 := hcell 2 (by omega)
      have e3 := hcell 3 (by omega)
      have e4 := hcell 4 (by omega)
      rw [Deep.add_add] at e0 e1 e2 e3 e4
      obtain ⟨n0, x0, _, w0⟩ := DataW.trod_int u0 g0
      obtain ⟨n1, x1, _, w1⟩ := DataW.trod_int u1 g1
      obtain ⟨n2, x2, _, w2⟩ := DataW.trod_int u2 g2
      obtain ⟨n3, x3, _, w3⟩ := DataW.trod_int u3 g3
      obtain ⟨bs, hb, hbl⟩ := bytes_cell u4 ub cb g4
      simp only [List.cons.injEq, and_true] at x0 x1 x2 x3
      subst x0 x1 x2 x3
      exact ⟨(n0, n1, n2, n3, bs), ⟨by simpa using e0, by simpa using e1, by simpa using e2, by simpa using e3, v4, by simpa using e4, hb⟩, bounds_i64 w0, bounds_i64 w1, bounds_i64 w2, bounds_i64 w3, hbl⟩
    obtain ⟨q, hq⟩ := Deep.choose_lt each
    obtain ⟨ab, ao, sp⟩ := a
    have hlen : ((List.range len0).map q).length = len0 := by simp
    refine ⟨(List.range len0).map q, ?_, by rw [hlen]; unfold maxLen at hmax; omega, fun x hx => ?_⟩
    · by_cases h0 : len0 = 0
      · subst h0
        exact ⟨some ⟨ab, ao, sp⟩, cap0, 0, 0, by simp, by simp, fun h => absurd h (by simp), fun j t hj => by simp at hj⟩
      · have hsp : sp = none := by
          have h0 := (hq 0 (by omega)).1.1
          simpa [Addr.add] using World.cell?_spot h0
        subst hsp
        refine ⟨some ⟨ab, ao, none⟩, cap0, ab, ao, by rw [hlen], by rw [hlen]; exact hle, fun _ => rfl, fun j t hj => ?_⟩
        have hj' : j < len0 := by have := (List.getElem?_eq_some_iff.1 hj).1; rwa [hlen] at this
        rw [List.getElem?_map, List.getElem?_range hj'] at hj
        simp only [Option.map_some, Option.some.injEq] at hj
        subst hj
        obtain ⟨⟨h1, h2, h3, h4, h5⟩, _⟩ := hq j (by omega)
        simp only [Addr.add_mid, ← Nat.add_assoc] at h1 h2 h3 h4 h5
        exact ⟨h1, h2, h3, h4, h5⟩
    · simp only [List.mem_map, List.mem_range] at hx
      obtain ⟨i, hi, rfl⟩ := hx
      exact (hq i (by omega)).2
end
end Go.Proofs.Ytnglmkombogheaa.Base
