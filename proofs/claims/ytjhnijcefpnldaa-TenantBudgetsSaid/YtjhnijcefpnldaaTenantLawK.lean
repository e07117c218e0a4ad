/-
  A slice of tenants that came in.
-/
import Derived.Test.YtjhnijcefpnldaaTenantMem
import Derived.Test.YtjhnijcefpnldaaLawQ
import Derived.ChangeArms
namespace Go.Proofs.Ytjhnijcefpnldaa.Tenant
open Go.RowKit Go.ChangeShapes Go.WideShapes Go.ChangeAt Base

section
variable {H : Type} {enc : TypeId × Value → H} {P : Program} {w : World}
theorem trod_struct9 {base : Nat} {spare : Nat → Bool} {held : Bool} {t : TypeId} {f0 f1 f2 f3 f4 f5 f6 f7 f8 : Field} {fuel : Nat} {cs : List Value} {x : DataW H × List MemPlace} (ht : P.underlying t = some (.struct #[f0, f1, f2, f3, f4, f5, f6, f7, f8])) (h : DataW.trod enc P w base spare held fuel t cs = some x) :
    ∃ y0 y1 y2 y3 y4 y5 y6 y7 y8 n, cs.length = P.cellsOf t ∧ DataW.trod enc P w base spare held n f0.type ((cs.drop f0.offset).take (P.cellsOf f0.type)) = some y0 ∧
      DataW.trod enc P w base spare held n f1.type ((cs.drop f1.offset).take (P.cellsOf f1.type)) = some y1 ∧
      DataW.trod enc P w base spare held n f2.type ((cs.drop f2.offset).take (P.cellsOf f2.type)) = some y2 ∧
      DataW.trod enc P w base spare held n f3.type ((cs.drop f3.offset).take (P.cellsOf f3.type)) = some y3 ∧
      DataW.trod enc P w base spare held n f4.type ((cs.drop f4.offset).take (P.cellsOf f4.type)) = some y4 ∧
      DataW.trod enc P w base spare held n f5.type ((cs.drop f5.offset).take (P.cellsOf f5.type)) = some y5 ∧
      DataW.trod enc P w base spare held n f6.type ((cs.drop f6.offset).take (P.cellsOf f6.type)) = some y6 ∧
      DataW.trod enc P w base spare held n f7.type ((cs.drop f7.offset).take (P.cellsOf f7.type)) = some y7 ∧
      DataW.trod enc P w base spare held n f8.type ((cs.drop f8.offset).take (P.cellsOf f8.type)) = some y8 := by
  obtain ⟨xs, n, _, rfl, hl, hlen, hf⟩ := DataW.trod_struct ht h
  match xs, hlen with
  | [y0, y1, y2, y3, y4, y5, y6, y7, y8], _ => exact ⟨y0, y1, y2, y3, y4, y5, y6, y7, y8, n, hl, by simpa using hf 0 f0 rfl, by simpa using hf 1 f1 rfl, by simpa using hf 2 f2 rfl, by simpa using hf 3 f3 rfl, by simpa using hf 4 f4 rfl, by simpa using hf 5 f5 rfl, by simpa using hf 6 f6 rfl, by simpa using hf 7 f7 rfl, by simpa using hf 8 f8 rfl⟩
theorem list9 {α : Type} {cs : List α} (h : cs.length = 9) : ∃ c0 c1 c2 c3 c4 c5 c6 c7 c8, cs = [c0, c1, c2, c3, c4, c5, c6, c7, c8] := by
  match cs, h with
  | [c0, c1, c2, c3, c4, c5, c6, c7, c8], _ => exact ⟨c0, c1, c2, c3, c4, c5, c6, c7, c8, rfl⟩
theorem tenant_cells {t eb : TypeId} {f0 f1 f2 f3 f4 f5 f6 f7 f8 : Field} {cs : List Value} {fuel : Nat} {x : DataW H × List MemPlace} (ht : P.underlying t = some (.struct #[f0, f1, f2, f3, f4, f5, f6, f7, f8])) (hl : cs.length = 9)
    (o0 : f0.offset = 0) (o1 : f1.offset = 1) (o2 : f2.offset = 2) (o3 : f3.offset = 3) (o4 : f4.offset = 4) (o5 : f5.offset = 5) (o6 : f6.offset = 6) (o7 : f7.offset = 7) (o8 : f8.offset = 8) (c0 : P.cellsOf f0.type = 1) (c1 : P.cellsOf f1.type = 1) (c2 : P.cellsOf f2.type = 1) (c3 : P.cellsOf f3.type = 1) (c4 : P.cellsOf f4.type = 1) (c5 : P.cellsOf f5.type = 1) (c6 : P.cellsOf f6.type = 1) (c7 : P.cellsOf f7.type = 1) (c8 : P.cellsOf f8.type = 1)
    (u0 : P.underlying f0.type = some (.int .i64)) (u1 : P.underlying f1.type = some (.slice eb)) (u2 : P.underlying f2.type = some (.int .i64)) (u3 : P.underlying f3.type = some (.int .i64)) (u4 : P.underlying f4.type = some (.int .i64)) (u5 : P.underlying f5.type = some (.int .i64)) (u6 : P.underlying f6.type = some (.int .i64)) (u7 : P.underlying f7.type = some (.int .i64)) (u8 : P.underlying f8.type = some (.int .i64)) (ub : P.underlying eb = some (.int .u8)) (cb : P.cellsOf eb = 1)
    (h : DataW.trod enc P w 0 (fun _ => true) true fuel t cs = some x) : ∃ (r : Tn) (A : Option Addr) (C : Nat), cs = (t9 (.slice A r.key.length C) r).toList ∧ BytesIs w (.slice A r.key.length C) r.key ∧ SizedT r := by
  obtain ⟨y0, y1, y2, y3, y4, y5, y6, y7, y8, k, _, g0, g1, g2, g3, g4, g5, g6, g7, g8⟩ := trod_struct9 ht h
  obtain ⟨v0, v1, v2, v3, v4, v5, v6, v7, v8, rfl⟩ := list9 hl
  simp [o0, c0, o1, c1, o2, c2, o3, c3, o4, c4, o5, c5, o6, c6, o7, c7, o8, c8] at g0 g1 g2 g3 g4 g5 g6 g7 g8
  obtain ⟨n0, x0, _, w0⟩ := DataW.trod_int u0 g0
  obtain ⟨n2, x2, _, w2⟩ := DataW.trod_int u2 g2
  obtain ⟨n3, x3, _, w3⟩ := DataW.trod_int u3 g3
  obtain ⟨n4, x4, _, w4⟩ := DataW.trod_int u4 g4
  obtain ⟨n5, x5, _, w5⟩ := DataW.trod_int u5 g5
  obtain ⟨n6, x6, _, w6⟩ := DataW.trod_int u6 g6
  obtain ⟨n7, x7, _, w7⟩ := DataW.trod_int u7 g7
  obtain ⟨n8, x8, _, w8⟩ := DataW.trod_int u8 g8
  obtain ⟨bs, hb, hbl⟩ := bytes_cell u1 ub cb g1
  simp only [List.cons.injEq, and_true] at x0 x2 x3 x4 x5 x6 x7 x8
  subst x0 x2 x3 x4 x5 x6 x7 x8
  obtain ⟨A, C, rfl⟩ := hb.form
  exact ⟨⟨n0, bs, n2, n3, n4, n5, n6, n7, n8⟩, A, C, rfl, hb, bounds_i64 w0, hbl, bounds_i64 w3, bounds_i64 w2, bounds_i64 w4, bounds_i64 w5, bounds_i64 w6, bounds_i64 w7, bounds_i64 w8⟩
theorem open_tenants {r : Reach} {b0 : Nat} {t e eb : TypeId} {f0 f1 f2 f3 f4 f5 f6 f7 f8 : Field} {v : Value} {d : DataW H} {ps : List MemPlace} (ht : P.underlying t = some (.slice e)) (he : P.underlying e = some (.struct #[f0, f1, f2, f3, f4, f5, f6, f7, f8]))
    (ce : P.cellsOf e = 9) (o0 : f0.offset = 0) (o1 : f1.offset = 1) (o2 : f2.offset = 2) (o3 : f3.offset = 3) (o4 : f4.offset = 4) (o5 : f5.offset = 5) (o6 : f6.offset = 6) (o7 : f7.offset = 7) (o8 : f8.offset = 8) (c0 : P.cellsOf f0.type = 1) (c1 : P.cellsOf f1.type = 1) (c2 : P.cellsOf f2.type = 1) (c3 : P.cellsOf f3.type = 1) (c4 : P.cellsOf f4.type = 1) (c5 : P.cellsOf f5.type = 1) (c6 : P.cellsOf f6.type = 1) (c7 : P.cellsOf f7.type = 1) (c8 : P.cellsOf f8.type = 1)
    (u0 : P.underlying f0.type = some (.int .i64)) (u1 : P.underlying f1.type = some (.slice eb)) (u2 : P.underlying f2.type = some (.int .i64)) (u3 : P.underlying f3.type = some (.int .i64)) (u4 : P.underlying f4.type = some (.int .i64)) (u5 : P.underlying f5.type = some (.int .i64)) (u6 : P.underlying f6.type = some (.int .i64)) (u7 : P.underlying f7.type = some (.int .i64)) (u8 : P.underlying f8.type = some (.int .i64)) (ub : P.underlying eb = some (.int .u8)) (cb : P.cellsOf eb = 1)
    (hval : Value.okWide P w r b0 t v) (hd : DataW.Trod enc P w 0 (fun _ => true) true t v d ps) :
    ∃ l : List Tn, Tens w v l ∧ l.length ≤ 9223372036854775807 ∧ ∀ q ∈ l, SizedT q := by
  obtain ⟨a0, len0, cap0, rfl⟩ := okWide_slice ht hval
  obtain ⟨fuel, hf⟩ := hd
  rcases Deep.open_slice ht hf with ⟨h0, _⟩ | ⟨a, len, cap, m, n, D, Pl, h1, _, hle, hmax, hm, _, hx⟩
  · simp [Value.cells] at h0
    obtain ⟨rfl, rfl, rfl⟩ := h0
    exact ⟨[], ⟨[], rfl, fun p hp => by simp at hp, ValsIs.nil w⟩, by simp, fun q hq => by simp at hq⟩
  · simp [Value.cells] at h1
    obtain ⟨rfl, rfl, rfl⟩ := h1
    have hlm : len0 ≤ m := by rw [hm]; split <;> omega
    have each : ∀ i, i < m → ∃ q : At, ((∀ k, k < 9 → w.cell? (a.add (i * 9 + k)) = some (c9 q.1 q.2 k)) ∧ BytesIs w q.1 q.2.key ∧ q.1.oneCell' = true) ∧ SizedT q.2 := by
      intro i hi
      obtain ⟨cs', h1, h2⟩ := hx i hi
      rw [ce] at h1
      obtain ⟨_, hlen, hcell⟩ := World.cells?_some h1
      obtain ⟨q, A, C, hcs, hb, hs⟩ := tenant_cells he hlen o0 o1 o2 o3 o4 o5 o6 o7 o8 c0 c1 c2 c3 c4 c5 c6 c7 c8 u0 u1 u2 u3 u4 u5 u6 u7 u8 ub cb h2
      subst hcs
      refine ⟨(.slice A q.key.length C, q), ⟨fun k hk => ?_, hb, rfl⟩, hs⟩
      have e := hcell k (by show k < 9; exact hk)
      rw [Deep.add_add] at e
      rw [e]
      match k, hk with
      | 0, _ => rfl
      | 1, _ => rfl
      | 2, _ => rfl
      | 3, _ => rfl
      | 4, _ => rfl
      | 5, _ => rfl
      | 6, _ => rfl
      | 7, _ => rfl
      | 8, _ => rfl
    obtain ⟨q, hq⟩ := Deep.choose_lt each
    obtain ⟨ab, ao, sp⟩ := a
    have hlen : ((List.range len0).map q).length = len0 := by simp
    refine ⟨((List.range len0).map q).map (·.2), ⟨(List.range len0).map q, rfl, fun p hp => ?_, ?_⟩, by rw [List.length_map, hlen]; unfold maxLen at hmax; omega, fun x hx => ?_⟩
    · simp only [List.mem_map, List.mem_range] at hp
      obtain ⟨i, hi, rfl⟩ := hp
      obtain ⟨⟨_, h2, h3⟩, _⟩ := hq i (by omega)
      exact ⟨h2, h3⟩
    · by_cases h0 : len0 = 0
      · subst h0
        exact ⟨some ⟨ab, ao, sp⟩, cap0, 0, 0, by simp, by simp, fun h => absurd h (by simp), fun j hj => by simp [tcells] at hj⟩
      · have hsp : sp = none := by
          have h0 := (hq 0 (by omega)).1.1 0 (by decide)
          simpa [Addr.add] using World.cell?_spot h0
        subst hsp
        refine ⟨some ⟨ab, ao, none⟩, cap0, ab, ao, by rw [hlen], by rw [hlen]; exact hle, fun _ => rfl, fun j hj => ?_⟩
        have hkl := tcells_length ((List.range len0).map q)
        have hj9 : j / 9 < len0 := by omega
        have hjj : j = j / 9 * 9 + j % 9 := by omega
        have hg := tcells_get ((List.range len0).map q) (j / 9) (by omega) (j % 9) (by omega)
        obtain ⟨⟨h1, _⟩, _⟩ := hq (j / 9) (by omega)
        have h1 := h1 (j % 9) (by omega)
        rw [← hjj] at hg h1
        rw [List.getD_eq_getElem?_getD, hg]
        simp only [Addr.add_mid] at h1
        rw [h1]
        simp
    · simp only [List.map_map, List.mem_map, List.mem_range] at hx
      obtain ⟨i, hi, rfl⟩ := hx
      exact (hq i (by omega)).2
end
end Go.Proofs.Ytjhnijcefpnldaa.Tenant
