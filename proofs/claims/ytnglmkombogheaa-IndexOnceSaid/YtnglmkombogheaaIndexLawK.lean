/-
  What a law is given: a slice of structs (two ints, an entry) that came in. No program stands here.
-/
import Derived.Test.YtnglmkombogheaaIndexSpec
import Derived.Test.YtnglmkombogheaaLawA
import Derived.SizedLaws
namespace Go.Proofs.Ytnglmkombogheaa.Index
open Go.RowKit Go.ChangeShapes Go.WideShapes Go.ChangeAt Base 

structure Ac20 where
  op : Int
  n : Int
  k : ByteArray
  s : ByteArray
  id : Int
  sz : Int
  u : Bool
  deriving Inhabited
/-- it lies from a place on -/
structure Ac20At (w : World) (b o : Nat) (q : Ac20) : Prop where
  h_op : w.cell? ⟨b, o, none⟩ = some (.int .i64 q.op)
  h_n : w.cell? ⟨b, o + 1, none⟩ = some (.int .i64 q.n)
  h_k : w.cell? ⟨b, o + 2, none⟩ = some (.string q.k)
  h_s : w.cell? ⟨b, o + 3, none⟩ = some (.string q.s)
  h_id : w.cell? ⟨b, o + 4, none⟩ = some (.int .i64 q.id)
  h_sz : w.cell? ⟨b, o + 5, none⟩ = some (.int .i64 q.sz)
  h_u : w.cell? ⟨b, o + 6, none⟩ = some (.bool q.u)
theorem Ac20At.fr {S : Nat → Prop} {w w' : World} {b o : Nat} {q : Ac20} (h : Ac20At w b o q) (hf : Fr S w w') (hs : ¬ S b) : Ac20At w' b o q := by
  have hb : b < w.heap.size := World.block_lt_of_cell? w _ h.h_op
  exact ⟨(hf.cell (p := ⟨b, o, none⟩) hb hs).trans h.h_op, (hf.cell (p := ⟨b, o + 1, none⟩) hb hs).trans h.h_n, (hf.cell (p := ⟨b, o + 2, none⟩) hb hs).trans h.h_k, (hf.cell (p := ⟨b, o + 3, none⟩) hb hs).trans h.h_s, (hf.cell (p := ⟨b, o + 4, none⟩) hb hs).trans h.h_id, (hf.cell (p := ⟨b, o + 5, none⟩) hb hs).trans h.h_sz, (hf.cell (p := ⟨b, o + 6, none⟩) hb hs).trans h.h_u⟩
/-- v is a slice of them that reads as l -/
def Ac20sIs (w : World) (v : Value) (l : List Ac20) : Prop :=
  ∃ (a : Option Addr) (cap pb po : Nat), v = .slice a l.length cap ∧ l.length ≤ cap ∧ (0 < l.length → a = some ⟨pb, po, none⟩) ∧ ∀ j t, l[j]? = some t → Ac20At w pb (po + j * 7) t
/-- it can come in -/
structure SizedAc20 (t : Ac20) : Prop where
  s_op : inI64 t.op
  s_n : inI64 t.n
  s_k : t.k.size ≤ 140737488351232
  s_s : t.s.size ≤ 140737488351232
  s_id : inI64 t.id
  s_sz : inI64 t.sz
  s_u : True
section
variable {H : Type} {enc : TypeId × Value → H} {P : Program} {w : World}
theorem trod_Ac20_3 {base : Nat} {spare : Nat → Bool} {held : Bool} {t : TypeId} {f0 f1 f2 : Field} {fuel : Nat} {cs : List Value} {x : DataW H × List MemPlace} (ht : P.underlying t = some (.struct #[f0, f1, f2])) (h : DataW.trod enc P w base spare held fuel t cs = some x) :
    ∃ y0 y1 y2 n, x.1 = .agg [y0.1, y1.1, y2.1] ∧ cs.length = P.cellsOf t ∧ DataW.trod enc P w base spare held n f0.type ((cs.drop f0.offset).take (P.cellsOf f0.type)) = some y0 ∧ DataW.trod enc P w base spare held n f1.type ((cs.drop f1.offset).take (P.cellsOf f1.type)) = some y1 ∧ DataW.trod enc P w base spare held n f2.type ((cs.drop f2.offset).take (P.cellsOf f2.type)) = some y2 := by
  obtain ⟨xs, n, _, rfl, hl, hlen, hf⟩ := DataW.trod_struct ht h
  match xs, hlen with
  | [y0, y1, y2], _ => exact ⟨y0, y1, y2, n, rfl, hl, by simpa using hf 0 f0 rfl, by simpa using hf 1 f1 rfl, by simpa using hf 2 f2 rfl⟩
theorem trod_Ac20_5 {base : Nat} {spare : Nat → Bool} {held : Bool} {t : TypeId} {f0 f1 f2 f3 f4 : Field} {fuel : Nat} {cs : List Value} {x : DataW H × List MemPlace} (ht : P.underlying t = some (.struct #[f0, f1, f2, f3, f4])) (h : DataW.trod enc P w base spare held fuel t cs = some x) :
    ∃ y0 y1 y2 y3 y4 n, x.1 = .agg [y0.1, y1.1, y2.1, y3.1, y4.1] ∧ cs.length = P.cellsOf t ∧ DataW.trod enc P w base spare held n f0.type ((cs.drop f0.offset).take (P.cellsOf f0.type)) = some y0 ∧ DataW.trod enc P w base spare held n f1.type ((cs.drop f1.offset).take (P.cellsOf f1.type)) = some y1 ∧ DataW.trod enc P w base spare held n f2.type ((cs.drop f2.offset).take (P.cellsOf f2.type)) = some y2 ∧ DataW.trod enc P w base spare held n f3.type ((cs.drop f3.offset).take (P.cellsOf f3.type)) = some y3 ∧ DataW.trod enc P w base spare held n f4.type ((cs.drop f4.offset).take (P.cellsOf f4.type)) = some y4 := by
  obtain ⟨xs, n, _, rfl, hl, hlen, hf⟩ := DataW.trod_struct ht h
  match xs, hlen with
  | [y0, y1, y2, y3, y4], _ => exact ⟨y0, y1, y2, y3, y4, n, rfl, hl, by simpa using hf 0 f0 rfl, by simpa using hf 1 f1 rfl, by simpa using hf 2 f2 rfl, by simpa using hf 3 f3 rfl, by simpa using hf 4 f4 rfl⟩
theorem list_Ac20 {α : Type} {cs : List α} (h : cs.length = 7) : ∃ c0 c1 c2 c3 c4 c5 c6, cs = [c0, c1, c2, c3, c4, c5, c6] := by
  match cs, h with
  | [c0, c1, c2, c3, c4, c5, c6], _ => exact ⟨c0, c1, c2, c3, c4, c5, c6, rfl⟩
theorem weights_Ac20_all {e : TypeId} {d : DataW H} : ∀ {ds : List (DataW H)}, d ∈ ds → ∀ n ∈ d.weights P e, n ∈ DataW.weightsAll P e ds
  | x :: ds, h, n, hn => by
    simp only [DataW.weightsAll, List.mem_append]
    rcases List.mem_cons.1 h with rfl | h
    · exact .inl hn
    · exact .inr (weights_Ac20_all h n hn)
theorem cells_Ac20 {e t2 : TypeId} {f0 f1 f2 f2_0 f2_1 f2_2 f2_3 f2_4 : Field} {cs : List Value} {fuel : Nat} {x : DataW H × List MemPlace} (he : P.underlying e = some (.struct #[f0, f1, f2])) (hlen : cs.length = 7)
    (o0 : f0.offset = 0) (c0 : P.cellsOf f0.type = 1) (o1 : f1.offset = 1) (c1 : P.cellsOf f1.type = 1) (o2 : f2.offset = 2) (c2 : P.cellsOf f2.type = 5) (u0 : P.underlying f0.type = some (.int .i64)) (u1 : P.underlying f1.type = some (.int .i64)) (e2 : f2.type = t2) (u2 : P.underlying t2 = some (.struct #[f2_0, f2_1, f2_2, f2_3, f2_4])) (o2_0 : f2_0.offset = 0) (c2_0 : P.cellsOf f2_0.type = 1) (o2_1 : f2_1.offset = 1) (c2_1 : P.cellsOf f2_1.type = 1) (o2_2 : f2_2.offset = 2) (c2_2 : P.cellsOf f2_2.type = 1) (o2_3 : f2_3.offset = 3) (c2_3 : P.cellsOf f2_3.type = 1) (o2_4 : f2_4.offset = 4) (c2_4 : P.cellsOf f2_4.type = 1) (u2_0 : P.underlying f2_0.type = some .string) (u2_1 : P.underlying f2_1.type = some .string) (u2_2 : P.underlying f2_2.type = some (.int .i64)) (u2_3 : P.underlying f2_3.type = some (.int .i64)) (u2_4 : P.underlying f2_4.type = some .bool)
    (hf : DataW.trod enc P w 0 (fun _ => true) true fuel e cs = some x) (hw : ∀ n ∈ x.1.weights P e, n ≤ 140737488351232) :
    ∃ q : Ac20, cs = [.int .i64 q.op, .int .i64 q.n, .string q.k, .string q.s, .int .i64 q.id, .int .i64 q.sz, .bool q.u] ∧ SizedAc20 q := by
  obtain ⟨z0, z1, z2, z3, z4, z5, z6, rfl⟩ := list_Ac20 hlen
  obtain ⟨y0, y1, y2, k, hag, _, g0, g1, g2⟩ := trod_Ac20_3 he hf
  simp [o0, c0, o1, c1, o2, c2] at g0 g1 g2
  rw [e2] at g2
  obtain ⟨y2_0, y2_1, y2_2, y2_3, y2_4, k2_, hag2_, _, g2_0, g2_1, g2_2, g2_3, g2_4⟩ := trod_Ac20_5 u2 g2
  simp [o2_0, c2_0, o2_1, c2_1, o2_2, c2_2, o2_3, c2_3, o2_4, c2_4] at g2_0 g2_1 g2_2 g2_3 g2_4
  obtain ⟨n0, x0, _, w0⟩ := DataW.trod_int u0 g0
  obtain ⟨n1, x1, _, w1⟩ := DataW.trod_int u1 g1
  obtain ⟨n2, x2, hy2, _⟩ := DataW.trod_string u2_0 g2_0
  obtain ⟨n3, x3, hy3, _⟩ := DataW.trod_string u2_1 g2_1
  obtain ⟨n4, x4, _, w4⟩ := DataW.trod_int u2_2 g2_2
  obtain ⟨n5, x5, _, w5⟩ := DataW.trod_int u2_3 g2_3
  obtain ⟨n6, x6, _⟩ := DataW.trod_bool u2_4 g2_4
  simp only [List.cons.injEq, and_true] at x0 x1 x2 x3 x4 x5 x6
  subst x0 x1 x2 x3 x4 x5 x6
  have hs2 : n2.size ≤ 140737488351232 := hw _ (by
    rw [hag]
    simp only [DataW.weights, he]
    refine DataW.weights_mem_each (j := 2) (t := f2.type) (d := y2.1) rfl rfl _ ?_
    rw [e2]
    rw [hag2_]
    simp only [DataW.weights, u2]
    refine DataW.weights_mem_each (j := 0) (t := f2_0.type) (d := y2_0.1) rfl rfl _ ?_
    rw [hy2]
    simp only [DataW.weights, List.mem_singleton]
    exact (Array.length_toList).symm)
  have hs3 : n3.size ≤ 140737488351232 := hw _ (by
    rw [hag]
    simp only [DataW.weights, he]
    refine DataW.weights_mem_each (j := 2) (t := f2.type) (d := y2.1) rfl rfl _ ?_
    rw [e2]
    rw [hag2_]
    simp only [DataW.weights, u2]
    refine DataW.weights_mem_each (j := 1) (t := f2_1.type) (d := y2_1.1) rfl rfl _ ?_
    rw [hy3]
    simp only [DataW.weights, List.mem_singleton]
    exact (Array.length_toList).symm)
  exact ⟨⟨n0, n1, n2, n3, n4, n5, n6⟩, rfl, ⟨bounds_i64 w0, bounds_i64 w1, hs2, hs3, bounds_i64 w4, bounds_i64 w5, trivial⟩⟩
theorem open_Ac20s {r : Reach} {b0 : Nat} {t : TypeId} {e t2 : TypeId} {f0 f1 f2 f2_0 f2_1 f2_2 f2_3 f2_4 : Field} {v : Value} {d : DataW H} {ps : List MemPlace} (ht : P.underlying t = some (.slice e)) (he : P.underlying e = some (.struct #[f0, f1, f2])) (ce : P.cellsOf e = 7)
    (o0 : f0.offset = 0) (c0 : P.cellsOf f0.type = 1) (o1 : f1.offset = 1) (c1 : P.cellsOf f1.type = 1) (o2 : f2.offset = 2) (c2 : P.cellsOf f2.type = 5) (u0 : P.underlying f0.type = some (.int .i64)) (u1 : P.underlying f1.type = some (.int .i64)) (e2 : f2.type = t2) (u2 : P.underlying t2 = some (.struct #[f2_0, f2_1, f2_2, f2_3, f2_4])) (o2_0 : f2_0.offset = 0) (c2_0 : P.cellsOf f2_0.type = 1) (o2_1 : f2_1.offset = 1) (c2_1 : P.cellsOf f2_1.type = 1) (o2_2 : f2_2.offset = 2) (c2_2 : P.cellsOf f2_2.type = 1) (o2_3 : f2_3.offset = 3) (c2_3 : P.cellsOf f2_3.type = 1) (o2_4 : f2_4.offset = 4) (c2_4 : P.cellsOf f2_4.type = 1) (u2_0 : P.underlying f2_0.type = some .string) (u2_1 : P.underlying f2_1.type = some .string) (u2_2 : P.underlying f2_2.type = some (.int .i64)) (u2_3 : P.underlying f2_3.type = some (.int .i64)) (u2_4 : P.underlying f2_4.type = some .bool)
    (hval : Value.okWide P w r b0 t v) (hd : DataW.Trod enc P w 0 (fun _ => true) true t v d ps) (hz : (d.weights P t).all (· ≤ reachBytes) = true) :
    ∃ l, Ac20sIs w v l ∧ l.length ≤ 9223372036854775807 ∧ ∀ q ∈ l, SizedAc20 q := by
  obtain ⟨a0, len0, cap0, rfl⟩ := okWide_slice ht hval
  obtain ⟨fuel, hf⟩ := hd
  rcases Deep.open_slice ht hf with ⟨h0, _⟩ | ⟨a, len, cap, m, n, D, Pl, h1, _, hle, hmax, hm, hxd, hx⟩
  · simp [Value.cells] at h0
    obtain ⟨rfl, rfl, rfl⟩ := h0
    exact ⟨[], ⟨none, 0, 0, 0, rfl, Nat.le_refl _, fun h => absurd h (by simp), fun j t hj => by simp at hj⟩, by simp, fun q hq => by simp at hq⟩
  · simp [Value.cells] at h1
    obtain ⟨rfl, rfl, rfl⟩ := h1
    simp only [Prod.mk.injEq] at hxd
    obtain ⟨rfl, rfl⟩ := hxd
    have hlm : len0 ≤ m := by rw [hm]; split <;> omega
    have wei : ∀ i, i < len0 → ∀ n ∈ (D i).weights P e, n ≤ 140737488351232 := fun i hi n hn => by
      have h1 : n ∈ DataW.weightsAll P e ((List.range len0).map D) := weights_Ac20_all (List.mem_map.2 ⟨i, by simpa using hi, rfl⟩) n hn
      have h2 := List.all_eq_true.1 hz n (by simp only [DataW.weights, ht, List.mem_cons, List.mem_append]; exact .inr (.inl h1))
      have h3 : n ≤ reachBytes := by simpa using h2
      exact h3
    have each : ∀ i, i < len0 → ∃ q : Ac20, (w.cell? (a.add (i * 7 + 0)) = some (.int .i64 q.op) ∧ w.cell? (a.add (i * 7 + 1)) = some (.int .i64 q.n) ∧ w.cell? (a.add (i * 7 + 2)) = some (.string q.k) ∧ w.cell? (a.add (i * 7 + 3)) = some (.string q.s) ∧ w.cell? (a.add (i * 7 + 4)) = some (.int .i64 q.id) ∧ w.cell? (a.add (i * 7 + 5)) = some (.int .i64 q.sz) ∧ w.cell? (a.add (i * 7 + 6)) = some (.bool q.u)) ∧ SizedAc20 q := by
      intro i hi
      obtain ⟨cs', h1, h2⟩ := hx i (by omega)
      rw [ce] at h1
      obtain ⟨_, hlen, hcell⟩ := World.cells?_some h1
      obtain ⟨q, rfl, hs⟩ := cells_Ac20 he hlen o0 c0 o1 c1 o2 c2 u0 u1 e2 u2 o2_0 c2_0 o2_1 c2_1 o2_2 c2_2 o2_3 c2_3 o2_4 c2_4 u2_0 u2_1 u2_2 u2_3 u2_4 h2 (wei i hi)
      have e0 := hcell 0 (by omega)
      have e1 := hcell 1 (by omega)
      have e2 := hcell 2 (by omega)
      have e3 := hcell 3 (by omega)
      have e4 := hcell 4 (by omega)
      have e5 := hcell 5 (by omega)
      have e6 := hcell 6 (by omega)
      rw [Deep.add_add] at e0 e1 e2 e3 e4 e5 e6
      exact ⟨q, ⟨by simpa using e0, by simpa using e1, by simpa using e2, by simpa using e3, by simpa using e4, by simpa using e5, by simpa using e6⟩, hs⟩
    obtain ⟨q, hq⟩ := Deep.choose_lt each
    obtain ⟨ab, ao, sp⟩ := a
    have hlen : ((List.range len0).map q).length = len0 := by simp
    refine ⟨(List.range len0).map q, ?_, by rw [hlen]; unfold maxLen at hmax; omega, fun x hx => ?_⟩
    · by_cases h0 : len0 = 0
      · subst h0
        exact ⟨some ⟨ab, ao, sp⟩, cap0, 0, 0, by simp, by simp, fun h => absurd h (by simp), fun j t hj => by simp at hj⟩
      · have hsp : sp = none := by
          have h0 := (hq 0 (by omega)).1.1
          simpa [Addr.add] using World.cell?_spot h0
        subst hsp
        refine ⟨some ⟨ab, ao, none⟩, cap0, ab, ao, by rw [hlen], by rw [hlen]; exact hle, fun _ => rfl, fun j t hj => ?_⟩
        have hj' : j < len0 := by have := (List.getElem?_eq_some_iff.1 hj).1; rwa [hlen] at this
        rw [List.getElem?_map, List.getElem?_range hj'] at hj
        simp only [Option.map_some, Option.some.injEq] at hj
        subst hj
        obtain ⟨⟨h0, h1, h2, h3, h4, h5, h6⟩, _⟩ := hq j (by omega)
        simp only [Addr.add_mid, ← Nat.add_assoc] at h0 h1 h2 h3 h4 h5 h6
        exact ⟨h0, h1, h2, h3, h4, h5, h6⟩
    · simp only [List.mem_map, List.mem_range] at hx
      obtain ⟨i, hi, rfl⟩ := hx
      exact (hq i hi).2
end
end Go.Proofs.Ytnglmkombogheaa.Index
