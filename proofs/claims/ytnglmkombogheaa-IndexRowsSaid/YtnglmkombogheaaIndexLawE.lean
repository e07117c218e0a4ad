/-
  What a law is given: an entry that came in. No program stands here.
-/
import Derived.Test.YtnglmkombogheaaIndexSpec
import Derived.Test.YtnglmkombogheaaLawA
import Derived.SizedLaws
namespace Go.Proofs.Ytnglmkombogheaa.Index
open Go.RowKit Go.ChangeShapes Go.WideShapes Go.ChangeAt Base 

/-- it lies from a place on -/
structure EnAt (w : World) (b o : Nat) (q : En) : Prop where
  h_k : w.cell? ⟨b, o, none⟩ = some (.string q.k)
  h_s : w.cell? ⟨b, o + 1, none⟩ = some (.string q.s)
  h_id : w.cell? ⟨b, o + 2, none⟩ = some (.int .i64 q.id)
  h_sz : w.cell? ⟨b, o + 3, none⟩ = some (.int .i64 q.sz)
  h_u : w.cell? ⟨b, o + 4, none⟩ = some (.bool q.u)
theorem EnAt.fr {S : Nat → Prop} {w w' : World} {b o : Nat} {q : En} (h : EnAt w b o q) (hf : Fr S w w') (hs : ¬ S b) : EnAt w' b o q := by
  have hb : b < w.heap.size := World.block_lt_of_cell? w _ h.h_k
  exact ⟨(hf.cell (p := ⟨b, o, none⟩) hb hs).trans h.h_k, (hf.cell (p := ⟨b, o + 1, none⟩) hb hs).trans h.h_s, (hf.cell (p := ⟨b, o + 2, none⟩) hb hs).trans h.h_id, (hf.cell (p := ⟨b, o + 3, none⟩) hb hs).trans h.h_sz, (hf.cell (p := ⟨b, o + 4, none⟩) hb hs).trans h.h_u⟩
/-- it can come in -/
structure SizedEn (t : En) : Prop where
  s_k : t.k.size ≤ 140737488351232
  s_s : t.s.size ≤ 140737488351232
  s_id : inI64 t.id
  s_sz : inI64 t.sz
  s_u : True
section
variable {H : Type} {enc : TypeId × Value → H} {P : Program} {w : World}
theorem trod_En_5 {base : Nat} {spare : Nat → Bool} {held : Bool} {t : TypeId} {f0 f1 f2 f3 f4 : Field} {fuel : Nat} {cs : List Value} {x : DataW H × List MemPlace} (ht : P.underlying t = some (.struct #[f0, f1, f2, f3, f4])) (h : DataW.trod enc P w base spare held fuel t cs = some x) :
    ∃ y0 y1 y2 y3 y4 n, x.1 = .agg [y0.1, y1.1, y2.1, y3.1, y4.1] ∧ cs.length = P.cellsOf t ∧ DataW.trod enc P w base spare held n f0.type ((cs.drop f0.offset).take (P.cellsOf f0.type)) = some y0 ∧ DataW.trod enc P w base spare held n f1.type ((cs.drop f1.offset).take (P.cellsOf f1.type)) = some y1 ∧ DataW.trod enc P w base spare held n f2.type ((cs.drop f2.offset).take (P.cellsOf f2.type)) = some y2 ∧ DataW.trod enc P w base spare held n f3.type ((cs.drop f3.offset).take (P.cellsOf f3.type)) = some y3 ∧ DataW.trod enc P w base spare held n f4.type ((cs.drop f4.offset).take (P.cellsOf f4.type)) = some y4 := by
  obtain ⟨xs, n, _, rfl, hl, hlen, hf⟩ := DataW.trod_struct ht h
  match xs, hlen with
  | [y0, y1, y2, y3, y4], _ => exact ⟨y0, y1, y2, y3, y4, n, rfl, hl, by simpa using hf 0 f0 rfl, by simpa using hf 1 f1 rfl, by simpa using hf 2 f2 rfl, by simpa using hf 3 f3 rfl, by simpa using hf 4 f4 rfl⟩
theorem list_En {α : Type} {cs : List α} (h : cs.length = 5) : ∃ c0 c1 c2 c3 c4, cs = [c0, c1, c2, c3, c4] := by
  match cs, h with
  | [c0, c1, c2, c3, c4], _ => exact ⟨c0, c1, c2, c3, c4, rfl⟩
theorem weights_En_all {e : TypeId} {d : DataW H} : ∀ {ds : List (DataW H)}, d ∈ ds → ∀ n ∈ d.weights P e, n ∈ DataW.weightsAll P e ds
  | x :: ds, h, n, hn => by
    simp only [DataW.weightsAll, List.mem_append]
    rcases List.mem_cons.1 h with rfl | h
    · exact .inl hn
    · exact .inr (weights_En_all h n hn)
theorem cells_En {e : TypeId} {f0 f1 f2 f3 f4 : Field} {cs : List Value} {fuel : Nat} {x : DataW H × List MemPlace} (he : P.underlying e = some (.struct #[f0, f1, f2, f3, f4])) (hlen : cs.length = 5)
    (o0 : f0.offset = 0) (c0 : P.cellsOf f0.type = 1) (o1 : f1.offset = 1) (c1 : P.cellsOf f1.type = 1) (o2 : f2.offset = 2) (c2 : P.cellsOf f2.type = 1) (o3 : f3.offset = 3) (c3 : P.cellsOf f3.type = 1) (o4 : f4.offset = 4) (c4 : P.cellsOf f4.type = 1) (u0 : P.underlying f0.type = some .string) (u1 : P.underlying f1.type = some .string) (u2 : P.underlying f2.type = some (.int .i64)) (u3 : P.underlying f3.type = some (.int .i64)) (u4 : P.underlying f4.type = some .bool)
    (hf : DataW.trod enc P w 0 (fun _ => true) true fuel e cs = some x) (hw : ∀ n ∈ x.1.weights P e, n ≤ 140737488351232) :
    ∃ q : En, cs = [.string q.k, .string q.s, .int .i64 q.id, .int .i64 q.sz, .bool q.u] ∧ SizedEn q := by
  obtain ⟨z0, z1, z2, z3, z4, rfl⟩ := list_En hlen
  obtain ⟨y0, y1, y2, y3, y4, k, hag, _, g0, g1, g2, g3, g4⟩ := trod_En_5 he hf
  simp [o0, c0, o1, c1, o2, c2, o3, c3, o4, c4] at g0 g1 g2 g3 g4
  obtain ⟨n0, x0, hy0, _⟩ := DataW.trod_string u0 g0
  obtain ⟨n1, x1, hy1, _⟩ := DataW.trod_string u1 g1
  obtain ⟨n2, x2, _, w2⟩ := DataW.trod_int u2 g2
  obtain ⟨n3, x3, _, w3⟩ := DataW.trod_int u3 g3
  obtain ⟨n4, x4, _⟩ := DataW.trod_bool u4 g4
  simp only [List.cons.injEq, and_true] at x0 x1 x2 x3 x4
  subst x0 x1 x2 x3 x4
  have hs0 : n0.size ≤ 140737488351232 := hw _ (by
    rw [hag]
    simp only [DataW.weights, he]
    refine DataW.weights_mem_each (j := 0) (t := f0.type) (d := y0.1) rfl rfl _ ?_
    rw [hy0]
    simp only [DataW.weights, List.mem_singleton]
    exact (Array.length_toList).symm)
  have hs1 : n1.size ≤ 140737488351232 := hw _ (by
    rw [hag]
    simp only [DataW.weights, he]
    refine DataW.weights_mem_each (j := 1) (t := f1.type) (d := y1.1) rfl rfl _ ?_
    rw [hy1]
    simp only [DataW.weights, List.mem_singleton]
    exact (Array.length_toList).symm)
  exact ⟨⟨n0, n1, n2, n3, n4⟩, rfl, ⟨hs0, hs1, bounds_i64 w2, bounds_i64 w3, trivial⟩⟩
theorem open_En {r : Reach} {b0 : Nat} {e : TypeId} {f0 f1 f2 f3 f4 : Field} {v : Value} {d : DataW H} {ps : List MemPlace} (he : P.underlying e = some (.struct #[f0, f1, f2, f3, f4])) (ce : P.cellsOf e = 5)
    (o0 : f0.offset = 0) (c0 : P.cellsOf f0.type = 1) (o1 : f1.offset = 1) (c1 : P.cellsOf f1.type = 1) (o2 : f2.offset = 2) (c2 : P.cellsOf f2.type = 1) (o3 : f3.offset = 3) (c3 : P.cellsOf f3.type = 1) (o4 : f4.offset = 4) (c4 : P.cellsOf f4.type = 1) (u0 : P.underlying f0.type = some .string) (u1 : P.underlying f1.type = some .string) (u2 : P.underlying f2.type = some (.int .i64)) (u3 : P.underlying f3.type = some (.int .i64)) (u4 : P.underlying f4.type = some .bool)
    (hval : Value.okWide P w r b0 e v) (hd : DataW.Trod enc P w 0 (fun _ => true) true e v d ps) (hz : (d.weights P e).all (· ≤ reachBytes) = true) :
    ∃ q : En, v = .agg #[.string q.k, .string q.s, .int .i64 q.id, .int .i64 q.sz, .bool q.u] ∧ SizedEn q := by
  obtain ⟨fuel, hf⟩ := hd
  have hlen : v.cells.toList.length = 5 := by
    obtain ⟨xs, n, _, _, hl, _⟩ := DataW.trod_struct he hf
    rw [hl, ce]
  have h := cells_En he hlen o0 c0 o1 c1 o2 c2 o3 c3 o4 c4 u0 u1 u2 u3 u4 hf (fun n hn => (by simpa using List.all_eq_true.1 hz n hn : n ≤ reachBytes))
  obtain ⟨q, hc, hs⟩ := h
  obtain ⟨cs, rfl⟩ : ∃ cs, v = .agg cs := by
    cases v <;> first | exact ⟨_, rfl⟩ | (simp [Value.cells] at hc)
  refine ⟨q, ?_, hs⟩
  simp only [Value.cells] at hc
  rw [← hc]
end
end Go.Proofs.Ytnglmkombogheaa.Index
