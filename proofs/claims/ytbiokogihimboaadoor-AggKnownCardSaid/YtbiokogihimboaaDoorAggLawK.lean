/-
  An Agg that came in by value.
-/
import Derived.Test.YtbiokogihimboaaDoorAggSpec
import Derived.Test.YtbiokogihimboaaDoorLawP
import Derived.ChangeMaps5
namespace Go.Proofs.YtbiokogihimboaaDoor.Agg
open Go.RowKit Go.ChangeShapes Go.WideShapes Go.ChangeAt Base

section
variable {H : Type} {enc : TypeId × Value → H} {P : Program} {w : World}
theorem trod_agg6 {base : Nat} {spare : Nat → Bool} {held : Bool} {t : TypeId} {f0 f1 f2 f3 f4 f5 : Field} {fuel : Nat} {cs : List Value} {x : DataW H × List MemPlace} (ht : P.underlying t = some (.struct #[f0, f1, f2, f3, f4, f5])) (h : DataW.trod enc P w base spare held fuel t cs = some x) :
    ∃ y0 y1 y2 y3 y4 y5 n, cs.length = P.cellsOf t ∧ DataW.trod enc P w base spare held n f0.type ((cs.drop f0.offset).take (P.cellsOf f0.type)) = some y0 ∧ DataW.trod enc P w base spare held n f1.type ((cs.drop f1.offset).take (P.cellsOf f1.type)) = some y1 ∧ DataW.trod enc P w base spare held n f2.type ((cs.drop f2.offset).take (P.cellsOf f2.type)) = some y2 ∧ DataW.trod enc P w base spare held n f3.type ((cs.drop f3.offset).take (P.cellsOf f3.type)) = some y3 ∧ DataW.trod enc P w base spare held n f4.type ((cs.drop f4.offset).take (P.cellsOf f4.type)) = some y4 ∧ DataW.trod enc P w base spare held n f5.type ((cs.drop f5.offset).take (P.cellsOf f5.type)) = some y5 := by
  obtain ⟨xs, n, _, rfl, hl, hlen, hf⟩ := DataW.trod_struct ht h
  match xs, hlen with
  | [y0, y1, y2, y3, y4, y5], _ => exact ⟨y0, y1, y2, y3, y4, y5, n, hl, by simpa using hf 0 f0 rfl, by simpa using hf 1 f1 rfl, by simpa using hf 2 f2 rfl, by simpa using hf 3 f3 rfl, by simpa using hf 4 f4 rfl, by simpa using hf 5 f5 rfl⟩
theorem list6 {α : Type} {cs : List α} (h : cs.length = 6) : ∃ c0 c1 c2 c3 c4 c5, cs = [c0, c1, c2, c3, c4, c5] := by
  match cs, h with
  | [c0, c1, c2, c3, c4, c5], _ => exact ⟨c0, c1, c2, c3, c4, c5, rfl⟩
theorem open_agg {r : Reach} {b0 : Nat} {t : TypeId} {f0 f1 f2 f3 f4 f5 : Field} {v : Value} {d : DataW H} {ps : List MemPlace} (ht : P.underlying t = some (.struct #[f0, f1, f2, f3, f4, f5])) (ct : P.cellsOf t = 6)
    (o : #[f0, f1, f2, f3, f4, f5].map (·.offset) = #[0, 1, 2, 3, 4, 5]) (c : #[f0, f1, f2, f3, f4, f5].map (fun f => P.cellsOf f.type) = #[1, 1, 1, 1, 1, 1])
    (u0 : P.underlying f0.type = some (.int .i64)) (u1 : P.underlying f1.type = some (.int .i64)) (u2 : P.underlying f2.type = some (.int .i64)) (u3 : P.underlying f3.type = some (.int .i64)) (u4 : P.underlying f4.type = some (.int .i64)) (u5 : P.underlying f5.type = some .bool)
    (hval : Value.okWide P w r b0 t v) (hd : DataW.Trod enc P w 0 (fun _ => true) true t v d ps) :
    ∃ q : Ag, v = .agg (a6 q) ∧ SizedA q := by
  obtain ⟨cs, rfl, hsz⟩ := okWide_struct ht hval
  obtain ⟨fuel, hf⟩ := hd
  rw [ct] at hsz
  obtain ⟨y0, y1, y2, y3, y4, y5, k, _, h0, h1, h2, h3, h4, h5⟩ := trod_agg6 ht hf
  obtain ⟨v0, v1, v2, v3, v4, v5, hv⟩ := list6 (cs := cs.toList) (by simpa using hsz)
  simp at o c
  obtain ⟨o0, o1, o2, o3, o4, o5⟩ := o
  obtain ⟨c0, c1, c2, c3, c4, c5⟩ := c
  simp only [Value.cells] at h0 h1 h2 h3 h4 h5
  rw [hv] at h0 h1 h2 h3 h4 h5
  simp [o0, o1, o2, o3, o4, o5, c0, c1, c2, c3, c4, c5] at h0 h1 h2 h3 h4 h5
  obtain ⟨n0, e0, _, w0⟩ := DataW.trod_int u0 h0
  obtain ⟨n1, e1, _, w1⟩ := DataW.trod_int u1 h1
  obtain ⟨n2, e2, _, w2⟩ := DataW.trod_int u2 h2
  obtain ⟨n3, e3, _, w3⟩ := DataW.trod_int u3 h3
  obtain ⟨n4, e4, _, w4⟩ := DataW.trod_int u4 h4
  obtain ⟨b5, e5, _⟩ := DataW.trod_bool u5 h5
  simp only [List.cons.injEq, and_true] at e0 e1 e2 e3 e4 e5
  subst e0 e1 e2 e3 e4 e5
  refine ⟨⟨n0, n1, n2, n3, n4, b5⟩, ?_, bounds_i64 w0, bounds_i64 w1, bounds_i64 w2, bounds_i64 w3, bounds_i64 w4⟩
  unfold a6
  congr 1
  apply Array.toList_inj.1
  rw [hv]
end
end Go.Proofs.YtbiokogihimboaaDoor.Agg
