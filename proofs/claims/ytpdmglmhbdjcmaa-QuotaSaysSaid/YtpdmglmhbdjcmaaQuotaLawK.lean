/-
  A quota that came in by value.
-/
import Derived.Test.YtpdmglmhbdjcmaaQuotaSpec
import Derived.Test.YtpdmglmhbdjcmaaLawP
import Derived.ChangeMaps5
namespace Go.Proofs.Ytpdmglmhbdjcmaa.Quota
open Go.RowKit Go.ChangeShapes Go.WideShapes Go.ChangeAt Base

section
variable {H : Type} {enc : TypeId × Value → H} {P : Program} {w : World}
theorem trod_struct4 {base : Nat} {spare : Nat → Bool} {held : Bool} {t : TypeId} {f0 f1 f2 f3 : Field} {fuel : Nat} {cs : List Value} {x : DataW H × List MemPlace} (ht : P.underlying t = some (.struct #[f0, f1, f2, f3])) (h : DataW.trod enc P w base spare held fuel t cs = some x) :
    ∃ y0 y1 y2 y3 n, cs.length = P.cellsOf t ∧ DataW.trod enc P w base spare held n f0.type ((cs.drop f0.offset).take (P.cellsOf f0.type)) = some y0 ∧
      DataW.trod enc P w base spare held n f1.type ((cs.drop f1.offset).take (P.cellsOf f1.type)) = some y1 ∧ DataW.trod enc P w base spare held n f2.type ((cs.drop f2.offset).take (P.cellsOf f2.type)) = some y2 ∧
      DataW.trod enc P w base spare held n f3.type ((cs.drop f3.offset).take (P.cellsOf f3.type)) = some y3 := by
  obtain ⟨xs, n, _, rfl, hl, hlen, hf⟩ := DataW.trod_struct ht h
  match xs, hlen with
  | [y0, y1, y2, y3], _ => exact ⟨y0, y1, y2, y3, n, hl, by simpa using hf 0 f0 rfl, by simpa using hf 1 f1 rfl, by simpa using hf 2 f2 rfl, by simpa using hf 3 f3 rfl⟩
theorem list4 {α : Type} {cs : List α} (h : cs.length = 4) : ∃ c0 c1 c2 c3, cs = [c0, c1, c2, c3] := by
  match cs, h with
  | [c0, c1, c2, c3], _ => exact ⟨c0, c1, c2, c3, rfl⟩
theorem open_quota {r : Reach} {b0 : Nat} {t : TypeId} {f0 f1 f2 f3 : Field} {v : Value} {d : DataW H} {ps : List MemPlace} (ht : P.underlying t = some (.struct #[f0, f1, f2, f3])) (ct : P.cellsOf t = 4)
    (o : #[f0, f1, f2, f3].map (·.offset) = #[0, 1, 2, 3]) (c : #[f0, f1, f2, f3].map (fun f => P.cellsOf f.type) = #[1, 1, 1, 1])
    (u0 : P.underlying f0.type = some (.int .i64)) (u1 : P.underlying f1.type = some (.int .i64)) (u2 : P.underlying f2.type = some (.int .i64)) (u3 : P.underlying f3.type = some (.int .i64))
    (hval : Value.okWide P w r b0 t v) (hd : DataW.Trod enc P w 0 (fun _ => true) true t v d ps) :
    ∃ q : Qt, v = .agg (q4 q) ∧ SizedQ q := by
  obtain ⟨cs, rfl, hsz⟩ := okWide_struct ht hval
  obtain ⟨fuel, hf⟩ := hd
  rw [ct] at hsz
  obtain ⟨y0, y1, y2, y3, k, _, h0, h1, h2, h3⟩ := trod_struct4 ht hf
  obtain ⟨v0, v1, v2, v3, hv⟩ := list4 (cs := cs.toList) (by simpa using hsz)
  simp at o c
  obtain ⟨o0, o1, o2, o3⟩ := o
  obtain ⟨c0, c1, c2, c3⟩ := c
  simp only [Value.cells] at h0 h1 h2 h3
  rw [hv] at h0 h1 h2 h3
  simp [o0, o1, o2, o3, c0, c1, c2, c3] at h0 h1 h2 h3
  obtain ⟨n0, e0, _, w0⟩ := DataW.trod_int u0 h0
  obtain ⟨n1, e1, _, w1⟩ := DataW.trod_int u1 h1
  obtain ⟨n2, e2, _, w2⟩ := DataW.trod_int u2 h2
  obtain ⟨n3, e3, _, w3⟩ := DataW.trod_int u3 h3
  simp only [List.cons.injEq, and_true] at e0 e1 e2 e3
  subst e0 e1 e2 e3
  refine ⟨⟨n0, n1, n2, n3⟩, ?_, bounds_i64 w0, bounds_i64 w1, bounds_i64 w2, bounds_i64 w3⟩
  unfold q4
  congr 1
  apply Array.toList_inj.1
  rw [hv]
end
end Go.Proofs.Ytpdmglmhbdjcmaa.Quota
