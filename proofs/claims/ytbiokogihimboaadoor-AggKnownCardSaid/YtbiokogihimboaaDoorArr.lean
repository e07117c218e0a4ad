/-
  Arrays of bytes held against each other.
-/
import Derived.Test.YtbiokogihimboaaDoorBytes
import Derived.ChangeKeysEq
import Derived.Laws.StructEq
namespace Go.Proofs.YtbiokogihimboaaDoor.Base
open Go.RowKit

section
variable {P : Program}
theorem part_cell (e : TypeId) (d : TypeDesc) (he : P.underlying e = some d) (hd : (match d with | .struct _ | .array _ _ => true | _ => false) = false) (cs : Array Value) (k : Nat) (v : Value) (hv : cs[k]? = some v) (w : World) :
    (part e cs k).run P w = .ok v w := by
  have hagg : (isAgg e).run P w = .ok false w := by
    unfold isAgg
    rw [Sem.run_bind, run_underlying he w]
    cases d <;> simp_all
  simp [part, Sem.run_bind, hagg, hv]
theorem eqItems_bytes (d : Nat) (e : TypeId) (he : P.underlying e = some (.int .u8)) (la lb : List UInt8) (n : Nat) (ha : la.length = n) (hb : lb.length = n) (w : World) : ∀ is : List Nat, (∀ i ∈ is, i < n) →
    (Op.eqItems (d + 1) e 1 (bvals la).toArray (bvals lb).toArray is).run P w = .ok (is.all fun i => la.getD i 0 == lb.getD i 0) w
  | [], _ => by simp [Op.eqItems]
  | i :: is, h => by
    have hi := h i (by simp)
    have ih := eqItems_bytes d e he la lb n ha hb w is (fun j hj => h j (by simp [hj]))
    have p1 := part_cell (P := P) e _ he rfl (bvals la).toArray i _ (by rw [toArray_get]; exact bvals_get la i (by omega)) w
    have p2 := part_cell (P := P) e _ he rfl (bvals lb).toArray i _ (by rw [toArray_get]; exact bvals_get lb i (by omega)) w
    have p3 := run_equalIn_int (P := P) w d e .u8 .u8 ((la.getD i 0).toNat : Int) ((lb.getD i 0).toNat : Int) he
    simp only [Op.eqItems, Nat.mul_one, Sem.run_bind, p1, p2, p3, Result.andThen_ok, List.all_cons]
    generalize la.getD i 0 = x
    generalize lb.getD i 0 = y
    by_cases hx : x = y
    · subst hx
      simp only [beq_self_eq_true, Bool.not_true, Bool.false_eq_true, if_false, Bool.true_and]
      exact ih
    · have h1 : (((x).toNat : Int) == ((y).toNat : Int)) = false := by
        rw [beq_eq_false_iff_ne]
        intro h2
        exact hx (UInt8.toNat_inj.1 (by omega))
      have h3 : (x == y) = false := by rw [beq_eq_false_iff_ne]; exact hx
      rw [h1, h3]
      simp
theorem all_range_eq (la lb : List UInt8) (n : Nat) (ha : la.length = n) (hb : lb.length = n) : ((List.range n).all fun i => la.getD i 0 == lb.getD i 0) = decide (la = lb) := by
  rw [Bool.eq_iff_iff, decide_eq_true_eq, List.all_eq_true]
  constructor
  · intro h
    apply List.ext_getElem?
    intro i
    by_cases hi : i < n
    · have := h i (by simpa using hi)
      rw [beq_iff_eq] at this
      simp only [List.getD_eq_getElem?_getD] at this
      rw [List.getElem?_eq_getElem (by omega), List.getElem?_eq_getElem (by omega)] at this ⊢
      simpa using this
    · rw [List.getElem?_eq_none (by omega), List.getElem?_eq_none (by omega)]
  · rintro rfl i _
    simp
theorem eq_barr (d : Nat) (t e : TypeId) (n : Nat) (hu : P.underlying t = some (.array n e)) (hs : (P.info? e).map (·.size) = some 1) (he : P.underlying e = some (.int .u8)) (la lb : List UInt8) (ha : la.length = n) (hb : lb.length = n) (w : World) :
    (Op.equalIn (d + 2) t (.agg (bvals la).toArray) (.agg (bvals lb).toArray)).run P w = .ok (decide (la = lb)) w := by
  obtain ⟨i, hi, hz⟩ : ∃ i, P.info? e = some i ∧ i.size = 1 := by
    cases hq : P.info? e with
    | none => simp [hq] at hs
    | some i => exact ⟨i, rfl, by simpa [hq] using hs⟩
  have hc : P.cellsOf e = 1 := by simp [Program.cellsOf, hi, hz]
  rw [run_equalIn_array w (d + 1) _ _ hu hi, hc, eqItems_bytes d e he la lb n ha hb w _ (fun i hi => by simpa using hi), all_range_eq la lb n ha hb]
end
end Go.Proofs.YtbiokogihimboaaDoor.Base
