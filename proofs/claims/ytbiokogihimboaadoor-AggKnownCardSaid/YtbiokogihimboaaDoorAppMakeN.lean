/-
  'append(nil, make([]T, m)...)' of any type.
-/
import Derived.Test.YtbiokogihimboaaDoorVals
namespace Go.Proofs.YtbiokogihimboaaDoor.Base
open Go.RowKit

section
variable {P : Program}
theorem run_append_make_nil (w : World) (base : Nat) (t tI ty e : TypeId) (ht : P.underlying t = some (.slice e)) (htI : P.underlying tI = some (.int .i64)) (z : Value) (size bytes : Nat) (hinfo : (P.info? e).map (fun i => (i.zero, i.size, i.bytes)) = some (some z, size, bytes)) (hzs : z.cells.size = size) (hsz : 0 < size)
    (m : Nat) (hm : 0 < m) (hlen : m * bytes ≤ 140737488355328) (hb0 : 0 < bytes) (hbase : base ≤ w.heap.size) :
    ∃ C w', (Builtin.append_ #[t, tI] ty #[.slice none 0 0, .int .i64 (m : Int)]).run P w = .ok (.slice (some ⟨w.heap.size, 0, none⟩) m C) w' ∧ m ≤ C ∧ w'.ownsRow base e size (.slice (some ⟨w.heap.size, 0, none⟩) 0 C) 0 [] ∧ w.grownBy w' none := by
  obtain ⟨i, hi, hz0, hz1, hz2⟩ := info_parts hinfo
  have hmb : m ≤ m * bytes := Nat.le_mul_of_pos_right m hb0
  have hwrap : IntKind.i64.wrap (m : Int) = (m : Int) := by rw [IntKind.wrap_i64]; omega
  have h63 : m ≤ maxLen := by unfold maxLen; omega
  have hneg : ¬ ((m : Int) < 0) := by omega
  have hfit : Builtin.nextslicecap m 0 * bytes ≤ 281474976710656 := growslice_fits (by omega) hlen
  have hge := grownCap_ge w m 0 e
  refine ⟨grownCap w m 0 e, w.drew.alloc (.cells (Builtin.zeroCells z.cells m ++ Builtin.zeroCells z.cells (grownCap w m 0 e - m)) e), ?_, hge, ⟨by simp, .inr ⟨w.heap.size, _, _, rfl, hbase, heap_alloc_new w.drew _, Nat.zero_le _, grownCap_le_maxLen w m 0 e h63, ?_, ?_⟩⟩, ⟨rfl, rfl, rfl, by simp, fun k hk _ => Go.heap_alloc_old w.drew _ hk⟩⟩
  · have h48'' : ¬ (281474976710656 < Builtin.nextslicecap m 0 * bytes) := by omega
    have h48 : ¬ ((281474976710656 : Int) < (m : Int) * (bytes : Int)) := by omega
    have h49 : ¬ (281474976710656 < m * bytes) := by omega
    have h63' : ¬ ((9223372036854775807 : Int) < (m : Int)) := by omega
    simp [Builtin.append_, run_underlying ht, run_underlying htI, sizeOf, typeInfo, zeroValue, hi, hz0, hz1, hz2, asInt, asIntOf, hwrap, h48, h49, show m ≠ 0 by omega, h48'', h63', hneg, Question.forced, newRow, grownCap, Builtin.firstCells]
    intro h0
    exact absurd h0 (Nat.ne_of_gt (Nat.mul_pos hm hsz))
  · rw [Array.size_append, size_zeroCells, size_zeroCells, hzs, ← Nat.add_mul, Nat.add_sub_cancel' hge]
  · simp
theorem wpList_append_make_nil {w : World} {ops : Array Oper} {rest : List Oper} {o : Oper} {a : Act} {Q : Exit → Act → World → Prop} (hgd : o.guard = none) (s x : Operand) (t tI : TypeId)
    (ho : o.op = .call { callee := .builtin .append, args := #[s, x], argTypes := #[t, tI] }) (base : Nat) (e : TypeId) (ht : P.underlying t = some (.slice e)) (htI : P.underlying tI = some (.int .i64)) (z : Value) (size bytes : Nat) (hinfo : (P.info? e).map (fun i => (i.zero, i.size, i.bytes)) = some (some z, size, bytes)) (hzs : z.cells.size = size) (hsz : 0 < size)
    (m : Nat) (hs : a.eval s = .slice none 0 0) (hx : a.eval x = .int .i64 (m : Int)) (hm : 0 < m) (hlen : m * bytes ≤ 140737488355328) (hb0 : 0 < bytes) (hbase : base ≤ w.heap.size)
    (h : ∀ C w', m ≤ C → w'.ownsRow base e size (.slice (some ⟨w.heap.size, 0, none⟩) 0 C) 0 [] → w.grownBy w' none → wpList P ops Q rest (a.put o.dst (.slice (some ⟨w.heap.size, 0, none⟩) m C)) w') : wpList P ops Q (o :: rest) a w :=
  wpList_plain hgd fun K hK => by
    obtain ⟨C, w', hr, h1, h2, h3⟩ := run_append_make_nil (P := P) w base t tI o.type e ht htI z size bytes hinfo hzs hsz m hm hlen hb0 hbase
    unfold Oper.wp execOp
    simp only [ho, resolve, invoke, builtin, Sem.run_bind, Sem.run_pure, Result.andThen_ok, List.map_toArray, List.map_cons, List.map_nil, hs, hx, hr]
    exact hK _ _ (h C w' h1 h2 h3)
/-- l[:hi] of a slice of any type -/
theorem cut_hi_of (t e : TypeId) (ht : P.underlying t = some (.slice e)) (size : Nat) (hs : (P.info? e).map (·.size) = some size) (a : Option Addr) (n cap hi : Nat) (h2 : hi ≤ cap) (x : Int) (hx : x = (hi : Int)) (wx : World) :
    (Instr.sliceAt t (.slice a n cap) none (some (.int .i64 x)) none).run P wx = .ok (.slice a hi cap) wx := by
  subst hx
  obtain ⟨i, hi', hz⟩ : ∃ i, P.info? e = some i ∧ i.size = size := by
    cases hq : P.info? e with
    | none => simp [hq] at hs
    | some i => exact ⟨i, rfl, by simpa [hq] using hs⟩
  have hE : P.elem t = e := by simp [Program.elem, ht]
  rw [run_sliceAt_slice wx t _ _ _ _ (by rw [hE]; exact ht), run_slice_h wx t a n cap (by rw [hE]; exact ht) .i64 (hi : Int) (by omega) (by omega), hE]
  simp [sizeOf, typeInfo, hi', hz, sliced, Sem.run_bind]
  intro _
  cases a with
  | none => rfl
  | some x => simp [Addr.add]
end
end Go.Proofs.YtbiokogihimboaaDoor.Base
