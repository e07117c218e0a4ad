/-
  Copying into a row and writing cells of it, as steps of a walk; what lies in the row behind them. No program stands here.
-/
import Derived.Test.YtefebimnebpodaaOrdMem
import Derived.Shelf.RegionOpenPlain
import Derived.WalkKit
namespace Go.Proofs.Ytefebimnebpodaa.Ord
open Go.RowKit Base
variable {P : Program}

theorem wpList_copy_at {w : World} {ops : Array Oper} {rest : List Oper} {o : Oper} {a : Act} {Q : Exit → Act → World → Prop} (hgd : o.guard = none) (x y : Operand) (t t' : TypeId)
    (ho : o.op = .call { callee := .builtin .copy, args := #[x, y], argTypes := #[t, t'] }) (u v : Value) (hx : a.eval x = u) (hy : a.eval y = v) {r : Value} {w' : World}
    (hr : (Builtin.copy_ #[t, t'] o.type #[u, v]).run P w = .ok r w') (h : wpList P ops Q rest (a.put o.dst r) w') : wpList P ops Q (o :: rest) a w :=
  wpList_plain hgd fun K hK => by
    unfold Oper.wp execOp
    simp only [ho, resolve, invoke, builtin, Sem.run_bind, Sem.run_pure, Result.andThen_ok, List.map_toArray, List.map_cons, List.map_nil, hx, hy, hr]
    exact hK _ _ h
theorem wpList_append_at {w : World} {ops : Array Oper} {rest : List Oper} {o : Oper} {a : Act} {Q : Exit → Act → World → Prop} (hgd : o.guard = none) (x y : Operand) (t t' : TypeId)
    (ho : o.op = .call { callee := .builtin .append, args := #[x, y], argTypes := #[t, t'] }) (u v : Value) (hx : a.eval x = u) (hy : a.eval y = v) {r : Value} {w' : World}
    (hr : (Builtin.append_ #[t, t'] o.type #[u, v]).run P w = .ok r w') (h : wpList P ops Q rest (a.put o.dst r) w') : wpList P ops Q (o :: rest) a w :=
  wpList_plain hgd fun K hK => by
    unfold Oper.wp execOp
    simp only [ho, resolve, invoke, builtin, Sem.run_bind, Sem.run_pure, Result.andThen_ok, List.map_toArray, List.map_cons, List.map_nil, hx, hy, hr]
    exact hK _ _ h
theorem step_copy_at {ops : Array Oper} {o : Oper} {a : Act} {w : World} {K : Act → World → Prop} {Q : Exit → Act → World → Prop} {E : Prop} (hgd : o.guard = none) (x y : Operand) (t t' : TypeId)
    (ho : o.op = .call { callee := .builtin .copy, args := #[x, y], argTypes := #[t, t'] }) (u v : Value) (hx : a.eval x = u) (hy : a.eval y = v) {r : Value} {w' : World}
    (hr : (Builtin.copy_ #[t, t'] o.type #[u, v]).run P w = .ok r w') (h : K (a.put o.dst r) w') : if Region.wanted o (yielded ops a.tmps) = true then Oper.wp P o a w K Q else E := by
  rw [if_pos (by simp [Region.wanted, hgd])]
  unfold Oper.wp
  simp [execOp, ho, resolve, invoke, builtin, hx, hy, hr, Result.andThen]
  exact h

theorem setCells_at {g : Nat} {t : TypeId} : ∀ (vs : List Value) (o : Nat) (w : World) (cs : Array Value), w.heap[g]? = some (.cells cs t (0, 0)) → o + vs.length ≤ cs.size →
    ∃ cs', (w.setCells g o vs).heap[g]? = some (.cells cs' t (0, 0)) ∧ cs'.size = cs.size ∧ ∀ j, cs'[j]? = if o ≤ j ∧ j < o + vs.length then vs[j - o]? else cs[j]?
  | [], o, w, cs, hg, _ => ⟨cs, hg, rfl, fun j => by rw [if_neg (by simp only [List.length_nil]; omega)]⟩
  | v :: r, o, w, cs, hg, hl => by
    simp only [List.length_cons] at hl
    obtain ⟨cs', h1, h2, h3⟩ := setCells_at r (o + 1) (w.setCell ⟨g, o, none⟩ v) _ (heap_setCell hg v) (by simp; omega)
    refine ⟨cs', h1, by simpa using h2, fun j => ?_⟩
    rw [h3 j]
    simp only [List.length_cons]
    by_cases h : o = j
    · subst h
      rw [if_neg (by omega), if_pos (by omega), Array.getElem?_setIfInBounds_self_of_lt (by omega)]
      simp
    · rw [Array.getElem?_setIfInBounds_ne h]
      by_cases k : o + 1 ≤ j ∧ j < o + 1 + r.length
      · rw [if_pos k, if_pos (by omega), show j - o = (j - (o + 1)) + 1 by omega, List.getElem?_cons_succ]
      · rw [if_neg k, if_neg (by omega)]
theorem fr_setCells {S : Nat → Prop} {w0 : World} {g : Nat} (hp : g < w0.heap.size → S g) : ∀ (vs : List Value) (o : Nat) (w : World), Fr S w0 w → Fr S w0 (w.setCells g o vs)
  | [], _, _, h => h
  | v :: r, o, w, h => fr_setCells hp r (o + 1) _ (h.setCell (p := ⟨g, o, none⟩) hp v)
/-- a part of a row is written over -/
theorem splice_at (cs : Array Value) (o : Nat) (vs : List Value) (h : o + vs.length ≤ cs.size) (j : Nat) : ((cs.toList.take o ++ vs ++ cs.toList.drop (o + vs.length)).toArray)[j]? = if o ≤ j ∧ j < o + vs.length then vs[j - o]? else cs[j]? := by
  have := splice_get cs.toList vs o j (by simpa using h)
  simpa using this
theorem splice_size (cs : Array Value) (o : Nat) (vs : List Value) (h : o + vs.length ≤ cs.size) : ((cs.toList.take o ++ vs ++ cs.toList.drop (o + vs.length)).toArray).size = cs.size := by
  simp; omega
theorem cur_get {cur : Array Value} {n : Nat} {ps : List Nat} (h : cur.toList.take (n * 1) = ps.map ptr) {j p : Nat} (hj : ps[j]? = some p) : cur[j]? = some (ptr p) := by
  have := congrArg (fun l => l[j]?) h
  simp only [List.getElem?_map, hj, List.getElem?_take] at this
  split at this
  · simpa using this
  · simp at this
theorem owns_of {w : World} {base : Nat} {e : TypeId} {g cap n : Nat} {cur : Array Value} {ps : List Nat} (hb : base ≤ g) (hg : w.heap[g]? = some (.cells cur e (0, 0))) (hn : n = ps.length) (hc : n ≤ cap) (hm : cap ≤ maxLen) (hs : cur.size = cap)
    (h : ∀ (j p : Nat), ps[j]? = some p → cur[j]? = some (ptr p)) : w.ownsRow base e 1 (.slice (some ⟨g, 0, none⟩) n cap) n (ps.map ptr) := by
  subst hn
  refine ⟨by simp, .inr ⟨g, cap, cur, rfl, hb, hg, hc, hm, by omega, ?_⟩⟩
  refine List.ext_getElem? fun j => ?_
  rw [List.getElem?_take, List.getElem?_map]
  by_cases hj : j < ps.length
  · rw [if_pos (by omega), Array.getElem?_toList, h j _ (List.getElem?_eq_getElem hj), List.getElem?_eq_getElem hj]
    rfl
  · rw [if_neg (by omega), List.getElem?_eq_none (by omega)]
    rfl
/-- a row of pointers, to be read -/
def PtrsAre (w : World) (v : Value) (ps : List Nat) : Prop := ∃ A C, v = .slice A ps.length C ∧ (0 < ps.length → ∃ b, A = some ⟨b, 0, none⟩ ∧ ps.length ≤ C ∧ ∀ j p, ps[j]? = some p → w.cell? ⟨b, j, none⟩ = some (ptr p))
theorem PtrsAre.of {w : World} {base : Nat} {e : TypeId} {v : Value} {ps : List Nat} {n : Nat} (h : w.ownsRow base e 1 v n (ps.map ptr)) : PtrsAre w v ps := by
  have hl := h.1
  rw [List.length_map, Nat.mul_one] at hl
  subst hl
  rcases h.2 with ⟨rfl, h0⟩ | ⟨g, cap, cur, rfl, hb, hg, hc, _, hcs, hcur⟩
  · exact ⟨none, 0, by rw [h0], fun h => by omega⟩
  · refine ⟨_, cap, rfl, fun _ => ⟨g, rfl, hc, fun j p hj => ?_⟩⟩
    rw [cell_of_row _ _ _ _ _ _ hg]
    have hlt := (List.getElem?_eq_some_iff.1 hj).1
    have : (cur.toList.take (ps.length * 1))[j]? = some (ptr p) := by rw [hcur, List.getElem?_map, hj]; rfl
    rw [List.getElem?_take, if_pos (by omega), Array.getElem?_toList] at this
    exact this
end Go.Proofs.Ytefebimnebpodaa.Ord
