/-
  A slice that reads as a list of values (elements of whatever count of cells); 'append(own, it...)'.
-/
import Derived.Test.YtbiokogihimboaaDoorAppend
import Derived.Test.YtbiokogihimboaaDoorBaseB
namespace Go.Proofs.YtbiokogihimboaaDoor.Base
open Go.RowKit

/-- v is a slice of n elements whose cells read as xs, one behind the other -/
def ValsIs (w : World) (v : Value) (n : Nat) (xs : List Value) : Prop :=
  ∃ (a : Option Addr) (cap pb po : Nat), v = .slice a n cap ∧ n ≤ cap ∧ (0 < n → a = some ⟨pb, po, none⟩) ∧ (∀ j, j < xs.length → w.cell? ⟨pb, po + j, none⟩ = some (xs.getD j undef))
theorem ValsIs.nil (w : World) : ValsIs w (.slice none 0 0) 0 [] := ⟨none, 0, 0, 0, rfl, Nat.le_refl _, fun h => absurd h (by simp), fun j h => absurd h (by simp)⟩
theorem ValsIs.fr {S : Nat → Prop} {w w' : World} {v : Value} {n : Nat} {xs : List Value} (h : ValsIs w v n xs) (hn : xs = [] ∨ 0 < n) (hf : Fr S w w') (hs : ∀ a m c, v = .slice (some a) m c → ¬ S a.block) : ValsIs w' v n xs := by
  obtain ⟨a, cap, pb, po, hv, hle, ha, hc⟩ := h
  refine ⟨a, cap, pb, po, hv, hle, ha, fun j hj => ?_⟩
  have h1 := hc j hj
  have h2 := ha (by rcases hn with h | h; · subst h; simp at hj
                    · exact h)
  subst h2
  rw [hf.cell (p := ⟨pb, po + j, none⟩) (World.block_lt_of_cell? w _ h1) (by have := hs ⟨pb, po, none⟩ _ _ hv; exact this)]
  exact h1
theorem ValsIs.fr0 {w w' : World} {v : Value} {n : Nat} {xs : List Value} (h : ValsIs w v n xs) (hf : Fr0 w w') : ValsIs w' v n xs := by
  obtain ⟨a, cap, pb, po, hv, hle, ha, hc⟩ := h
  refine ⟨a, cap, pb, po, hv, hle, ha, fun j hj => ?_⟩
  have h1 := hc j hj
  rw [hf.cell (p := ⟨pb, po + j, none⟩) (World.block_lt_of_cell? w _ h1) (fun f => f)]
  exact h1
theorem PartsIs.vals {w : World} {v : Value} {ps : List (List UInt8)} (h : PartsIs w v ps) : ∃ vs : List Value, vs.length = ps.length ∧ ValsIs w v ps.length vs ∧ ∀ j, j < vs.length → BytesIs w (vs.getD j undef) (ps.getD j []) := by
  obtain ⟨a, cap, qb, qo, rfl, hcap, _, ha, hc⟩ := h
  refine ⟨(List.range ps.length).map fun j => (w.cell? ⟨qb, qo + j, none⟩).getD undef, by simp, ⟨a, cap, qb, qo, rfl, hcap, ha, fun j hj => ?_⟩, fun j hj => ?_⟩
  · have hj' : j < ps.length := by simpa using hj
    obtain ⟨pv, h1, _⟩ := hc j hj'
    simp [hj', h1]
  · have hj' : j < ps.length := by simpa using hj
    obtain ⟨pv, h1, h2⟩ := hc j hj'
    simp only [List.getD_eq_getElem?_getD, List.getElem?_map, List.getElem?_range hj', Option.map_some, Option.getD_some, h1]
    simpa [List.getD_eq_getElem?_getD] using h2

theorem PartsIs.fr0 {w w' : World} {v : Value} {ps : List (List UInt8)} (h : PartsIs w v ps) (hf : Fr0 w w') : PartsIs w' v ps := by
  obtain ⟨a, cap, qb, qo, rfl, hcap, hl, ha, hc⟩ := h
  refine ⟨a, cap, qb, qo, rfl, hcap, hl, ha, fun i hi => ?_⟩
  obtain ⟨pv, h1, h2⟩ := hc i hi
  exact ⟨pv, (hf.cell (p := ⟨qb, qo + i, none⟩) (World.block_lt_of_cell? w _ h1) (fun f => f)).trans h1, h2.fr0 hf⟩
/-- an owned row of slices of bytes reads as its parts -/
theorem PartsIs.own {w : World} {base : Nat} {e : TypeId} {v : Value} {vs : List Value} {ps : List (List UInt8)} {n : Nat} (h : w.ownsRow base e 1 v n vs) (hl : vs.length = ps.length) (hle : ps.length ≤ 1152921504606846976) (hall : ∀ j, j < vs.length → BytesIs w (vs.getD j undef) (ps.getD j [])) : PartsIs w v ps := by
  have hn' : n = vs.length := by have := h.1; omega
  subst hn'
  rcases h.2 with ⟨rfl, hn⟩ | ⟨g, cap, cur, rfl, hb, hg, hnc, hcm, hcs, ht⟩
  · obtain rfl : ps = [] := List.eq_nil_of_length_eq_zero (by omega)
    exact ⟨none, 0, 0, 0, rfl, by simp, by simp, fun h => absurd h (by simp), fun i hi => absurd hi (by simp)⟩
  · refine ⟨some ⟨g, 0, none⟩, cap, g, 0, by rw [hl], by omega, hle, fun _ => rfl, fun i hi => ⟨vs.getD i undef, ?_, hall i (by omega)⟩⟩
    rw [Nat.zero_add, h.cellAt i (by omega)]
    simp [show i < vs.length from by omega]
/-- a literal of two parts -/
theorem PartsIs.two (w : World) (v0 v1 : Value) (l0 l1 : List UInt8) (h0 : BytesIs w v0 l0) (h1 : BytesIs w v1 l1) (t : TypeId) (N : Nat) (hN : N = w.heap.size) : PartsIs (w.alloc (.cells #[v0, v1] t)) (.slice (some ⟨N, 0, none⟩) 2 2) [l0, l1] := by
  subst hN
  refine ⟨_, 2, w.heap.size, 0, rfl, by simp, by simp, fun _ => rfl, fun i hi => ?_⟩
  match i, hi with
  | 0, _ => exact ⟨v0, by rw [cell_of_row _ _ _ _ _ _ (heap_alloc_new w _)]; rfl, h0.fr0 ((Fr.refl _ _).alloc _)⟩
  | 1, _ => exact ⟨v1, by rw [cell_of_row _ _ _ _ _ _ (heap_alloc_new w _)]; rfl, h1.fr0 ((Fr.refl _ _).alloc _)⟩

section
variable {P : Program}
theorem run_append_vals (w : World) (base : Nat) (t ty e : TypeId) (ht : P.underlying t = some (.slice e)) (z : Value) (size bytes : Nat) (hinfo : (P.info? e).map (fun i => (i.zero, i.size, i.bytes)) = some (some z, size, bytes)) (hzs : z.cells.size = size) (hsz : 0 < size)
    (v v2 : Value) (n m : Nat) (xs news : List Value) (hown : w.ownsRow base e size v n xs) (hB : ValsIs w v2 m news) (hl : news.length = m * size) (h1 : ∀ u ∈ news, u.oneCell' = true) (h63 : n + m ≤ maxLen) (hlen : (n + m) * bytes ≤ 140737488355328) (hbase : base ≤ w.heap.size) :
    ∃ v' w', (Builtin.append_ #[t, t] ty #[v, v2]).run P w = .ok v' w' ∧ w'.ownsRow base e size v' (n + m) (xs ++ news) ∧ w.grownBy w' v.ownBlock := by
  obtain ⟨i, hi, hz0, hz1, hz2⟩ := info_parts hinfo
  obtain ⟨a, cap, pb, po, rfl, hcap, ha, hc⟩ := hB
  cases a with
  | none =>
    have h0 : m = 0 := by
      by_cases h : 0 < m
      · exact absurd (ha h) (by simp)
      · omega
    subst h0
    obtain rfl : news = [] := List.eq_nil_of_length_eq_zero (by simpa using hl)
    refine ⟨v, w, run_append_none w base t ty e i size ht hi v n cap _ hown, by simpa using hown, ⟨rfl, rfl, rfl, Nat.le_refl _, fun _ _ _ => rfl⟩⟩
  | some ad =>
    obtain ⟨v', w', h1', h2, h3, _⟩ := run_append_own (P := P) w base t ty e i z size bytes ht hi hz0 hz1 hz2 hzs hsz v n xs hown ad m cap news hl
      (fun j u hj => by
        have hj' : j < news.length := (List.getElem?_eq_some_iff.1 hj).1
        have hm : 0 < m := by
          rcases Nat.eq_zero_or_pos m with h | h
          · subst h; omega
          · exact h
        have := ha hm
        cases this
        rw [Addr.add_mid, hc j hj', List.getD_eq_getElem?_getD, hj]; rfl) h1 h63 hlen hbase
    exact ⟨v', w', h1', h2, h3⟩
theorem wpList_append_vals {w : World} {ops : Array Oper} {rest : List Oper} {o : Oper} {a : Act} {Q : Exit → Act → World → Prop} (hgd : o.guard = none) (s x : Operand) (t : TypeId)
    (ho : o.op = .call { callee := .builtin .append, args := #[s, x], argTypes := #[t, t] }) (base : Nat) (e : TypeId) (ht : P.underlying t = some (.slice e)) (z : Value) (size bytes : Nat) (hinfo : (P.info? e).map (fun i => (i.zero, i.size, i.bytes)) = some (some z, size, bytes)) (hzs : z.cells.size = size) (hsz : 0 < size)
    (v v2 : Value) (n m : Nat) (xs news : List Value) (hs : a.eval s = v) (hx : a.eval x = v2) (hown : w.ownsRow base e size v n xs) (hB : ValsIs w v2 m news) (hl : news.length = m * size) (h1 : ∀ u ∈ news, u.oneCell' = true) (h63 : n + m ≤ maxLen) (hlen : (n + m) * bytes ≤ 140737488355328) (hbase : base ≤ w.heap.size)
    (h : ∀ v' w', w'.ownsRow base e size v' (n + m) (xs ++ news) → w.grownBy w' v.ownBlock → wpList P ops Q rest (a.put o.dst v') w') : wpList P ops Q (o :: rest) a w :=
  wpList_plain hgd fun K hK => by
    obtain ⟨v', w', hr, h2, h3⟩ := run_append_vals (P := P) w base t o.type e ht z size bytes hinfo hzs hsz v v2 n m xs news hown hB hl h1 h63 hlen hbase
    unfold Oper.wp execOp
    simp only [ho, resolve, invoke, builtin, Sem.run_bind, Sem.run_pure, Result.andThen_ok, List.map_toArray, List.map_cons, List.map_nil, hs, hx, hr]
    exact hK _ _ (h v' w' h2 h3)
/-- a slice literal of one-cell elements: a row of its own -/
theorem owns_lit (w : World) (base : Nat) (e : TypeId) (c : Array Value) (n : Nat) (hn : c.size = n) (hm : n ≤ maxLen) (hb : base ≤ w.heap.size) (N : Nat) (hN : N = w.heap.size) : (w.alloc (.cells c e)).ownsRow base e 1 (.slice (some ⟨N, 0, none⟩) n n) n c.toList := by
  subst hN hn
  refine ⟨by simp, .inr ⟨w.heap.size, c.size, c, rfl, hb, heap_alloc_new w _, Nat.le_refl _, hm, by simp, ?_⟩⟩
  rw [Nat.mul_one, ← Array.length_toList, List.take_length]
end
end Go.Proofs.YtbiokogihimboaaDoor.Base
