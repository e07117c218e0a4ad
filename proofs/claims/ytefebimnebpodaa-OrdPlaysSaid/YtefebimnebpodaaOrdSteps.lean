/-
  Appending acts in a region that draws: the runs, one behind the other. No program stands here.
-/
import Derived.Test.YtefebimnebpodaaOrdActs
import Derived.Test.YtefebimnebpodaaOrdTurn
namespace Go.Proofs.Ytefebimnebpodaa.Ord
open Go.RowKit Base
variable {P : Program}

theorem step_append_at {ops : Array Oper} {o : Oper} {a : Act} {w : World} {K : Act → World → Prop} {Q : Exit → Act → World → Prop} {E : Prop} (hgd : o.guard = none) (x y : Operand) (t t' : TypeId)
    (ho : o.op = .call { callee := .builtin .append, args := #[x, y], argTypes := #[t, t'] }) (u v : Value) (hx : a.eval x = u) (hy : a.eval y = v) {r : Value} {w' : World}
    (hr : (Builtin.append_ #[t, t'] o.type #[u, v]).run P w = .ok r w') (h : K (a.put o.dst r) w') : if Region.wanted o (yielded ops a.tmps) = true then Oper.wp P o a w K Q else E := by
  rw [if_pos (by simp [Region.wanted, hgd])]
  unfold Oper.wp
  simp [execOp, ho, resolve, invoke, builtin, hx, hy, hr, Result.andThen]
  exact h
/-- a source of acts: a part of an own row, wherever its address is spelled -/
theorem acts_tail {w : World} {base : Nat} {e : TypeId} {b C n : Nat} {ws : List Trip} (h : w.ownsRow base e 3 (.slice (some ⟨b, 0, none⟩) n C) n (wcells ws)) (hn : n ≤ C) (k : Nat) (hk : k ≤ n) :
    ∃ A : Addr, (if C = k then some (⟨b, 0, none⟩ : Addr) else some ⟨b, k * 3, none⟩) = some A ∧ ValsIs w (.slice (some A) (n - k) (C - k)) (n - k) (wcells (ws.drop k)) := by
  have hl := h.1
  rw [wcells_length] at hl
  have hv := acts_vals h k (n - k) (C - k) (by omega) (by omega)
  rw [List.take_of_length_le (by rw [List.length_drop]; omega), Nat.zero_add] at hv
  by_cases hc : C = k
  · refine ⟨⟨b, 0, none⟩, by simp [hc], ?_⟩
    have h0 : n - k = 0 := by omega
    rw [h0]
    have hd : ws.drop k = [] := List.drop_eq_nil_of_le (by omega)
    rw [hd]
    exact ⟨_, C - k, b, 0, rfl, Nat.zero_le _, fun h => absurd h (Nat.lt_irrefl _), fun j hj => absurd hj (Nat.not_lt_zero _)⟩
  · exact ⟨⟨b, k * 3, none⟩, by simp [hc], hv⟩
theorem acts_head {w : World} {base : Nat} {e : TypeId} {b C n : Nat} {ws : List Trip} (h : w.ownsRow base e 3 (.slice (some ⟨b, 0, none⟩) n C) n (wcells ws)) (hn : n ≤ C) (k : Nat) (hk : k ≤ n) :
    ValsIs w (.slice (some ⟨b, 0, none⟩) k C) k (wcells (ws.take k)) := by
  have hv := acts_vals h 0 k C (by omega) (by omega)
  simpa using hv
theorem vals_nil (w : World) (c : Nat) : ValsIs w (.slice none 0 c) 0 (wcells []) := ⟨none, c, 0, 0, rfl, Nat.zero_le _, fun h => absurd h (Nat.lt_irrefl _), fun j hj => absurd hj (Nat.not_lt_zero _)⟩
section
variable (S E : TypeId) (z : Value) (bytes : Nat) (ht : P.underlying S = some (.slice E)) (hinfo : (P.info? E).map (fun i => (i.zero, i.size, i.bytes)) = some (some z, 3, bytes)) (hz : z.cells.size = 3) (hby : bytes ≤ 1000)
include ht hinfo hz hby
theorem append_run {w : World} {base : Nat} {v v2 : Value} {n m : Nat} {ws us : List Trip} (hown : w.ownsRow base E 3 v n (wcells ws)) (hB : ValsIs w v2 m (wcells us)) (hm : us.length = m) (hn : n + m ≤ 1000) (hbase : base ≤ w.heap.size) :
    ∃ v' w', (Builtin.append_ #[S, S] S #[v, v2]).run P w = .ok v' w' ∧ w'.ownsRow base E 3 v' (n + m) (wcells (ws ++ us)) ∧ w.grownBy w' v.ownBlock := by
  have hb : (n + m) * bytes ≤ 1000 * 1000 := Nat.mul_le_mul hn hby
  have := run_append_vals (P := P) w base S S E ht z 3 bytes hinfo hz (by decide) v v2 n m (wcells ws) (wcells us) hown hB (by rw [wcells_length, hm]) (wcells_one us) (by unfold maxLen; omega) (by omega) hbase
  rw [← wcells_append] at this
  exact this
end
theorem made_empty (w : World) (base : Nat) (e : TypeId) (hb : base ≤ w.heap.size) (N : Nat) (hN : N = w.heap.size) : (w.alloc (.cells #[] e)).ownsRow base e 3 (.slice (some ⟨N, 0, none⟩) 0 0) 0 (wcells []) := by
  subst hN
  exact World.ownsRow_made w #[] 0 hb (Nat.zero_le _) rfl
theorem vals_one (w : World) (t : Trip) (e : TypeId) (b c : Nat) (hb : w.heap[b]? = some (.cells #[.int .i64 t.1, .int .i64 t.2.1, .string t.2.2] e (0, 0))) (hc : 1 ≤ c) : ValsIs w (.slice (some ⟨b, 0, none⟩) 1 c) 1 (wcells [t]) := by
  refine ⟨_, c, b, 0, rfl, hc, fun _ => rfl, fun j hj => ?_⟩
  rw [cell_of_row _ _ _ _ _ _ hb]
  rw [wcells_length] at hj
  have : j = 0 ∨ j = 1 ∨ j = 2 := by simp at hj; omega
  rcases this with rfl | rfl | rfl <;> rfl
theorem owns_base {w : World} {base base' : Nat} {e : TypeId} {size : Nat} {v : Value} {n : Nat} {xs : List Value} (h : w.ownsRow base e size v n xs) (hb : base' ≤ base) : w.ownsRow base' e size v n xs := by
  refine ⟨h.1, ?_⟩
  rcases h.2 with hn | ⟨g, cap, cur, hv, hbg, rest⟩
  · exact .inl hn
  · exact .inr ⟨g, cap, cur, hv, Nat.le_trans hb hbg, rest⟩
theorem fr_grown {u w w' : World} {v : Value} {e : TypeId} {size n : Nat} {xs : List Value} (hf : Fr0 u w) (ho : w.ownsRow u.heap.size e size v n xs) (hg : w.grownBy w' v.ownBlock) : Fr0 u w' :=
  Fr.trans hf (Fr.of_grown (S := fun q => v.ownBlock = some q) hg (fun q _ e => e)) (fun i hi e => by have := (World.ownsRow.lt ho i e).1; omega)
section
variable (S E : TypeId) (z : Value) (bytes : Nat) (ht : P.underlying S = some (.slice E)) (hinfo : (P.info? E).map (fun i => (i.zero, i.size, i.bytes)) = some (some z, 3, bytes)) (hz : z.cells.size = 3) (hby : bytes ≤ 1000)
include ht hinfo hz hby
/-- one is struck from the list: two appends -/
theorem two_runs (u : World) (s1 s2 : Value) (k n : Nat) (ws : List Trip) (hV1 : ValsIs u s1 k (wcells (ws.take k))) (hV2 : ValsIs u s2 (n - (k + 1)) (wcells (ws.drop (k + 1)))) (hl : ws.length = n) (hk : k < n) (hn : n ≤ 160) (N : Nat) (hN : N = u.heap.size) :
    ∃ v1 W1 A C W2, (Builtin.append_ #[S, S] S #[.slice (some ⟨N, 0, none⟩) 0 0, s1]).run P (u.alloc (.cells #[] E)) = .ok v1 W1 ∧ (Builtin.append_ #[S, S] S #[v1, s2]).run P W1 = .ok (.slice A (n - 1) C) W2 ∧ W2.ownsRow u.heap.size E 3 (.slice A (n - 1) C) (n - 1) (wcells (ws.take k ++ ws.drop (k + 1))) ∧ Fr0 u W2 := by
  have hf0 : Fr0 u (u.alloc (.cells #[] E)) := (Fr.refl _ u).alloc _
  have hE := made_empty u u.heap.size E (Nat.le_refl _) N hN
  obtain ⟨v1, W1, hr1, hO1, hg1⟩ := append_run S E z bytes ht hinfo hz hby (us := ws.take k) (ws := []) hE (hV1.fr0 hf0) (by simp; omega) (by omega) hf0.size
  have hf1 := fr_grown hf0 hE hg1
  obtain ⟨v2, W2, hr2, hO2, hg2⟩ := append_run S E z bytes ht hinfo hz hby (us := ws.drop (k + 1)) hO1 (hV2.fr0 hf1) (by simp; omega) (by omega) hf1.size
  have hf2 := fr_grown hf1 hO1 hg2
  rw [show 0 + k + (n - (k + 1)) = n - 1 by omega, List.nil_append] at hO2
  obtain ⟨A, C, rfl⟩ := owns_slice hO2
  exact ⟨v1, W1, A, C, W2, hr1, hr2, hO2, hf2⟩
/-- one comes into the list: three appends; the one lies in a row of its own that is made behind the first append -/
theorem three_runs (u : World) (s1 s2 : Value) (k n : Nat) (ws : List Trip) (t : Trip) (hV1 : ValsIs u s1 k (wcells (ws.take k))) (hV2 : ValsIs u s2 (n - k) (wcells (ws.drop k))) (hl : ws.length = n) (hk : k ≤ n) (hn : n ≤ 160) (N : Nat) (hN : N = u.heap.size) :
    ∃ v1 W1 v2 W2 A C W3, (Builtin.append_ #[S, S] S #[.slice (some ⟨N, 0, none⟩) 0 0, s1]).run P (u.alloc (.cells #[] E)) = .ok v1 W1 ∧ (Builtin.append_ #[S, S] S #[v1, .slice (some ⟨W1.heap.size, 0, none⟩) 1 1]).run P (W1.alloc (.cells #[.int .i64 t.1, .int .i64 t.2.1, .string t.2.2] E)) = .ok v2 W2 ∧
      (Builtin.append_ #[S, S] S #[v2, s2]).run P W2 = .ok (.slice A (n + 1) C) W3 ∧ W3.ownsRow u.heap.size E 3 (.slice A (n + 1) C) (n + 1) (wcells (ws.take k ++ t :: ws.drop k)) ∧ Fr0 u W3 ∧ Fr0 u W1 := by
  have hf0 : Fr0 u (u.alloc (.cells #[] E)) := (Fr.refl _ u).alloc _
  have hE := made_empty u u.heap.size E (Nat.le_refl _) N hN
  obtain ⟨v1, W1, hr1, hO1, hg1⟩ := append_run S E z bytes ht hinfo hz hby (us := ws.take k) (ws := []) hE (hV1.fr0 hf0) (by simp; omega) (by omega) hf0.size
  have hf1 := fr_grown hf0 hE hg1
  have hfa : Fr0 u (W1.alloc (.cells #[.int .i64 t.1, .int .i64 t.2.1, .string t.2.2] E)) := hf1.alloc _
  obtain ⟨v2, W2, hr2, hO2, hg2⟩ := append_run S E z bytes ht hinfo hz hby (us := [t]) (hO1.alloc (.cells #[.int .i64 t.1, .int .i64 t.2.1, .string t.2.2] E)) (vals_one _ t E W1.heap.size 1 (heap_alloc_new W1 _) (Nat.le_refl _)) rfl (by omega) hfa.size
  have hf2 := fr_grown hfa (hO1.alloc _) hg2
  obtain ⟨v3, W3, hr3, hO3, hg3⟩ := append_run S E z bytes ht hinfo hz hby (us := ws.drop k) hO2 (hV2.fr0 hf2) (by simp; omega) (by omega) hf2.size
  have hf3 := fr_grown hf2 hO2 hg3
  rw [show 0 + k + 1 + (n - k) = n + 1 by omega, List.nil_append, List.append_assoc] at hO3
  obtain ⟨A, C, rfl⟩ := owns_slice hO3
  exact ⟨v1, W1, v2, W2, A, C, W3, hr1, hr2, hr3, hO3, hf3, hf1⟩
/-- the same, both rows made ahead -/
theorem three_runs' (u W : World) (s1 s2 : Value) (k n : Nat) (ws : List Trip) (t : Trip) (hV1 : ValsIs u s1 k (wcells (ws.take k))) (hV2 : ValsIs u s2 (n - k) (wcells (ws.drop k))) (hl : ws.length = n) (hk : k ≤ n) (hn : n ≤ 160) (N Q : Nat) (hfW : Fr0 u W) (hE : W.ownsRow u.heap.size E 3 (.slice (some ⟨N, 0, none⟩) 0 0) 0 (wcells [])) (hQ : W.heap[Q]? = some (.cells #[.int .i64 t.1, .int .i64 t.2.1, .string t.2.2] E (0, 0))) (hNQ : Q ≠ N) :
    ∃ v1 W1 v2 W2 A C W3, (Builtin.append_ #[S, S] S #[.slice (some ⟨N, 0, none⟩) 0 0, s1]).run P W = .ok v1 W1 ∧ (Builtin.append_ #[S, S] S #[v1, .slice (some ⟨Q, 0, none⟩) 1 1]).run P W1 = .ok v2 W2 ∧
      (Builtin.append_ #[S, S] S #[v2, s2]).run P W2 = .ok (.slice A (n + 1) C) W3 ∧ W3.ownsRow u.heap.size E 3 (.slice A (n + 1) C) (n + 1) (wcells (ws.take k ++ t :: ws.drop k)) ∧ Fr0 u W3 := by
  obtain ⟨v1, W1, hr1, hO1, hg1⟩ := append_run S E z bytes ht hinfo hz hby (us := ws.take k) (ws := []) hE (hV1.fr0 hfW) (by simp; omega) (by omega) hfW.size
  have hf1 := fr_grown hfW hE hg1
  have hQ1 : W1.heap[Q]? = some (.cells #[.int .i64 t.1, .int .i64 t.2.1, .string t.2.2] E (0, 0)) := (hg1.block Q (lt_of_heap hQ) (by simpa [Value.ownBlock] using hNQ)).trans hQ
  obtain ⟨v2, W2, hr2, hO2, hg2⟩ := append_run S E z bytes ht hinfo hz hby (us := [t]) hO1 (vals_one _ t E Q 1 hQ1 (Nat.le_refl _)) rfl (by omega) hf1.size
  have hf2 := fr_grown hf1 hO1 hg2
  obtain ⟨v3, W3, hr3, hO3, hg3⟩ := append_run S E z bytes ht hinfo hz hby (us := ws.drop k) hO2 (hV2.fr0 hf2) (by simp; omega) (by omega) hf2.size
  have hf3 := fr_grown hf2 hO2 hg3
  rw [show 0 + k + 1 + (n - k) = n + 1 by omega, List.nil_append, List.append_assoc] at hO3
  obtain ⟨A, C, rfl⟩ := owns_slice hO3
  exact ⟨v1, W1, v2, W2, A, C, W3, hr1, hr2, hr3, hO3, hf3⟩
end
end Go.Proofs.Ytefebimnebpodaa.Ord
