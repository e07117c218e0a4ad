/-
  A slice of ints of the call's own that is cut at its front and appended to at its end.
-/
import Derived.Test.YtgmfheofhpdcfaaLaw
import Derived.Deep.AppendSrc
import Derived.Laws.IdiomCopy
namespace Go.Proofs.Ytgmfheofhpdcfaa.Base
open Go.RowKit

/-- v is nil, or a cut of a row that was made behind block 'base'; it reads as l -/
def QueueIs (w : World) (base : Nat) (e : TypeId) (v : Value) (l : List Int) : Prop :=
  (v = .slice none 0 0 ∧ l = []) ∨ ∃ (b off cap : Nat) (cur : Array Value), v = .slice (some ⟨b, off, none⟩) l.length cap ∧ base ≤ b ∧ w.heap[b]? = some (.cells cur e (0, 0)) ∧ l.length ≤ cap ∧ off + cap ≤ cur.size ∧ ∀ j, j < l.length → cur[off + j]? = some (.int .i64 (l.getD j 0))
namespace QueueIs
variable {w w' : World} {base : Nat} {e : TypeId} {v : Value} {l : List Int}
theorem nil (w : World) (base : Nat) (e : TypeId) : QueueIs w base e (.slice none 0 0) [] := .inl ⟨rfl, rfl⟩
theorem form (h : QueueIs w base e v l) : ∃ A C, v = .slice A l.length C := by
  rcases h with ⟨rfl, rfl⟩ | ⟨b, off, cap, cur, rfl, _⟩
  · exact ⟨none, 0, rfl⟩
  · exact ⟨_, _, rfl⟩
theorem cells (h : QueueIs w base e v l) (hn : 0 < l.length) : ∃ b off C, v = .slice (some ⟨b, off, none⟩) l.length C ∧ l.length ≤ C ∧ ∀ j, j < l.length → w.cell? ⟨b, off + j, none⟩ = some (.int .i64 (l.getD j 0)) := by
  rcases h with ⟨rfl, rfl⟩ | ⟨b, off, cap, cur, rfl, _, hb, hle, _, hc⟩
  · simp at hn
  · exact ⟨b, off, cap, rfl, hle, fun j hj => by rw [cell_of_row _ _ _ _ _ _ hb]; exact hc j hj⟩
theorem block (h : QueueIs w base e v l) (q : Nat) (hq : v.ownBlock = some q) : base ≤ q ∧ q < w.heap.size ∧ ∃ cs t fr, w.heap[q]? = .some (.cells cs t fr) := by
  rcases h with ⟨rfl, rfl⟩ | ⟨b, off, cap, cur, rfl, h1, hb, _⟩
  · cases hq
  · cases hq
    exact ⟨h1, lt_of_heap hb, _, _, _, hb⟩
theorem fr {S : Nat → Prop} (h : QueueIs w base e v l) (hf : Fr S w w') (hs : ∀ q, v.ownBlock = .some q → ¬ S q) : QueueIs w' base e v l := by
  rcases h with h | ⟨b, off, cap, cur, rfl, h1, hb, rest⟩
  · exact .inl h
  · exact .inr ⟨b, off, cap, cur, rfl, h1, hf.heap hb (hs b rfl), rest⟩
theorem fr0 (h : QueueIs w base e v l) (hf : Fr0 w w') : QueueIs w' base e v l := h.fr hf (fun _ _ f => f)
/-- v[1:] -/
theorem cut {P : Program} (t : TypeId) (ht : P.underlying t = .some (.slice e)) (hs : (P.info? e).map (·.size) = .some 1) {x : Int} (h : QueueIs w base e v (x :: l)) :
    ∃ v', QueueIs w base e v' l ∧ v'.ownBlock = v.ownBlock ∧ ∀ wx : World, (Instr.sliceAt t v (.some (.int .i64 1)) none none).run P wx = .ok v' wx := by
  obtain ⟨i, hi', hz⟩ : ∃ i, P.info? e = .some i ∧ i.size = 1 := by
    cases hq : P.info? e with
    | none => simp [hq] at hs
    | some i => exact ⟨i, rfl, by simpa [hq] using hs⟩
  have hE : P.elem t = e := by simp [Program.elem, ht]
  rcases h with ⟨_, h⟩ | ⟨b, off, cap, cur, rfl, h1, hb, hle, hcap, hc⟩
  · cases h
  · simp only [List.length_cons] at hle hc
    refine ⟨.slice (.some ⟨b, if cap = 1 then off else off + 1, none⟩) l.length (cap - 1), .inr ⟨b, _, cap - 1, cur, rfl, h1, hb, by omega, by split <;> omega, fun j hj => ?_⟩, rfl, fun wx => ?_⟩
    · rw [if_neg (by omega), Nat.add_assoc, Nat.add_comm 1 j, hc (j + 1) (by omega)]
      simp
    · have hr := run_slice_l (P := P) wx t (.some ⟨b, off, none⟩) (x :: l).length cap (by rw [hE]; exact ht) .i64 (1 : Int) (by omega) (by simp only [List.length_cons]; omega)
      rw [run_sliceAt_slice wx t _ _ _ _ (by rw [hE]; exact ht), hr, hE]
      simp [sizeOf, typeInfo, hi', hz, sliced, Sem.run_bind, Addr.add]
      split <;> rfl
/-- append(v, x) -/
theorem push {P : Program} (t ty : TypeId) (ht : P.underlying t = .some (.slice e)) (hinfo : (P.info? e).map (fun i => (i.zero, i.size, i.bytes)) = .some (.some (.int .i64 0), 1, 8)) (h : QueueIs w base e v l) (hbase : base ≤ w.heap.size) (hl : l.length ≤ 1000) (x : Int) (N : Nat)
    (hN : w.cell? ⟨N, 0, none⟩ = .some (.int .i64 x)) :
    ∃ v' w', (Builtin.append_ #[t, t] ty #[v, .slice (.some ⟨N, 0, none⟩) 1 1]).run P w = .ok v' w' ∧ QueueIs w' base e v' (l ++ [x]) ∧ w.grownBy w' v.ownBlock ∧ (v'.ownBlock = v.ownBlock ∨ v'.ownBlock = .some w.heap.size) := by
  obtain ⟨i, hi, hz0, hz1, hz2⟩ := info_parts hinfo
  have hsrc : Src P i.size t (.slice (.some ⟨N, 0, none⟩) 1 1) 1 [.int .i64 x] w := Src.ofSlice w ht ⟨N, 0, none⟩ 1 1 _ (by rw [hz1]; rfl) (fun j u hj => by
    cases j with
    | zero => simp at hj; subst hj; simpa [Addr.add] using hN
    | succ j => simp at hj) (fun u hu => by simp at hu; subst hu; rfl)
  have grow : ∀ (A : Option Addr) (C : Nat), v = .slice A l.length C → C < l.length + 1 → (Builtin.firstCells i.size l.length (.slice A l.length C)).run P w.drew = .ok (l.map (Value.int .i64)).toArray w.drew →
      ∃ v' w', (Builtin.append_ #[t, t] ty #[v, .slice (.some ⟨N, 0, none⟩) 1 1]).run P w = .ok v' w' ∧ QueueIs w' base e v' (l ++ [x]) ∧ w.grownBy w' v.ownBlock ∧ (v'.ownBlock = v.ownBlock ∨ v'.ownBlock = .some w.heap.size) := by
    rintro A C rfl hC hold
    have hrun := run_append_grow_src (P := P) w t t ty e i _ ht hi hz0 A l.length C _ hold _ 1 _ hsrc hC (by omega) (growslice_fits hC (by rw [hz2]; omega))
    have hge := grownCap_ge w (l.length + 1) C e
    refine ⟨_, _, hrun, .inr ⟨w.heap.size, 0, _, _, by rw [List.length_append]; rfl, hbase, heap_alloc_new w.drew _, by simpa using hge, ?_, fun j hj => ?_⟩, ⟨rfl, rfl, rfl, by simp, fun k hk _ => Below.heap_alloc w.drew _ k hk⟩, .inr rfl⟩
    · simp [Builtin.zeroCells, Value.cells]
      omega
    · rw [Nat.zero_add, Array.getElem?_append_left (by simpa using hj), List.getElem?_toArray]
      simp only [List.length_append, List.length_singleton] at hj
      by_cases hjl : j < l.length
      · rw [List.getElem?_append_left (by simpa using hjl)]
        simp [List.getElem?_append_left, hjl]
      · obtain rfl : j = l.length := by omega
        simp
  rcases h with ⟨rfl, rfl⟩ | ⟨b, off, cap, cur, rfl, h1, hb, hle, hcap, hc⟩
  · exact grow none 0 rfl (by simp) (by simpa using run_firstCells_none (P := P) w.drew i.size 0 0 0)
  · by_cases hroom : l.length + 1 ≤ cap
    · have hcs : ∀ j, j < cap → (w.cell? ⟨b, off + j, none⟩).isSome = true := fun j hj => by
        rw [cell_of_row _ _ _ _ _ _ hb, Array.getElem?_eq_getElem (by omega)]; rfl
      have hfz : ∀ o, w.frozen? ⟨b, o, none⟩ = false := fun o => by simp [World.frozen?, hb]
      have hrun := run_append_room_src (P := P) w t t ty e i ht hi b off l.length cap _ 1 _ hsrc hroom (fun j hj => by
        rw [hz1, Nat.mul_one, Nat.add_assoc]
        exact hcs _ (by simp at hj; omega)) (fun j hj => hfz _)
      rw [hz1, Nat.mul_one] at hrun
      have hw : w.setCells b (off + l.length) [Value.int .i64 x] = w.setCell ⟨b, off + l.length, none⟩ (.int .i64 x) := rfl
      rw [hw] at hrun
      have hb' : (w.setCell ⟨b, off + l.length, none⟩ (.int .i64 x)).heap[b]? = .some (.cells (cur.setIfInBounds (off + l.length) (.int .i64 x)) e (0, 0)) := by
        simp [World.setCell, hb, Array.getElem?_modify]
      refine ⟨_, _, hrun, .inr ⟨b, off, cap, _, by rw [List.length_append]; rfl, h1, hb', by simpa using hroom, by simpa using hcap, fun j hj => ?_⟩, ⟨rfl, rfl, rfl, by simp [World.setCell], fun k hk hne => Below.heap_setCell _ _ _ _ (fun e => hne (by subst e; rfl))⟩, .inl rfl⟩
      simp only [List.length_append, List.length_singleton] at hj
      by_cases hjl : j < l.length
      · rw [Array.getElem?_setIfInBounds_ne (by omega), hc j hjl]
        simp [List.getElem?_append_left, hjl]
      · obtain rfl : j = l.length := by omega
        rw [Array.getElem?_setIfInBounds_self_of_lt (by omega)]
        simp
    · refine grow _ cap rfl (by omega) (run_firstCells_some (P := P) w.drew i.size l.length ⟨b, off, none⟩ _ _ _ (by rw [hz1, List.length_map, Nat.mul_one]) (fun j u hj => ?_))
      rw [List.getElem?_map] at hj
      have hjl : j < l.length := by
        rcases Nat.lt_or_ge j l.length with h | h
        · exact h
        · rw [List.getElem?_eq_none h] at hj; cases hj
      rw [Addr.add_mid, World.cell?_drew, cell_of_row _ _ _ _ _ _ hb, hc j hjl, ← hj]
      simp [hjl]
end QueueIs
end Go.Proofs.Ytgmfheofhpdcfaa.Base
