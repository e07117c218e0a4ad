/-
  The law's own list of acts, as it lies in its row, and what it says of an ord. No program stands here.
-/
import Derived.Test.YtefebimnebpodaaOrdOps
namespace Go.Proofs.Ytefebimnebpodaa.Ord
open Go.RowKit Base

abbrev Trip := Int × Int × ByteArray
def tcells (t : Trip) : List Value := [.int .i64 t.1, .int .i64 t.2.1, .string t.2.2]
def wcells : List Trip → List Value
  | [] => []
  | t :: ws => tcells t ++ wcells ws
theorem wcells_append : ∀ (a b : List Trip), wcells (a ++ b) = wcells a ++ wcells b
  | [], b => rfl
  | t :: a, b => by
    show tcells t ++ wcells (a ++ b) = (tcells t ++ wcells a) ++ wcells b
    rw [wcells_append a b, List.append_assoc]
theorem wcells_length : ∀ ws : List Trip, (wcells ws).length = ws.length * 3
  | [] => rfl
  | t :: ws => by
    show (tcells t ++ wcells ws).length = _
    rw [List.length_append, wcells_length ws, List.length_cons, show (tcells t).length = 3 from rfl]
    omega
theorem wcells_one : ∀ (ws : List Trip), ∀ v ∈ wcells ws, v.oneCell' = true
  | [], v, h => by cases h
  | t :: ws, v, h => by
    rcases List.mem_append.1 (show v ∈ tcells t ++ wcells ws from h) with h | h
    · simp only [tcells, List.mem_cons, List.not_mem_nil, or_false] at h
      rcases h with rfl | rfl | rfl <;> rfl
    · exact wcells_one ws v h
theorem wcells_get : ∀ (ws : List Trip) (j : Nat) (t : Trip), ws[j]? = some t → (wcells ws)[j * 3]? = some (.int .i64 t.1) ∧ (wcells ws)[j * 3 + 1]? = some (.int .i64 t.2.1) ∧ (wcells ws)[j * 3 + 2]? = some (.string t.2.2)
  | [], j, t, h => by simp at h
  | x :: ws, 0, t, h => by
    simp at h
    subst h
    exact ⟨rfl, rfl, rfl⟩
  | x :: ws, j + 1, t, h => by
    have ih := wcells_get ws j t (by simpa using h)
    have e : ∀ i, (wcells (x :: ws))[(j + 1) * 3 + i]? = (wcells ws)[j * 3 + i]? := fun i => by
      show (tcells x ++ wcells ws)[(j + 1) * 3 + i]? = _
      rw [List.getElem?_append_right (by simp [tcells]; omega)]
      congr 1
      simp [tcells]; omega
    have e0 := e 0
    simp only [Nat.add_zero] at e0
    rw [e0, e 1, e 2]
    exact ih
theorem wcells_take : ∀ (ws : List Trip) (k : Nat), wcells (ws.take k) = (wcells ws).take (k * 3)
  | [], k => by simp [wcells]
  | x :: ws, 0 => by simp [wcells]
  | x :: ws, k + 1 => by
    show tcells x ++ wcells (ws.take k) = (tcells x ++ wcells ws).take ((k + 1) * 3)
    rw [wcells_take ws k, List.take_append, List.take_of_length_le (l := tcells x) (by show 3 ≤ _; omega), show (k + 1) * 3 - (tcells x).length = k * 3 by (show (k + 1) * 3 - 3 = _); omega]
theorem wcells_drop : ∀ (ws : List Trip) (k : Nat), wcells (ws.drop k) = (wcells ws).drop (k * 3)
  | [], k => by simp [wcells]
  | x :: ws, 0 => by simp
  | x :: ws, k + 1 => by
    show wcells (ws.drop k) = (tcells x ++ wcells ws).drop ((k + 1) * 3)
    have hz : (tcells x).drop ((k + 1) * 3) = [] := List.drop_eq_nil_of_le (by show 3 ≤ _; omega)
    rw [wcells_drop ws k, List.drop_append, hz, List.nil_append, show (k + 1) * 3 - (tcells x).length = k * 3 by (show (k + 1) * 3 - 3 = _); omega]
theorem wcells_set : ∀ (ws : List Trip) (k : Nat) (t : Trip) (v : Int), ws[k]? = some t → (wcells ws).set (k * 3 + 1) (.int .i64 v) = wcells (ws.set k (t.1, v, t.2.2))
  | [], k, t, v, h => by simp at h
  | x :: ws, 0, t, v, h => by
    simp at h
    subst h
    rfl
  | x :: ws, k + 1, t, v, h => by
    have ih := wcells_set ws k t v (by simpa using h)
    show (tcells x ++ wcells ws).set ((k + 1) * 3 + 1) (.int .i64 v) = tcells x ++ wcells (ws.set k (t.1, v, t.2.2))
    rw [List.set_append_right _ _ (by simp [tcells]; omega), ← ih]
    congr 2
    simp [tcells]; omega

def tent (t : Trip) : Ent := (t.2.2, .int .i64 t.2.1)
def ents (ws : List Trip) : List Ent := ws.map tent
theorem ents_length (ws : List Trip) : (ents ws).length = ws.length := by simp [ents]
theorem ents_get (ws : List Trip) (j : Nat) : (ents ws)[j]? = (ws[j]?).map tent := by simp [ents]
theorem ents_drop (nm : ByteArray) (ws : List Trip) : drop nm (ents ws) = if has nm (ents ws) then ents (ws.take (place nm (ents ws)) ++ ws.drop (place nm (ents ws) + 1)) else ents ws := by
  unfold drop
  split
  · simp [ents]
  · rfl
theorem ents_put_new (op v : Int) (nm : ByteArray) (ws : List Trip) (h : has nm (ents ws) = false) : put nm (.int .i64 v) (ents ws) = ents (ws.take (place nm (ents ws)) ++ (op, v, nm) :: ws.drop (place nm (ents ws))) := by
  unfold put
  rw [h]
  simp [ents, tent]
theorem ents_put_there (v : Int) (nm : ByteArray) (ws : List Trip) (t : Trip) (h : has nm (ents ws) = true) (ht : ws[place nm (ents ws)]? = some t) : put nm (.int .i64 v) (ents ws) = ents (ws.set (place nm (ents ws)) (t.1, v, t.2.2)) := by
  obtain ⟨u, hu⟩ := has_iff.1 h
  rw [ents_get, ht] at hu
  simp only [Option.map_some, Option.some.injEq, tent, Prod.mk.injEq] at hu
  unfold put
  rw [if_pos h]
  simp only [ents, List.map_set, tent, hu.1]

/-- a row of acts, to be read -/
structure ActsAt (w : World) (v : Value) (ws : List Trip) : Prop where
  form : ∃ A C, v = .slice A ws.length C ∧ ws.length ≤ C ∧ (ws = [] ∨ ∃ b, A = some ⟨b, 0, none⟩ ∧ ∀ j t, ws[j]? = some t → w.cell? ⟨b, j * 3, none⟩ = some (.int .i64 t.1) ∧ w.cell? ⟨b, j * 3 + 1, none⟩ = some (.int .i64 t.2.1) ∧ w.cell? ⟨b, j * 3 + 2, none⟩ = some (.string t.2.2))
theorem acts_own {w : World} {base : Nat} {e : TypeId} {v : Value} {ws : List Trip} (h : w.ownsRow base e 3 v ws.length (wcells ws)) : ActsAt w v ws := by
  rcases h.2 with ⟨rfl, h0⟩ | ⟨g, cap, cur, rfl, hb, hg, hc, _, hcs, hcur⟩
  · exact ⟨⟨none, 0, by rw [h0], by omega, .inl (List.length_eq_zero_iff.1 h0)⟩⟩
  · refine ⟨⟨_, cap, rfl, hc, .inr ⟨g, rfl, fun j t ht => ?_⟩⟩⟩
    have hj := (List.getElem?_eq_some_iff.1 ht).1
    have hget : ∀ i u, (wcells ws)[i]? = some u → w.cell? ⟨g, i, none⟩ = some u := fun i u hu => by
      rw [cell_of_row _ _ _ _ _ _ hg]
      rw [← hcur, List.getElem?_take] at hu
      split at hu
      · simpa using hu
      · cases hu
    obtain ⟨h0, h1, h2⟩ := wcells_get ws j t ht
    exact ⟨hget _ _ h0, hget _ _ h1, hget _ _ h2⟩
/-- the first k of a row, the rest of it: as sources -/
theorem acts_vals {w : World} {base : Nat} {e : TypeId} {g cap n : Nat} {ws : List Trip} (h : w.ownsRow base e 3 (.slice (some ⟨g, 0, none⟩) n cap) n (wcells ws)) (k m c : Nat) (hkm : k + m ≤ n) (hmc : m ≤ c) : ValsIs w (.slice (some ⟨g, 0 + k * 3, none⟩) m c) m (wcells ((ws.drop k).take m)) := by
  have hl := h.1
  rw [wcells_length] at hl
  have hn : ws.length = n := by omega
  rcases h.2 with ⟨h0, _⟩ | ⟨g', cap', cur, hv, hb, hg, hc, _, hcs, hcur⟩
  · cases h0
  · cases hv
    refine ⟨_, c, g, 0 + k * 3, rfl, hmc, fun _ => rfl, fun j hj => ?_⟩
    rw [wcells_length, List.length_take, List.length_drop] at hj
    rw [cell_of_row _ _ _ _ _ _ hg]
    have hi : k * 3 + j < (wcells ws).length := by rw [wcells_length]; omega
    obtain ⟨u, hu⟩ : ∃ u, (wcells ws)[k * 3 + j]? = some u := ⟨_, List.getElem?_eq_getElem hi⟩
    have hx : (wcells ((ws.drop k).take m))[j]? = (wcells ws)[k * 3 + j]? := by
      rw [wcells_take, wcells_drop, List.getElem?_take, if_pos (by omega), List.getElem?_drop]
    rw [List.getD_eq_getElem?_getD, hx, hu]
    rw [← hcur, List.getElem?_take] at hu
    rw [show 0 + k * 3 + j = k * 3 + j by omega]
    split at hu
    · simpa using hu
    · cases hu
theorem owns_set {w : World} {base : Nat} {e : TypeId} {size g cap n : Nat} {xs : List Value} (h : w.ownsRow base e size (.slice (some ⟨g, 0, none⟩) n cap) n xs) (i : Nat) (hi : i < xs.length) (u : Value) : (w.setCell ⟨g, i, none⟩ u).ownsRow base e size (.slice (some ⟨g, 0, none⟩) n cap) n (xs.set i u) := by
  have hl := h.1
  rcases h.2 with ⟨h0, _⟩ | ⟨g', cap', cur, hv, hb, hg, hc, hm, hcs, hcur⟩
  · cases h0
  · cases hv
    refine ⟨by simpa using hl, .inr ⟨g, cap, _, rfl, hb, heap_setCell hg u, hc, hm, by simpa using hcs, ?_⟩⟩
    rw [Array.toList_setIfInBounds, List.take_set, hcur]
end Go.Proofs.Ytefebimnebpodaa.Ord
