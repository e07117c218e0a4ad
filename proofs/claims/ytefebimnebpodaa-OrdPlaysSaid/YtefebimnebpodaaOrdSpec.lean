/-
  Names in order: strings held by their bytes, and a list of named things sorted by them. No program stands here.
-/
import Derived.Test.YtefebimnebpodaaVals
import Derived.Test.YtefebimnebpodaaFacts
import Derived.Lib.Bytealg
import Derived.Lib.Strings
namespace Go.Proofs.Ytefebimnebpodaa.Ord
open Go.RowKit Base

/-- less by bytes, on lists -/
def ltL : List UInt8 → List UInt8 → Bool := Op.bytesLess
theorem ltL_irrefl : ∀ a : List UInt8, ltL a a = false
  | [] => by simp [ltL, Op.bytesLess]
  | x :: a => by
    have := ltL_irrefl a
    unfold ltL at this ⊢
    simp [Op.bytesLess, this]
theorem ltL_cons (x y : UInt8) (a b : List UInt8) : ltL (x :: a) (y :: b) = (decide (x < y) || (x == y && ltL a b)) := by
  simp [ltL, Op.bytesLess]
theorem ltL_trans : ∀ a b c : List UInt8, ltL a b = true → ltL b c = true → ltL a c = true
  | a, [], _, h, _ => by cases a <;> simp [ltL, Op.bytesLess] at h
  | a, _ :: _, [], _, h => by simp [ltL, Op.bytesLess] at h
  | [], _ :: _, _ :: _, _, _ => by simp [ltL, Op.bytesLess]
  | x :: a, y :: b, z :: c, h, k => by
    rw [ltL_cons] at h k ⊢
    simp only [Bool.or_eq_true, decide_eq_true_eq, Bool.and_eq_true, beq_iff_eq] at h k ⊢
    rcases h with h | ⟨rfl, h⟩
    · rcases k with k | ⟨rfl, k⟩
      · exact .inl (UInt8.lt_trans h k)
      · exact .inl h
    · rcases k with k | ⟨rfl, k⟩
      · exact .inl k
      · exact .inr ⟨rfl, ltL_trans a b c h k⟩
theorem ltL_tri : ∀ a b : List UInt8, ltL a b = true ∨ a = b ∨ ltL b a = true
  | [], [] => .inr (.inl rfl)
  | [], _ :: _ => .inl (by simp [ltL, Op.bytesLess])
  | _ :: _, [] => .inr (.inr (by simp [ltL, Op.bytesLess]))
  | x :: a, y :: b => by
    rw [ltL_cons, ltL_cons]
    by_cases h : x < y
    · exact .inl (by simp [h])
    · by_cases k : y < x
      · exact .inr (.inr (by simp [k]))
      · have e : x = y := UInt8.le_antisymm (UInt8.not_lt.1 k) (UInt8.not_lt.1 h)
        subst e
        rcases ltL_tri a b with h1 | h1 | h1
        · exact .inl (by simp [h1])
        · exact .inr (.inl (by rw [h1]))
        · exact .inr (.inr (by simp [h1]))
theorem cmpL : ∀ a b : List UInt8, Lib.compareBytes a b = if ltL a b then -1 else if a = b then 0 else 1
  | [], [] => by simp [Lib.compareBytes, ltL, Op.bytesLess]
  | [], _ :: _ => by simp [Lib.compareBytes, ltL, Op.bytesLess]
  | _ :: _, [] => by simp [Lib.compareBytes, ltL, Op.bytesLess]
  | x :: a, y :: b => by
    rw [Lib.compareBytes, ltL_cons, cmpL a b]
    by_cases h : x < y
    · simp [h]
    · by_cases k : y < x
      · have hne : x ≠ y := fun e => by subst e; exact h k
        simp [h, k, hne]
      · have e : x = y := UInt8.le_antisymm (UInt8.not_lt.1 k) (UInt8.not_lt.1 h)
        subst e
        simp [h]

/-- less by bytes -/
def lt (a b : ByteArray) : Bool := ltL a.data.toList b.data.toList
theorem lt_raw (a b : ByteArray) : Op.bytesLess a.toList b.toList = lt a b := by rw [Lib.toList_data, Lib.toList_data]; rfl
theorem eq_raw (a b : ByteArray) : (a.toList == b.toList) = decide (a = b) := by
  rw [Lib.toList_data, Lib.toList_data]
  by_cases h : a = b
  · subst h; simp
  · have : a.data.toList ≠ b.data.toList := fun e => h (ByteArray.ext (Array.ext' e))
    rw [decide_eq_false h]
    exact beq_eq_false_iff_ne.2 this
theorem list_eq {a b : ByteArray} : a.data.toList = b.data.toList ↔ a = b := ⟨fun e => ByteArray.ext (Array.ext' e), fun e => by rw [e]⟩
theorem lt_irrefl (a : ByteArray) : lt a a = false := ltL_irrefl _
theorem lt_trans {a b c : ByteArray} (h : lt a b = true) (k : lt b c = true) : lt a c = true := ltL_trans _ _ _ h k
theorem lt_tri (a b : ByteArray) : lt a b = true ∨ a = b ∨ lt b a = true := by
  rcases ltL_tri a.data.toList b.data.toList with h | h | h
  · exact .inl h
  · exact .inr (.inl (list_eq.1 h))
  · exact .inr (.inr h)
theorem lt_ne {a b : ByteArray} (h : lt a b = true) : a ≠ b := fun e => by subst e; rw [lt_irrefl] at h; cases h
theorem lt_asymm {a b : ByteArray} (h : lt a b = true) : lt b a = false := by
  by_cases k : lt b a = true
  · have := lt_trans h k; rw [lt_irrefl] at this; cases this
  · simpa using k
/-- what strings.Compare says -/
def cmp (a b : ByteArray) : Int := Lib.compareBytes a.data.toList b.data.toList
theorem cmp_neg (a b : ByteArray) : decide (cmp a b < 0) = lt a b := by
  unfold cmp lt
  rw [cmpL]
  by_cases h : ltL a.data.toList b.data.toList = true
  · simp [h]
  · by_cases k : a.data.toList = b.data.toList
    · simp [k, ltL_irrefl]
    · simp [h, k]
theorem cmp_zero (a b : ByteArray) : decide (cmp a b = 0) = decide (a = b) := by
  unfold cmp
  rw [cmpL]
  by_cases h : ltL a.data.toList b.data.toList = true
  · have : a ≠ b := lt_ne (a := a) (b := b) h
    simp [h, this]
  · by_cases k : a.data.toList = b.data.toList
    · have := list_eq.1 k
      subst this
      simp [ltL_irrefl]
    · have : a ≠ b := fun e => k (by rw [e])
      simp [h, k, this]
theorem cmp_range (a b : ByteArray) : -1 ≤ cmp a b ∧ cmp a b ≤ 1 := by
  unfold cmp
  rw [cmpL]
  split
  · decide
  · split <;> decide

/-- a name and a thing -/
abbrev Ent := ByteArray × Value
/-- how many stand ahead of the first that is not less -/
def place (nm : ByteArray) : List Ent → Nat
  | [] => 0
  | e :: es => if lt e.1 nm then place nm es + 1 else 0
def Sorted (es : List Ent) : Prop := es.Pairwise fun a b => lt a.1 b.1 = true
/-- the one at the place is of that name -/
def has (nm : ByteArray) (es : List Ent) : Bool := match es[place nm es]? with
  | some e => decide (e.1 = nm)
  | none => false
def put (nm : ByteArray) (v : Value) (es : List Ent) : List Ent := if has nm es then es.set (place nm es) (nm, v) else es.take (place nm es) ++ (nm, v) :: es.drop (place nm es)
def drop (nm : ByteArray) (es : List Ent) : List Ent := if has nm es then es.take (place nm es) ++ es.drop (place nm es + 1) else es

theorem place_le (nm : ByteArray) : ∀ es, place nm es ≤ es.length
  | [] => Nat.le_refl _
  | e :: es => by
    unfold place
    split
    · simpa using place_le nm es
    · exact Nat.zero_le _
theorem place_lt (nm : ByteArray) : ∀ (es : List Ent) (j : Nat) (e : Ent), j < place nm es → es[j]? = some e → lt e.1 nm = true
  | [], j, e, h, _ => by simp [place] at h
  | x :: es, j, e, h, k => by
    unfold place at h
    split at h
    · rename_i hx
      cases j with
      | zero => simp at k; subst k; exact hx
      | succ j => exact place_lt nm es j e (by omega) (by simpa using k)
    · exact absurd h (Nat.not_lt_zero _)
theorem place_at (nm : ByteArray) : ∀ (es : List Ent) (e : Ent), es[place nm es]? = some e → lt e.1 nm = false
  | [], e, h => by simp at h
  | x :: es, e, h => by
    unfold place at h
    split at h
    · exact place_at nm es e (by simpa using h)
    · rename_i hx
      simp at h
      subst h
      simpa using hx
theorem place_unique (nm : ByteArray) : ∀ (es : List Ent) (k : Nat), k ≤ es.length → (∀ j e, j < k → es[j]? = some e → lt e.1 nm = true) → (∀ e, es[k]? = some e → lt e.1 nm = false) → place nm es = k
  | [], k, h, _, _ => by simp at h; subst h; rfl
  | x :: es, 0, _, _, h => by
    have := h x (by simp)
    unfold place
    simp [this]
  | x :: es, k + 1, hk, h, h' => by
    have := h 0 x (by omega) (by simp)
    unfold place
    rw [if_pos this, place_unique nm es k (by simpa using hk) (fun j e hj he => h (j + 1) e (by omega) (by simpa using he)) (fun e he => h' e (by simpa using he))]
theorem Sorted.lt {es : List Ent} (h : Sorted es) {i j : Nat} {a b : Ent} (hij : i < j) (ha : es[i]? = some a) (hb : es[j]? = some b) : lt a.1 b.1 = true := by
  obtain ⟨hi, rfl⟩ := List.getElem?_eq_some_iff.1 ha
  obtain ⟨hj, rfl⟩ := List.getElem?_eq_some_iff.1 hb
  exact List.pairwise_iff_getElem.1 h i j hi hj hij
/-- from the place on none is less -/
theorem Sorted.from {es : List Ent} (h : Sorted es) (nm : ByteArray) {j : Nat} {e : Ent} (hj : place nm es ≤ j) (he : es[j]? = some e) : Ord.lt e.1 nm = false := by
  have hlt : j < es.length := (List.getElem?_eq_some_iff.1 he).1
  have hp : es[place nm es]? = some es[place nm es] := List.getElem?_eq_getElem (by omega)
  have h0 := place_at nm es _ hp
  rcases Nat.lt_or_eq_of_le hj with hj | hj
  · have h1 := h.lt hj hp he
    by_cases k : Ord.lt e.1 nm = true
    · rw [lt_trans h1 k] at h0; cases h0
    · simpa using k
  · subst hj
    exact place_at nm es e he
/-- of that name only the one at the place can be -/
theorem Sorted.named {es : List Ent} (h : Sorted es) {j : Nat} {e : Ent} (he : es[j]? = some e) : place e.1 es = j :=
  place_unique e.1 es j (by have := (List.getElem?_eq_some_iff.1 he).1; omega) (fun i a hi ha => h.lt hi ha he) (fun a ha => by rw [he] at ha; cases ha; exact lt_irrefl _)
theorem has_iff {nm : ByteArray} {es : List Ent} : has nm es = true ↔ ∃ v, es[place nm es]? = some (nm, v) := by
  unfold has
  cases h : es[place nm es]? with
  | none => simp
  | some e =>
    obtain ⟨a, b⟩ := e
    simp
theorem Sorted.has_mem {es : List Ent} (h : Sorted es) (nm : ByteArray) : has nm es = true ↔ ∃ v, (nm, v) ∈ es := by
  rw [has_iff]
  constructor
  · rintro ⟨v, hv⟩; exact ⟨v, List.mem_of_getElem? hv⟩
  · rintro ⟨v, hv⟩
    obtain ⟨j, hj⟩ := List.mem_iff_getElem?.1 hv
    have := h.named hj
    exact ⟨v, by rw [this]; exact hj⟩
theorem has_lt {nm : ByteArray} {es : List Ent} (h : has nm es = true) : place nm es < es.length := by
  obtain ⟨v, hv⟩ := has_iff.1 h
  exact (List.getElem?_eq_some_iff.1 hv).1
theorem sorted_nil : Sorted [] := List.Pairwise.nil
theorem sorted_drop {nm : ByteArray} {es : List Ent} (h : Sorted es) : Sorted (drop nm es) := by
  unfold drop
  split
  · have hs : (es.take (place nm es) ++ es.drop (place nm es + 1)).Sublist (es.take (place nm es) ++ es.drop (place nm es)) := by
      refine List.Sublist.append (List.Sublist.refl _) ?_
      rw [show es.drop (place nm es + 1) = (es.drop (place nm es)).drop 1 by rw [List.drop_drop]]
      exact List.drop_sublist _ _
    rw [List.take_append_drop] at hs
    exact h.sublist hs
  · exact h
theorem sorted_iff {es : List Ent} : Sorted es ↔ (es.map (·.1)).Pairwise (fun a b => lt a b = true) := by
  unfold Sorted; rw [List.pairwise_map]
theorem sorted_put {nm : ByteArray} {v : Value} {es : List Ent} (h : Sorted es) : Sorted (put nm v es) := by
  unfold put
  split
  · rename_i hh
    obtain ⟨u, hu⟩ := has_iff.1 hh
    rw [sorted_iff] at h ⊢
    have e : (es.set (place nm es) (nm, v)).map (·.1) = es.map (·.1) := by
      refine List.ext_getElem? fun i => ?_
      rw [List.getElem?_map, List.getElem?_map, List.getElem?_set]
      split
      · rename_i hi
        subst hi
        rw [hu, if_pos (has_lt hh)]
        rfl
      · rfl
    rw [e]; exact h
  · rename_i hh
    have hd : ∀ e ∈ es.drop (place nm es), lt nm e.1 = true := fun e he => by
      obtain ⟨j, hj⟩ := List.mem_iff_getElem?.1 he
      rw [List.getElem?_drop] at hj
      have h1 := h.from nm (Nat.le_add_right _ _) hj
      rcases lt_tri nm e.1 with k | k | k
      · exact k
      · exact absurd ((h.has_mem nm).2 ⟨e.2, by rw [k]; exact List.mem_of_getElem? hj⟩) hh
      · rw [k] at h1; cases h1
    have ht : ∀ e ∈ es.take (place nm es), lt e.1 nm = true := fun e he => by
      obtain ⟨j, hj⟩ := List.mem_iff_getElem?.1 he
      rw [List.getElem?_take] at hj
      split at hj
      · exact place_lt nm es j e (by assumption) hj
      · cases hj
    refine List.pairwise_append.2 ⟨h.sublist (List.take_sublist _ _), List.pairwise_cons.2 ⟨hd, h.sublist (List.drop_sublist _ _)⟩, fun a ha b hb => ?_⟩
    rcases List.mem_cons.1 hb with rfl | hb
    · exact ht a ha
    · exact lt_trans (ht a ha) (hd b hb)
theorem put_length {nm : ByteArray} {v : Value} {es : List Ent} : (put nm v es).length = if has nm es then es.length else es.length + 1 := by
  unfold put
  have := place_le nm es
  split
  · simp
  · simp; omega
theorem drop_length {nm : ByteArray} {es : List Ent} : (drop nm es).length = if has nm es then es.length - 1 else es.length := by
  unfold drop
  split
  · rename_i hh
    have := has_lt hh
    simp; omega
  · rfl
theorem mem_put {nm : ByteArray} {v : Value} {es : List Ent} {e : Ent} (h : e ∈ put nm v es) : e = (nm, v) ∨ e ∈ es := by
  unfold put at h
  split at h
  · rcases List.mem_or_eq_of_mem_set h with h | h
    · exact .inr h
    · exact .inl h
  · rcases List.mem_append.1 h with h | h
    · exact .inr (List.mem_of_mem_take h)
    · rcases List.mem_cons.1 h with h | h
      · exact .inl h
      · exact .inr (List.mem_of_mem_drop h)
theorem mem_drop {nm : ByteArray} {es : List Ent} {e : Ent} (h : e ∈ drop nm es) : e ∈ es := by
  unfold drop at h
  split at h
  · rcases List.mem_append.1 h with h | h
    · exact List.mem_of_mem_take h
    · exact List.mem_of_mem_drop h
  · exact h
theorem Sorted.getAt {es : List Ent} (h : Sorted es) {j : Nat} {e : Ent} (he : es[j]? = some e) : es[place e.1 es]? = some (e.1, e.2) := by
  rw [h.named he, he]
/-- what is dropped is gone -/
theorem has_drop {nm : ByteArray} {es : List Ent} (h : Sorted es) : has nm (drop nm es) = false := by
  cases hh : has nm (drop nm es) with
  | false => rfl
  | true =>
    obtain ⟨v, hv⟩ := ((sorted_drop h).has_mem nm).1 hh
    have hm := mem_drop hv
    have hp : has nm es = true := (h.has_mem nm).2 ⟨v, hm⟩
    obtain ⟨j, hj⟩ := List.mem_iff_getElem?.1 hv
    unfold drop at hj
    rw [hp] at hj
    simp only [if_true] at hj
    have hlt := has_lt hp
    by_cases c : j < place nm es
    · rw [List.getElem?_append_left (by simp; omega), List.getElem?_take, if_pos c] at hj
      have : place nm es = j := h.named hj
      omega
    · rw [List.getElem?_append_right (by simp; omega), List.length_take, Nat.min_eq_left (by omega), List.getElem?_drop] at hj
      have : place nm es = place nm es + 1 + (j - place nm es) := h.named hj
      omega
/-- where one of the others stands behind a drop -/
theorem drop_at {nm : ByteArray} {es : List Ent} (h : Sorted es) {i : Nat} {e : Ent} (he : es[i]? = some e) (hne : e.1 ≠ nm) : (drop nm es)[if has nm es = true ∧ place nm es < i then i - 1 else i]? = some e := by
  have hlt := (List.getElem?_eq_some_iff.1 he).1
  cases hh : has nm es with
  | false =>
    unfold drop
    rw [hh]
    simpa using he
  | true =>
    have hpl := has_lt hh
    have hip : i ≠ place nm es := fun e' => by
      obtain ⟨v, hv⟩ := has_iff.1 hh
      rw [← e', he] at hv
      cases hv
      exact hne rfl
    unfold drop
    rw [hh]
    simp only [if_true, true_and]
    by_cases c : place nm es < i
    · rw [if_pos c, List.getElem?_append_right (by simp; omega), List.length_take, Nat.min_eq_left (by omega), List.getElem?_drop, show place nm es + 1 + (i - 1 - place nm es) = i by omega]
      exact he
    · rw [if_neg c, List.getElem?_append_left (by simp; omega), List.getElem?_take, if_pos (by omega)]
      exact he
end Go.Proofs.Ytefebimnebpodaa.Ord
