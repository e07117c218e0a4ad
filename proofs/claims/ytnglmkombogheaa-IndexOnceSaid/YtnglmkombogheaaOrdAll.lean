/-
  Names in order: strings held by their bytes, and a list of named things sorted by them. No program stands here.
  How an ord lies in memory, what may turn when it is called, and how a row of pointers is written. No program stands here.
  Copying into a row and writing cells of it, as steps of a walk; what lies in the row behind them. No program stands here.
  What putting one in and striking one make of an ord's memory. No program stands here.
  An ord whose blocks are told: all lie in O, and a call turns no other. So two ords of one kind may stand side by side. No program stands here.
-/
import Derived.Test.YtnglmkombogheaaGround
import Derived.Lib.Bytealg
import Derived.Lib.Strings
import Derived.Laws.CopyRow
import Derived.Laws.IdiomCopy
import Derived.Shelf.RegionOpenPlain
import Derived.WalkKit
import Derived.Test.YtnglmkombogheaaWays
namespace Go.Proofs.Ytnglmkombogheaa.Ord
open Go.RowKit Base

/-- less by bytes, on lists -/
def ltL : List UInt8 → List UInt8 → Bool := Op.bytesLess
theorem ltL_irrefl : ∀ a : List UInt8, ltL a a = false
  | [] => by simp [ltL, Op.bytesLess]
  | x :: a => by
    have := ltL_irrefl a
    unfold ltL at this ⊢
    simp [Op.bytesLess, this]
theorem ltL_cons (x y : UInt8) (a b : List UInt8) : ltL (x :: a) (y :: b) = (decide (x < y) || (x == y && ltL a b)) := by
  simp [ltL, Op.bytesLess]
theorem ltL_trans : ∀ a b c : List UInt8, ltL a b = true → ltL b c = true → ltL a c = true
  | a, [], _, h, _ => by cases a <;> simp [ltL, Op.bytesLess] at h
  | a, _ :: _, [], _, h => by simp [ltL, Op.bytesLess] at h
  | [], _ :: _, _ :: _, _, _ => by simp [ltL, Op.bytesLess]
  | x :: a, y :: b, z :: c, h, k => by
    rw [ltL_cons] at h k ⊢
    simp only [Bool.or_eq_true, decide_eq_true_eq, Bool.and_eq_true, beq_iff_eq] at h k ⊢
    rcases h with h | ⟨rfl, h⟩
    · rcases k with k | ⟨rfl, k⟩
      · exact .inl (UInt8.lt_trans h k)
      · exact .inl h
    · rcases k with k | ⟨rfl, k⟩
      · exact .inl k
      · exact .inr ⟨rfl, ltL_trans a b c h k⟩
theorem ltL_tri : ∀ a b : List UInt8, ltL a b = true ∨ a = b ∨ ltL b a = true
  | [], [] => .inr (.inl rfl)
  | [], _ :: _ => .inl (by simp [ltL, Op.bytesLess])
  | _ :: _, [] => .inr (.inr (by simp [ltL, Op.bytesLess]))
  | x :: a, y :: b => by
    rw [ltL_cons, ltL_cons]
    by_cases h : x < y
    · exact .inl (by simp [h])
    · by_cases k : y < x
      · exact .inr (.inr (by simp [k]))
      · have e : x = y := UInt8.le_antisymm (UInt8.not_lt.1 k) (UInt8.not_lt.1 h)
        subst e
        rcases ltL_tri a b with h1 | h1 | h1
        · exact .inl (by simp [h1])
        · exact .inr (.inl (by rw [h1]))
        · exact .inr (.inr (by simp [h1]))
theorem cmpL : ∀ a b : List UInt8, Lib.compareBytes a b = if ltL a b then -1 else if a = b then 0 else 1
  | [], [] => by simp [Lib.compareBytes, ltL, Op.bytesLess]
  | [], _ :: _ => by simp [Lib.compareBytes, ltL, Op.bytesLess]
  | _ :: _, [] => by simp [Lib.compareBytes, ltL, Op.bytesLess]
  | x :: a, y :: b => by
    rw [Lib.compareBytes, ltL_cons, cmpL a b]
    by_cases h : x < y
    · simp [h]
    · by_cases k : y < x
      · have hne : x ≠ y := fun e => by subst e; exact h k
        simp [h, k, hne]
      · have e : x = y := UInt8.le_antisymm (UInt8.not_lt.1 k) (UInt8.not_lt.1 h)
        subst e
        simp [h]

/-- less by bytes -/
def lt (a b : ByteArray) : Bool := ltL a.data.toList b.data.toList
theorem lt_raw (a b : ByteArray) : Op.bytesLess a.toList b.toList = lt a b := by rw [Lib.toList_data, Lib.toList_data]; rfl
theorem eq_raw (a b : ByteArray) : (a.toList == b.toList) = decide (a = b) := by
  rw [Lib.toList_data, Lib.toList_data]
  by_cases h : a = b
  · subst h; simp
  · have : a.data.toList ≠ b.data.toList := fun e => h (ByteArray.ext (Array.ext' e))
    rw [decide_eq_false h]
    exact beq_eq_false_iff_ne.2 this
theorem list_eq {a b : ByteArray} : a.data.toList = b.data.toList ↔ a = b := ⟨fun e => ByteArray.ext (Array.ext' e), fun e => by rw [e]⟩
theorem lt_irrefl (a : ByteArray) : lt a a = false := ltL_irrefl _
theorem lt_trans {a b c : ByteArray} (h : lt a b = true) (k : lt b c = true) : lt a c = true := ltL_trans _ _ _ h k
theorem lt_tri (a b : ByteArray) : lt a b = true ∨ a = b ∨ lt b a = true := by
  rcases ltL_tri a.data.toList b.data.toList with h | h | h
  · exact .inl h
  · exact .inr (.inl (list_eq.1 h))
  · exact .inr (.inr h)
theorem lt_ne {a b : ByteArray} (h : lt a b = true) : a ≠ b := fun e => by subst e; rw [lt_irrefl] at h; cases h
theorem lt_asymm {a b : ByteArray} (h : lt a b = true) : lt b a = false := by
  by_cases k : lt b a = true
  · have := lt_trans h k; rw [lt_irrefl] at this; cases this
  · simpa using k
/-- what strings.Compare says -/
def cmp (a b : ByteArray) : Int := Lib.compareBytes a.data.toList b.data.toList
theorem cmp_neg (a b : ByteArray) : decide (cmp a b < 0) = lt a b := by
  unfold cmp lt
  rw [cmpL]
  by_cases h : ltL a.data.toList b.data.toList = true
  · simp [h]
  · by_cases k : a.data.toList = b.data.toList
    · simp [k, ltL_irrefl]
    · simp [h, k]
theorem cmp_zero (a b : ByteArray) : decide (cmp a b = 0) = decide (a = b) := by
  unfold cmp
  rw [cmpL]
  by_cases h : ltL a.data.toList b.data.toList = true
  · have : a ≠ b := lt_ne (a := a) (b := b) h
    simp [h, this]
  · by_cases k : a.data.toList = b.data.toList
    · have := list_eq.1 k
      subst this
      simp [ltL_irrefl]
    · have : a ≠ b := fun e => k (by rw [e])
      simp [h, k, this]
theorem cmp_range (a b : ByteArray) : -1 ≤ cmp a b ∧ cmp a b ≤ 1 := by
  unfold cmp
  rw [cmpL]
  split
  · decide
  · split <;> decide

/-- a name and a thing -/
abbrev Ent := ByteArray × Value
/-- how many stand ahead of the first that is not less -/
def place (nm : ByteArray) : List Ent → Nat
  | [] => 0
  | e :: es => if lt e.1 nm then place nm es + 1 else 0
def Sorted (es : List Ent) : Prop := es.Pairwise fun a b => lt a.1 b.1 = true
/-- the one at the place is of that name -/
def has (nm : ByteArray) (es : List Ent) : Bool := match es[place nm es]? with
  | some e => decide (e.1 = nm)
  | none => false
def put (nm : ByteArray) (v : Value) (es : List Ent) : List Ent := if has nm es then es.set (place nm es) (nm, v) else es.take (place nm es) ++ (nm, v) :: es.drop (place nm es)
def drop (nm : ByteArray) (es : List Ent) : List Ent := if has nm es then es.take (place nm es) ++ es.drop (place nm es + 1) else es

theorem place_le (nm : ByteArray) : ∀ es, place nm es ≤ es.length
  | [] => Nat.le_refl _
  | e :: es => by
    unfold place
    split
    · simpa using place_le nm es
    · exact Nat.zero_le _
theorem place_lt (nm : ByteArray) : ∀ (es : List Ent) (j : Nat) (e : Ent), j < place nm es → es[j]? = some e → lt e.1 nm = true
  | [], j, e, h, _ => by simp [place] at h
  | x :: es, j, e, h, k => by
    unfold place at h
    split at h
    · rename_i hx
      cases j with
      | zero => simp at k; subst k; exact hx
      | succ j => exact place_lt nm es j e (by omega) (by simpa using k)
    · exact absurd h (Nat.not_lt_zero _)
theorem place_at (nm : ByteArray) : ∀ (es : List Ent) (e : Ent), es[place nm es]? = some e → lt e.1 nm = false
  | [], e, h => by simp at h
  | x :: es, e, h => by
    unfold place at h
    split at h
    · exact place_at nm es e (by simpa using h)
    · rename_i hx
      simp at h
      subst h
      simpa using hx
theorem place_unique (nm : ByteArray) : ∀ (es : List Ent) (k : Nat), k ≤ es.length → (∀ j e, j < k → es[j]? = some e → lt e.1 nm = true) → (∀ e, es[k]? = some e → lt e.1 nm = false) → place nm es = k
  | [], k, h, _, _ => by simp at h; subst h; rfl
  | x :: es, 0, _, _, h => by
    have := h x (by simp)
    unfold place
    simp [this]
  | x :: es, k + 1, hk, h, h' => by
    have := h 0 x (by omega) (by simp)
    unfold place
    rw [if_pos this, place_unique nm es k (by simpa using hk) (fun j e hj he => h (j + 1) e (by omega) (by simpa using he)) (fun e he => h' e (by simpa using he))]
theorem Sorted.lt {es : List Ent} (h : Sorted es) {i j : Nat} {a b : Ent} (hij : i < j) (ha : es[i]? = some a) (hb : es[j]? = some b) : lt a.1 b.1 = true := by
  obtain ⟨hi, rfl⟩ := List.getElem?_eq_some_iff.1 ha
  obtain ⟨hj, rfl⟩ := List.getElem?_eq_some_iff.1 hb
  exact List.pairwise_iff_getElem.1 h i j hi hj hij
/-- from the place on none is less -/
theorem Sorted.from {es : List Ent} (h : Sorted es) (nm : ByteArray) {j : Nat} {e : Ent} (hj : place nm es ≤ j) (he : es[j]? = some e) : Ord.lt e.1 nm = false := by
  have hlt : j < es.length := (List.getElem?_eq_some_iff.1 he).1
  have hp : es[place nm es]? = some es[place nm es] := List.getElem?_eq_getElem (by omega)
  have h0 := place_at nm es _ hp
  rcases Nat.lt_or_eq_of_le hj with hj | hj
  · have h1 := h.lt hj hp he
    by_cases k : Ord.lt e.1 nm = true
    · rw [lt_trans h1 k] at h0; cases h0
    · simpa using k
  · subst hj
    exact place_at nm es e he
/-- of that name only the one at the place can be -/
theorem Sorted.named {es : List Ent} (h : Sorted es) {j : Nat} {e : Ent} (he : es[j]? = some e) : place e.1 es = j :=
  place_unique e.1 es j (by have := (List.getElem?_eq_some_iff.1 he).1; omega) (fun i a hi ha => h.lt hi ha he) (fun a ha => by rw [he] at ha; cases ha; exact lt_irrefl _)
theorem has_iff {nm : ByteArray} {es : List Ent} : has nm es = true ↔ ∃ v, es[place nm es]? = some (nm, v) := by
  unfold has
  cases h : es[place nm es]? with
  | none => simp
  | some e =>
    obtain ⟨a, b⟩ := e
    simp
theorem Sorted.has_mem {es : List Ent} (h : Sorted es) (nm : ByteArray) : has nm es = true ↔ ∃ v, (nm, v) ∈ es := by
  rw [has_iff]
  constructor
  · rintro ⟨v, hv⟩; exact ⟨v, List.mem_of_getElem? hv⟩
  · rintro ⟨v, hv⟩
    obtain ⟨j, hj⟩ := List.mem_iff_getElem?.1 hv
    have := h.named hj
    exact ⟨v, by rw [this]; exact hj⟩
theorem has_lt {nm : ByteArray} {es : List Ent} (h : has nm es = true) : place nm es < es.length := by
  obtain ⟨v, hv⟩ := has_iff.1 h
  exact (List.getElem?_eq_some_iff.1 hv).1
theorem sorted_nil : Sorted [] := List.Pairwise.nil
theorem sorted_drop {nm : ByteArray} {es : List Ent} (h : Sorted es) : Sorted (drop nm es) := by
  unfold drop
  split
  · have hs : (es.take (place nm es) ++ es.drop (place nm es + 1)).Sublist (es.take (place nm es) ++ es.drop (place nm es)) := by
      refine List.Sublist.append (List.Sublist.refl _) ?_
      rw [show es.drop (place nm es + 1) = (es.drop (place nm es)).drop 1 by rw [List.drop_drop]]
      exact List.drop_sublist _ _
    rw [List.take_append_drop] at hs
    exact h.sublist hs
  · exact h
theorem sorted_iff {es : List Ent} : Sorted es ↔ (es.map (·.1)).Pairwise (fun a b => lt a b = true) := by
  unfold Sorted; rw [List.pairwise_map]
theorem sorted_put {nm : ByteArray} {v : Value} {es : List Ent} (h : Sorted es) : Sorted (put nm v es) := by
  unfold put
  split
  · rename_i hh
    obtain ⟨u, hu⟩ := has_iff.1 hh
    rw [sorted_iff] at h ⊢
    have e : (es.set (place nm es) (nm, v)).map (·.1) = es.map (·.1) := by
      refine List.ext_getElem? fun i => ?_
      rw [List.getElem?_map, List.getElem?_map, List.getElem?_set]
      split
      · rename_i hi
        subst hi
        rw [hu, if_pos (has_lt hh)]
        rfl
      · rfl
    rw [e]; exact h
  · rename_i hh
    have hd : ∀ e ∈ es.drop (place nm es), lt nm e.1 = true := fun e he => by
      obtain ⟨j, hj⟩ := List.mem_iff_getElem?.1 he
      rw [List.getElem?_drop] at hj
      have h1 := h.from nm (Nat.le_add_right _ _) hj
      rcases lt_tri nm e.1 with k | k | k
      · exact k
      · exact absurd ((h.has_mem nm).2 ⟨e.2, by rw [k]; exact List.mem_of_getElem? hj⟩) hh
      · rw [k] at h1; cases h1
    have ht : ∀ e ∈ es.take (place nm es), lt e.1 nm = true := fun e he => by
      obtain ⟨j, hj⟩ := List.mem_iff_getElem?.1 he
      rw [List.getElem?_take] at hj
      split at hj
      · exact place_lt nm es j e (by assumption) hj
      · cases hj
    refine List.pairwise_append.2 ⟨h.sublist (List.take_sublist _ _), List.pairwise_cons.2 ⟨hd, h.sublist (List.drop_sublist _ _)⟩, fun a ha b hb => ?_⟩
    rcases List.mem_cons.1 hb with rfl | hb
    · exact ht a ha
    · exact lt_trans (ht a ha) (hd b hb)
theorem put_length {nm : ByteArray} {v : Value} {es : List Ent} : (put nm v es).length = if has nm es then es.length else es.length + 1 := by
  unfold put
  have := place_le nm es
  split
  · simp
  · simp; omega
theorem drop_length {nm : ByteArray} {es : List Ent} : (drop nm es).length = if has nm es then es.length - 1 else es.length := by
  unfold drop
  split
  · rename_i hh
    have := has_lt hh
    simp; omega
  · rfl
theorem mem_put {nm : ByteArray} {v : Value} {es : List Ent} {e : Ent} (h : e ∈ put nm v es) : e = (nm, v) ∨ e ∈ es := by
  unfold put at h
  split at h
  · rcases List.mem_or_eq_of_mem_set h with h | h
    · exact .inr h
    · exact .inl h
  · rcases List.mem_append.1 h with h | h
    · exact .inr (List.mem_of_mem_take h)
    · rcases List.mem_cons.1 h with h | h
      · exact .inl h
      · exact .inr (List.mem_of_mem_drop h)
theorem mem_drop {nm : ByteArray} {es : List Ent} {e : Ent} (h : e ∈ drop nm es) : e ∈ es := by
  unfold drop at h
  split at h
  · rcases List.mem_append.1 h with h | h
    · exact List.mem_of_mem_take h
    · exact List.mem_of_mem_drop h
  · exact h
theorem Sorted.getAt {es : List Ent} (h : Sorted es) {j : Nat} {e : Ent} (he : es[j]? = some e) : es[place e.1 es]? = some (e.1, e.2) := by
  rw [h.named he, he]
/-- what is dropped is gone -/
theorem has_drop {nm : ByteArray} {es : List Ent} (h : Sorted es) : has nm (drop nm es) = false := by
  cases hh : has nm (drop nm es) with
  | false => rfl
  | true =>
    obtain ⟨v, hv⟩ := ((sorted_drop h).has_mem nm).1 hh
    have hm := mem_drop hv
    have hp : has nm es = true := (h.has_mem nm).2 ⟨v, hm⟩
    obtain ⟨j, hj⟩ := List.mem_iff_getElem?.1 hv
    unfold drop at hj
    rw [hp] at hj
    simp only [if_true] at hj
    have hlt := has_lt hp
    by_cases c : j < place nm es
    · rw [List.getElem?_append_left (by simp; omega), List.getElem?_take, if_pos c] at hj
      have : place nm es = j := h.named hj
      omega
    · rw [List.getElem?_append_right (by simp; omega), List.length_take, Nat.min_eq_left (by omega), List.getElem?_drop] at hj
      have : place nm es = place nm es + 1 + (j - place nm es) := h.named hj
      omega
/-- where one of the others stands behind a drop -/
theorem drop_at {nm : ByteArray} {es : List Ent} (h : Sorted es) {i : Nat} {e : Ent} (he : es[i]? = some e) (hne : e.1 ≠ nm) : (drop nm es)[if has nm es = true ∧ place nm es < i then i - 1 else i]? = some e := by
  have hlt := (List.getElem?_eq_some_iff.1 he).1
  cases hh : has nm es with
  | false =>
    unfold drop
    rw [hh]
    simpa using he
  | true =>
    have hpl := has_lt hh
    have hip : i ≠ place nm es := fun e' => by
      obtain ⟨v, hv⟩ := has_iff.1 hh
      rw [← e', he] at hv
      cases hv
      exact hne rfl
    unfold drop
    rw [hh]
    simp only [if_true, true_and]
    by_cases c : place nm es < i
    · rw [if_pos c, List.getElem?_append_right (by simp; omega), List.length_take, Nat.min_eq_left (by omega), List.getElem?_drop, show place nm es + 1 + (i - 1 - place nm es) = i by omega]
      exact he
    · rw [if_neg c, List.getElem?_append_left (by simp; omega), List.getElem?_take, if_pos (by omega)]
      exact he
end Go.Proofs.Ytnglmkombogheaa.Ord
namespace Go.Proofs.Ytnglmkombogheaa.Ord
open Go.RowKit Base

def ptr (p : Nat) : Value := .pointer (some ⟨p, 0, none⟩)
theorem ptr_one (ps : List Nat) : ∀ v ∈ ps.map ptr, v.oneCell' = true := fun v hv => by
  obtain ⟨p, _, rfl⟩ := List.mem_map.1 hv
  rfl
/-- each of es lies in a block of its own: a name, a thing -/
def Lie (w : World) (N : TypeId) : List Nat → List Ent → Prop
  | [], [] => True
  | p :: ps, e :: es => w.heap[p]? = some (.cells #[.string e.1, e.2] N (0, 0)) ∧ Lie w N ps es
  | _, _ => False
theorem Lie.length {w : World} {N : TypeId} : ∀ {ps : List Nat} {es : List Ent}, Lie w N ps es → ps.length = es.length
  | [], [], _ => rfl
  | _ :: ps, _ :: es, h => by simp [Lie.length (ps := ps) (es := es) h.2]
  | [], _ :: _, h => h.elim
  | _ :: _, [], h => h.elim
theorem Lie.get {w : World} {N : TypeId} : ∀ {ps : List Nat} {es : List Ent}, Lie w N ps es → ∀ (i p : Nat) (e : Ent), ps[i]? = some p → es[i]? = some e → w.heap[p]? = some (.cells #[.string e.1, e.2] N (0, 0))
  | [], [], _, _, _, _, h, _ => by simp at h
  | _ :: ps, _ :: es, h, 0, p, e, hp, he => by simp at hp he; subst hp he; exact h.1
  | _ :: ps, _ :: es, h, i + 1, p, e, hp, he => Lie.get (ps := ps) (es := es) h.2 i p e (by simpa using hp) (by simpa using he)
  | [], _ :: _, h, _, _, _, _, _ => h.elim
  | _ :: _, [], h, _, _, _, _, _ => h.elim
theorem Lie.of {w : World} {N : TypeId} : ∀ {ps : List Nat} {es : List Ent}, ps.length = es.length → (∀ (i p : Nat) (e : Ent), ps[i]? = some p → es[i]? = some e → w.heap[p]? = some (.cells #[.string e.1, e.2] N (0, 0))) → Lie w N ps es
  | [], [], _, _ => trivial
  | p :: ps, e :: es, hl, h => ⟨h 0 p e (by simp) (by simp), Lie.of (ps := ps) (es := es) (by simpa using hl) (fun i q x hq hx => h (i + 1) q x (by simpa using hq) (by simpa using hx))⟩
  | [], _ :: _, hl, _ => by simp at hl
  | _ :: _, [], hl, _ => by simp at hl
theorem Lie.mem {w : World} {N : TypeId} {ps : List Nat} {es : List Ent} (h : Lie w N ps es) {p : Nat} (hp : p ∈ ps) : ∃ cs, w.heap[p]? = some (.cells cs N (0, 0)) := by
  obtain ⟨i, hi⟩ := List.mem_iff_getElem?.1 hp
  have hlt := (List.getElem?_eq_some_iff.1 hi).1
  exact ⟨_, h.get i p _ hi (List.getElem?_eq_getElem (by rw [← h.length]; exact hlt))⟩
theorem Lie.fr {S : Nat → Prop} {w w' : World} {N : TypeId} {ps : List Nat} {es : List Ent} (hf : Fr S w w') (hs : ∀ p ∈ ps, ¬ S p) (h : Lie w N ps es) : Lie w' N ps es :=
  Lie.of h.length fun i p e hp he => hf.heap (h.get i p e hp he) (hs p (List.mem_of_getElem? hp))

/-- the blocks of an ord's three kinds that were made since B -/
def Mine (w : World) (B : Nat) (T E N : TypeId) (k : Nat) : Prop := B ≤ k ∧ ∃ cs t fr, w.heap[k]? = some (.cells cs t fr) ∧ (t = T ∨ t = E ∨ t = N)
/-- only such have turned -/
abbrev FrO (B : Nat) (T E N : TypeId) (w w' : World) : Prop := Fr (Mine w B T E N) w w'
theorem FrO.trans {B : Nat} {T E N : TypeId} {a b c : World} (h : FrO B T E N a b) (k : FrO B T E N b c) : FrO B T E N a c :=
  Fr.trans h k fun i hi ⟨hB, cs, t, fr, hx, ht⟩ => by
    by_cases hm : Mine a B T E N i
    · exact hm
    · rw [h.block i hi hm] at hx
      exact ⟨hB, cs, t, fr, hx, ht⟩
theorem FrO.of0 {B : Nat} {T E N : TypeId} {a b : World} (h : Fr0 a b) : FrO B T E N a b := h.mono fun _ _ f => f.elim
theorem FrO.fr0 {B : Nat} {T E N : TypeId} {w0 a b : World} (h : Fr0 w0 a) (k : FrO B T E N a b) (hB : w0.heap.size ≤ B) : Fr0 w0 b := Fr.trans h k fun i hi ⟨hb, _⟩ => by omega
/-- a block of another kind stands -/
theorem FrO.cells {B : Nat} {T E N : TypeId} {a b : World} (h : FrO B T E N a b) {g : Nat} {cs : Array Value} {t : TypeId} {fr : Nat × Nat} (hg : a.heap[g]? = some (.cells cs t fr)) (ht : t ≠ T ∧ t ≠ E ∧ t ≠ N) : b.heap[g]? = some (.cells cs t fr) :=
  Fr.heap h hg fun ⟨_, cs', t', fr', hx, hk⟩ => by
    rw [hg] at hx
    cases hx
    rcases hk with rfl | rfl | rfl
    · exact ht.1 rfl
    · exact ht.2.1 rfl
    · exact ht.2.2 rfl
theorem FrO.owns {B : Nat} {T E N : TypeId} {a b : World} (h : FrO B T E N a b) {base : Nat} {e : TypeId} {size : Nat} {v : Value} {n : Nat} {xs : List Value} (ho : a.ownsRow base e size v n xs) (ht : e ≠ T ∧ e ≠ E ∧ e ≠ N) : b.ownsRow base e size v n xs := by
  refine ⟨ho.1, ?_⟩
  rcases ho.2 with hn | ⟨g, cap, cur, rfl, hb, hgg, rest⟩
  · exact .inl hn
  · exact .inr ⟨g, cap, cur, rfl, hb, FrO.cells h hgg ht, rest⟩
theorem owns_fr {S : Nat → Prop} {a b : World} (h : Fr S a b) {base : Nat} {e : TypeId} {size : Nat} {v : Value} {n : Nat} {xs : List Value} (ho : a.ownsRow base e size v n xs) (hs : ∀ g, v.ownBlock = some g → ¬ S g) : b.ownsRow base e size v n xs := by
  refine ⟨ho.1, ?_⟩
  rcases ho.2 with hn | ⟨g, cap, cur, rfl, hb, hgg, rest⟩
  · exact .inl hn
  · exact .inr ⟨g, cap, cur, rfl, hb, h.heap hgg (hs g rfl), rest⟩
theorem owns_heap {w : World} {base : Nat} {e : TypeId} {size : Nat} {v : Value} {n : Nat} {xs : List Value} (ho : w.ownsRow base e size v n xs) {g : Nat} (hg : v.ownBlock = some g) : base ≤ g ∧ ∃ cs, w.heap[g]? = some (.cells cs e (0, 0)) := by
  rcases ho.2 with ⟨rfl, _⟩ | ⟨q, cap, cur, rfl, hb, hgg, rest⟩
  · cases hg
  · cases hg
    exact ⟨hb, cur, hgg⟩

/-- an ord's object lies at g -/
structure OrdAt (w : World) (B : Nat) (T E N : TypeId) (g : Nat) (most : Nat) (es : List Ent) : Prop where
  hB : B ≤ g
  hsz : B ≤ w.heap.size
  row : ∃ v ps, w.heap[g]? = some (.cells #[.int .i64 (most : Int), v] T (0, 0)) ∧ w.ownsRow B E 1 v es.length (ps.map ptr) ∧ Lie w N ps es ∧ ∀ p ∈ ps, B ≤ p
  srt : Sorted es
  le : es.length ≤ most
  big : most ≤ 4096
theorem OrdAt.fr {S : Nat → Prop} {w w' : World} {B : Nat} {T E N : TypeId} {g most : Nat} {es : List Ent} (h : OrdAt w B T E N g most es) (hf : Fr S w w') (hS : ∀ k, Mine w B T E N k → ¬ S k) : OrdAt w' B T E N g most es := by
  obtain ⟨v, ps, h1, h2, h3, h4⟩ := h.row
  refine ⟨h.hB, Nat.le_trans h.hsz hf.size, ⟨v, ps, hf.heap h1 (hS g ⟨h.hB, _, _, _, h1, .inl rfl⟩), owns_fr hf h2 (fun q hq => ?_), h3.fr hf (fun p hp => ?_), h4⟩, h.srt, h.le, h.big⟩
  · obtain ⟨hb, cs, hc⟩ := owns_heap h2 hq
    exact hS q ⟨hb, _, _, _, hc, .inr (.inl rfl)⟩
  · obtain ⟨cs, hc⟩ := h3.mem hp
    exact hS p ⟨h4 p hp, _, _, _, hc, .inr (.inr rfl)⟩
theorem OrdAt.fr0 {w w' : World} {B : Nat} {T E N : TypeId} {g most : Nat} {es : List Ent} (h : OrdAt w B T E N g most es) (hf : Fr0 w w') : OrdAt w' B T E N g most es := h.fr hf fun _ _ f => f

/-- most, held to its bounds -/
def held (m : Int) : Nat := (min (max m 1) 4096).toNat
theorem held_int (m : Int) : ((held m : Nat) : Int) = min (max m 1) 4096 := by unfold held; omega
theorem held_le (m : Int) : held m ≤ 4096 := by unfold held; omega
theorem held_pos (m : Int) : 1 ≤ held m := by unfold held; omega
theorem ord_new (w : World) (B : Nat) (T E N : TypeId) (m : Nat) (hm : m ≤ 4096) (hB : B ≤ w.heap.size) : OrdAt (w.alloc (.cells #[.int .i64 (m : Int), .slice none 0 0] T)) B T E N w.heap.size m [] :=
  ⟨hB, Nat.le_trans hB (by simp), ⟨_, [], heap_alloc_new w _, World.ownsRow_nil _ _ _ _, trivial, fun _ h => by cases h⟩, sorted_nil, Nat.zero_le _, hm⟩
theorem OrdAt.parts {w : World} {B : Nat} {T E N : TypeId} {g most : Nat} {es : List Ent} (h : OrdAt w B T E N g most es) : ∃ A C ps, w.heap[g]? = some (.cells #[.int .i64 (most : Int), .slice A es.length C] T (0, 0)) ∧ w.ownsRow B E 1 (.slice A es.length C) es.length (ps.map ptr) ∧ Lie w N ps es ∧ (∀ p ∈ ps, B ≤ p) ∧ ps.length = es.length ∧
    (∀ i p : Nat, ps[i]? = some p → ∃ b, A = some ⟨b, 0, none⟩ ∧ w.cell? ⟨b, i, none⟩ = some (ptr p)) := by
  obtain ⟨v, ps, h1, h2, h3, h4⟩ := h.row
  have hl := h3.length
  rcases h2.2 with ⟨rfl, h0⟩ | ⟨b, cap, cur, rfl, hb, hg, hc, hm, hcs, hcur⟩
  · refine ⟨none, 0, ps, by rw [h0]; exact h1, by rw [h0] at h2 ⊢; exact h2, h3, h4, hl, fun i p hp => ?_⟩
    have := (List.getElem?_eq_some_iff.1 hp).1
    omega
  · refine ⟨_, cap, ps, h1, h2, h3, h4, hl, fun i p hp => ⟨b, rfl, ?_⟩⟩
    rw [cell_of_row _ _ _ _ _ _ hg]
    have := congrArg (fun l => l[i]?) hcur
    simp only [List.getElem?_map, hp, List.getElem?_take] at this
    split at this
    · simpa using this
    · simp at this
/-- one cell of a block is written -/
theorem heap_setCell {w : World} {g i : Nat} {cs : Array Value} {t : TypeId} {fr : Nat × Nat} (hg : w.heap[g]? = some (.cells cs t fr)) (u : Value) : (w.setCell ⟨g, i, none⟩ u).heap[g]? = some (.cells (cs.setIfInBounds i u) t fr) := by
  rw [setCell_eq_setRow w g i cs t fr u hg]
  exact setRow_heap w g cs _ t fr hg
theorem ins_at {l : List Nat} {q i : Nat} (hi : i ≤ l.length) (j : Nat) : (l.take i ++ q :: l.drop i)[j]? = if j < i then l[j]? else if j = i then some q else l[j - 1]? := by
  by_cases h : j < i
  · rw [if_pos h, List.getElem?_append_left (by simp; omega), List.getElem?_take, if_pos h]
  · rw [if_neg h, List.getElem?_append_right (by simp; omega), List.length_take, Nat.min_eq_left hi]
    by_cases k : j = i
    · subst k; simp
    · rw [if_neg k, show j - i = (j - i - 1) + 1 by omega, List.getElem?_cons_succ, List.getElem?_drop]
      congr 1
      omega
end Go.Proofs.Ytnglmkombogheaa.Ord
namespace Go.Proofs.Ytnglmkombogheaa.Ord
open Go.RowKit Base
variable {P : Program}

theorem wpList_copy_at {w : World} {ops : Array Oper} {rest : List Oper} {o : Oper} {a : Act} {Q : Exit → Act → World → Prop} (hgd : o.guard = none) (x y : Operand) (t t' : TypeId)
    (ho : o.op = .call { callee := .builtin .copy, args := #[x, y], argTypes := #[t, t'] }) (u v : Value) (hx : a.eval x = u) (hy : a.eval y = v) {r : Value} {w' : World}
    (hr : (Builtin.copy_ #[t, t'] o.type #[u, v]).run P w = .ok r w') (h : wpList P ops Q rest (a.put o.dst r) w') : wpList P ops Q (o :: rest) a w :=
  wpList_plain hgd fun K hK => by
    unfold Oper.wp execOp
    simp only [ho, resolve, invoke, builtin, Sem.run_bind, Sem.run_pure, Result.andThen_ok, List.map_toArray, List.map_cons, List.map_nil, hx, hy, hr]
    exact hK _ _ h
theorem wpList_append_at {w : World} {ops : Array Oper} {rest : List Oper} {o : Oper} {a : Act} {Q : Exit → Act → World → Prop} (hgd : o.guard = none) (x y : Operand) (t t' : TypeId)
    (ho : o.op = .call { callee := .builtin .append, args := #[x, y], argTypes := #[t, t'] }) (u v : Value) (hx : a.eval x = u) (hy : a.eval y = v) {r : Value} {w' : World}
    (hr : (Builtin.append_ #[t, t'] o.type #[u, v]).run P w = .ok r w') (h : wpList P ops Q rest (a.put o.dst r) w') : wpList P ops Q (o :: rest) a w :=
  wpList_plain hgd fun K hK => by
    unfold Oper.wp execOp
    simp only [ho, resolve, invoke, builtin, Sem.run_bind, Sem.run_pure, Result.andThen_ok, List.map_toArray, List.map_cons, List.map_nil, hx, hy, hr]
    exact hK _ _ h
theorem step_copy_at {ops : Array Oper} {o : Oper} {a : Act} {w : World} {K : Act → World → Prop} {Q : Exit → Act → World → Prop} {E : Prop} (hgd : o.guard = none) (x y : Operand) (t t' : TypeId)
    (ho : o.op = .call { callee := .builtin .copy, args := #[x, y], argTypes := #[t, t'] }) (u v : Value) (hx : a.eval x = u) (hy : a.eval y = v) {r : Value} {w' : World}
    (hr : (Builtin.copy_ #[t, t'] o.type #[u, v]).run P w = .ok r w') (h : K (a.put o.dst r) w') : if Region.wanted o (yielded ops a.tmps) = true then Oper.wp P o a w K Q else E := by
  rw [if_pos (by simp [Region.wanted, hgd])]
  unfold Oper.wp
  simp [execOp, ho, resolve, invoke, builtin, hx, hy, hr, Result.andThen]
  exact h

theorem setCells_at {g : Nat} {t : TypeId} : ∀ (vs : List Value) (o : Nat) (w : World) (cs : Array Value), w.heap[g]? = some (.cells cs t (0, 0)) → o + vs.length ≤ cs.size →
    ∃ cs', (w.setCells g o vs).heap[g]? = some (.cells cs' t (0, 0)) ∧ cs'.size = cs.size ∧ ∀ j, cs'[j]? = if o ≤ j ∧ j < o + vs.length then vs[j - o]? else cs[j]?
  | [], o, w, cs, hg, _ => ⟨cs, hg, rfl, fun j => by rw [if_neg (by simp only [List.length_nil]; omega)]⟩
  | v :: r, o, w, cs, hg, hl => by
    simp only [List.length_cons] at hl
    obtain ⟨cs', h1, h2, h3⟩ := setCells_at r (o + 1) (w.setCell ⟨g, o, none⟩ v) _ (heap_setCell hg v) (by simp; omega)
    refine ⟨cs', h1, by simpa using h2, fun j => ?_⟩
    rw [h3 j]
    simp only [List.length_cons]
    by_cases h : o = j
    · subst h
      rw [if_neg (by omega), if_pos (by omega), Array.getElem?_setIfInBounds_self_of_lt (by omega)]
      simp
    · rw [Array.getElem?_setIfInBounds_ne h]
      by_cases k : o + 1 ≤ j ∧ j < o + 1 + r.length
      · rw [if_pos k, if_pos (by omega), show j - o = (j - (o + 1)) + 1 by omega, List.getElem?_cons_succ]
      · rw [if_neg k, if_neg (by omega)]
theorem fr_setCells {S : Nat → Prop} {w0 : World} {g : Nat} (hp : g < w0.heap.size → S g) : ∀ (vs : List Value) (o : Nat) (w : World), Fr S w0 w → Fr S w0 (w.setCells g o vs)
  | [], _, _, h => h
  | v :: r, o, w, h => fr_setCells hp r (o + 1) _ (h.setCell (p := ⟨g, o, none⟩) hp v)
/-- a part of a row is written over -/
theorem splice_at (cs : Array Value) (o : Nat) (vs : List Value) (h : o + vs.length ≤ cs.size) (j : Nat) : ((cs.toList.take o ++ vs ++ cs.toList.drop (o + vs.length)).toArray)[j]? = if o ≤ j ∧ j < o + vs.length then vs[j - o]? else cs[j]? := by
  have := splice_get cs.toList vs o j (by simpa using h)
  simpa using this
theorem splice_size (cs : Array Value) (o : Nat) (vs : List Value) (h : o + vs.length ≤ cs.size) : ((cs.toList.take o ++ vs ++ cs.toList.drop (o + vs.length)).toArray).size = cs.size := by
  simp; omega
theorem cur_get {cur : Array Value} {n : Nat} {ps : List Nat} (h : cur.toList.take (n * 1) = ps.map ptr) {j p : Nat} (hj : ps[j]? = some p) : cur[j]? = some (ptr p) := by
  have := congrArg (fun l => l[j]?) h
  simp only [List.getElem?_map, hj, List.getElem?_take] at this
  split at this
  · simpa using this
  · simp at this
theorem owns_of {w : World} {base : Nat} {e : TypeId} {g cap n : Nat} {cur : Array Value} {ps : List Nat} (hb : base ≤ g) (hg : w.heap[g]? = some (.cells cur e (0, 0))) (hn : n = ps.length) (hc : n ≤ cap) (hm : cap ≤ maxLen) (hs : cur.size = cap)
    (h : ∀ (j p : Nat), ps[j]? = some p → cur[j]? = some (ptr p)) : w.ownsRow base e 1 (.slice (some ⟨g, 0, none⟩) n cap) n (ps.map ptr) := by
  subst hn
  refine ⟨by simp, .inr ⟨g, cap, cur, rfl, hb, hg, hc, hm, by omega, ?_⟩⟩
  refine List.ext_getElem? fun j => ?_
  rw [List.getElem?_take, List.getElem?_map]
  by_cases hj : j < ps.length
  · rw [if_pos (by omega), Array.getElem?_toList, h j _ (List.getElem?_eq_getElem hj), List.getElem?_eq_getElem hj]
    rfl
  · rw [if_neg (by omega), List.getElem?_eq_none (by omega)]
    rfl
/-- a row of pointers, to be read -/
def PtrsAre (w : World) (v : Value) (ps : List Nat) : Prop := ∃ A C, v = .slice A ps.length C ∧ (0 < ps.length → ∃ b, A = some ⟨b, 0, none⟩ ∧ ps.length ≤ C ∧ ∀ j p, ps[j]? = some p → w.cell? ⟨b, j, none⟩ = some (ptr p))
theorem PtrsAre.of {w : World} {base : Nat} {e : TypeId} {v : Value} {ps : List Nat} {n : Nat} (h : w.ownsRow base e 1 v n (ps.map ptr)) : PtrsAre w v ps := by
  have hl := h.1
  rw [List.length_map, Nat.mul_one] at hl
  subst hl
  rcases h.2 with ⟨rfl, h0⟩ | ⟨g, cap, cur, rfl, hb, hg, hc, _, hcs, hcur⟩
  · exact ⟨none, 0, by rw [h0], fun h => by omega⟩
  · refine ⟨_, cap, rfl, fun _ => ⟨g, rfl, hc, fun j p hj => ?_⟩⟩
    rw [cell_of_row _ _ _ _ _ _ hg]
    have hlt := (List.getElem?_eq_some_iff.1 hj).1
    have : (cur.toList.take (ps.length * 1))[j]? = some (ptr p) := by rw [hcur, List.getElem?_map, hj]; rfl
    rw [List.getElem?_take, if_pos (by omega), Array.getElem?_toList] at this
    exact this
end Go.Proofs.Ytnglmkombogheaa.Ord
namespace Go.Proofs.Ytnglmkombogheaa.Ord
open Go.RowKit Base
variable {T E N : TypeId}

/-- the row's own form -/
theorem owns_slice {w : World} {base : Nat} {e : TypeId} {size : Nat} {v : Value} {n : Nat} {xs : List Value} (h : w.ownsRow base e size v n xs) : ∃ A C, v = .slice A n C := by
  rcases h.2 with ⟨rfl, h0⟩ | ⟨g, cap, cur, rfl, _⟩
  · exact ⟨none, 0, by rw [h0]⟩
  · exact ⟨_, _, rfl⟩
/-- the object's row is another now -/
theorem ord_row (hTE : T ≠ E) (hTN : T ≠ N) {w w4 : World} {B g most : Nat} {v v' : Value} {es : List Ent} {ps' : List Nat} {es' : List Ent} (h : OrdAt w B T E N g most es) (hsz : w.heap.size ≤ w4.heap.size)
    (h1 : w4.heap[g]? = some (.cells #[.int .i64 (most : Int), v] T (0, 0))) (hO : w4.ownsRow B E 1 v' es'.length (ps'.map ptr)) (h3 : Lie w4 N ps' es') (h4 : ∀ p ∈ ps', B ≤ p) (hs : Sorted es') (hle : es'.length ≤ most) :
    w4.cell? ⟨g, 1, none⟩ = some v ∧ w4.frozen? ⟨g, 1, none⟩ = false ∧ OrdAt (w4.setCell ⟨g, 1, none⟩ v') B T E N g most es' ∧ Fr (fun q => q = g) w4 (w4.setCell ⟨g, 1, none⟩ v') := by
  have hf : Fr (fun q => q = g) w4 (w4.setCell ⟨g, 1, none⟩ v') := Fr.setCell (S := fun q => q = g) (Fr.refl _ w4) (p := ⟨g, 1, none⟩) (fun _ => rfl) _
  refine ⟨by rw [cell_of_row _ _ _ _ _ _ h1]; rfl, by simp [World.frozen?, h1], ⟨h.hB, Nat.le_trans h.hsz (Nat.le_trans hsz hf.size), ⟨v', ps', heap_setCell h1 v', ?_, ?_, h4⟩, hs, hle, h.big⟩, hf⟩
  · refine owns_fr hf hO fun q hq e => ?_
    have e' : q = g := e
    subst e'
    obtain ⟨_, cs, hc⟩ := owns_heap hO hq
    rw [h1] at hc
    cases hc
    exact hTE rfl
  · refine h3.fr hf fun p hp e => ?_
    have e' : p = g := e
    subst e'
    obtain ⟨cs, hc⟩ := h3.mem hp
    rw [h1] at hc
    cases hc
    exact hTN rfl
theorem ord_insert (hTE : T ≠ E) (hTN : T ≠ N) (hEN : E ≠ N) {w w1 w4 : World} {B g most m k : Nat} {A : Option Addr} {C : Nat} {v' : Value} {ps : List Nat} {es : List Ent} {nm : ByteArray} {val : Value} (h : OrdAt w B T E N g most es)
    (h1 : w.heap[g]? = some (.cells #[.int .i64 (most : Int), .slice A m C] T (0, 0))) (h2 : w.ownsRow B E 1 (.slice A m C) m (ps.map ptr)) (h3 : Lie w N ps es) (h4 : ∀ p ∈ ps, B ≤ p) (hm : es.length = m) (hk : place nm es = k) (hh : has nm es = false) (hroom : m < most) (hF1 : Fr0 w w1)
    (hI : Fr (fun q => (Value.slice A m C).ownBlock = some q) ((w1.alloc (.cells #[.string nm, val] N)).alloc (.cells #[ptr w1.heap.size] E)) w4) (hO : w4.ownsRow B E 1 v' (m + 1) ((ps.take k ++ w1.heap.size :: ps.drop k).map ptr)) :
    w4.cell? ⟨g, 1, none⟩ = some (.slice A m C) ∧ w4.frozen? ⟨g, 1, none⟩ = false ∧ OrdAt (w4.setCell ⟨g, 1, none⟩ v') B T E N g most (put nm val es) ∧ FrO B T E N w (w4.setCell ⟨g, 1, none⟩ v') := by
  have hl := h3.length
  have hkm : k ≤ m := by rw [← hk, ← hm]; exact place_le nm es
  have hput : put nm val es = es.take k ++ (nm, val) :: es.drop k := by unfold put; rw [hh, hk]; rfl
  have hpl : (put nm val es).length = m + 1 := by rw [hput]; simp; omega
  have hF2 : Fr0 w ((w1.alloc (.cells #[.string nm, val] N)).alloc (.cells #[ptr w1.heap.size] E)) := (hF1.alloc _).alloc _
  have hnot : ∀ (q : Nat) (cs : Array Value) (t : TypeId) (fr : Nat × Nat), w.heap[q]? = some (.cells cs t fr) → t ≠ E → ¬ (Value.slice A m C).ownBlock = some q := fun q cs t fr hq ht e => by
    obtain ⟨_, cs', hc⟩ := owns_heap h2 e
    rw [hq] at hc
    cases hc
    exact ht rfl
  have stand : ∀ (q : Nat) (cs : Array Value) (t : TypeId) (fr : Nat × Nat), w.heap[q]? = some (.cells cs t fr) → t ≠ E → w4.heap[q]? = some (.cells cs t fr) := fun q cs t fr hq ht =>
    hI.heap (hF2.heap hq (fun f => f)) (hnot q cs t fr hq ht)
  have hP : w4.heap[w1.heap.size]? = some (.cells #[.string nm, val] N (0, 0)) := by
    refine hI.heap ?_ (fun e => ?_)
    · rw [Below.heap_alloc _ _ _ (by simp)]
      exact heap_alloc_new w1 _
    · have := (World.ownsRow.lt h2 _ e).2
      have := hF1.size
      omega
  have hsz : w.heap.size ≤ w4.heap.size := Nat.le_trans hF2.size hI.size
  have hL : Lie w4 N (ps.take k ++ w1.heap.size :: ps.drop k) (put nm val es) := Lie.of (by rw [hpl]; simp; omega) fun i p e hp he => by
    rw [ins_at (by omega)] at hp
    rw [hput] at he
    by_cases c1 : i < k
    · rw [if_pos c1] at hp
      rw [List.getElem?_append_left (by simp; omega), List.getElem?_take, if_pos c1] at he
      exact stand p _ _ _ (h3.get i p e hp he) (fun e => hEN e.symm)
    · rw [if_neg c1] at hp
      rw [List.getElem?_append_right (by simp; omega), List.length_take, Nat.min_eq_left (by omega)] at he
      by_cases c2 : i = k
      · subst c2
        rw [if_pos rfl] at hp
        cases hp
        rw [Nat.sub_self, List.getElem?_cons_zero] at he
        cases he
        exact hP
      · rw [if_neg c2] at hp
        rw [show i - k = (i - 1 - k) + 1 by omega, List.getElem?_cons_succ, List.getElem?_drop, show k + (i - 1 - k) = i - 1 by omega] at he
        exact stand p _ _ _ (h3.get (i - 1) p e hp he) (fun e => hEN e.symm)
  have hM : ∀ p ∈ ps.take k ++ w1.heap.size :: ps.drop k, B ≤ p := fun p hp => by
    rcases List.mem_append.1 hp with hp | hp
    · exact h4 p (List.mem_of_mem_take hp)
    · rcases List.mem_cons.1 hp with rfl | hp
      · exact Nat.le_trans h.hsz hF1.size
      · exact h4 p (List.mem_of_mem_drop hp)
  obtain ⟨r1, r2, r3, r4⟩ := ord_row (es' := put nm val es) (ps' := ps.take k ++ w1.heap.size :: ps.drop k) hTE hTN h hsz (stand g _ _ _ h1 hTE) (by rw [hpl]; exact hO) hL hM (sorted_put h.srt) (by rw [hpl]; omega)
  refine ⟨r1, r2, r3, FrO.trans (FrO.of0 hF2) ?_⟩
  refine Fr.trans (hI.mono fun q _ e => ?_) r4 fun q _ e => ?_
  · obtain ⟨hb, cs, hc⟩ := owns_heap h2 e
    exact ⟨hb, _, _, _, hF2.heap hc (fun f => f), .inr (.inl rfl)⟩
  · have e' : q = g := e
    subst e'
    exact ⟨h.hB, _, _, _, hF2.heap h1 (fun f => f), .inl rfl⟩
theorem ord_delete (hTE : T ≠ E) (hTN : T ≠ N) (hEN : E ≠ N) {w w4 : World} {B g most m k : Nat} {A : Option Addr} {C : Nat} {v' : Value} {ps : List Nat} {es : List Ent} {nm : ByteArray} (h : OrdAt w B T E N g most es)
    (h1 : w.heap[g]? = some (.cells #[.int .i64 (most : Int), .slice A m C] T (0, 0))) (h2 : w.ownsRow B E 1 (.slice A m C) m (ps.map ptr)) (h3 : Lie w N ps es) (h4 : ∀ p ∈ ps, B ≤ p) (hm : es.length = m) (hk : place nm es = k) (hh : has nm es = true)
    (hI : Fr (fun q => (Value.slice A m C).ownBlock = some q) w w4) (hO : w4.ownsRow B E 1 v' (m - 1) ((ps.take k ++ ps.drop (k + 1)).map ptr)) :
    w4.cell? ⟨g, 1, none⟩ = some (.slice A m C) ∧ w4.frozen? ⟨g, 1, none⟩ = false ∧ OrdAt (w4.setCell ⟨g, 1, none⟩ v') B T E N g most (drop nm es) ∧ FrO B T E N w (w4.setCell ⟨g, 1, none⟩ v') := by
  have hl := h3.length
  have hkm : k < m := by rw [← hk, ← hm]; exact has_lt hh
  have hdr : drop nm es = es.take k ++ es.drop (k + 1) := by unfold drop; rw [hh, hk]; rfl
  have hpl : (drop nm es).length = m - 1 := by rw [hdr]; simp; omega
  have stand : ∀ (q : Nat) (cs : Array Value) (t : TypeId) (fr : Nat × Nat), w.heap[q]? = some (.cells cs t fr) → t ≠ E → w4.heap[q]? = some (.cells cs t fr) := fun q cs t fr hq ht =>
    hI.heap hq fun e => by
      obtain ⟨_, cs', hc⟩ := owns_heap h2 e
      rw [hq] at hc
      cases hc
      exact ht rfl
  have hle := h.le
  have hL : Lie w4 N (ps.take k ++ ps.drop (k + 1)) (drop nm es) := Lie.of (by rw [hpl]; simp; omega) fun i p e hp he => by
    rw [hdr] at he
    by_cases c1 : i < k
    · rw [List.getElem?_append_left (by simp; omega), List.getElem?_take, if_pos c1] at hp he
      exact stand p _ _ _ (h3.get i p e hp he) (fun e => hEN e.symm)
    · rw [List.getElem?_append_right (by simp; omega), List.length_take, Nat.min_eq_left (by omega), List.getElem?_drop] at hp he
      exact stand p _ _ _ (h3.get _ p e hp he) (fun e => hEN e.symm)
  have hM : ∀ p ∈ ps.take k ++ ps.drop (k + 1), B ≤ p := fun p hp => by
    rcases List.mem_append.1 hp with hp | hp
    · exact h4 p (List.mem_of_mem_take hp)
    · exact h4 p (List.mem_of_mem_drop hp)
  obtain ⟨r1, r2, r3, r4⟩ := ord_row (es' := drop nm es) (ps' := ps.take k ++ ps.drop (k + 1)) hTE hTN h hI.size (stand g _ _ _ h1 hTE) (by rw [hpl]; exact hO) hL hM (sorted_drop h.srt) (by rw [hpl]; omega)
  refine ⟨r1, r2, r3, ?_⟩
  refine Fr.trans (hI.mono fun q _ e => ?_) r4 fun q _ e => ?_
  · obtain ⟨hb, cs, hc⟩ := owns_heap h2 e
    exact ⟨hb, _, _, _, hc, .inr (.inl rfl)⟩
  · have e' : q = g := e
    subst e'
    exact ⟨h.hB, _, _, _, h1, .inl rfl⟩
end Go.Proofs.Ytnglmkombogheaa.Ord
namespace Go.Proofs.Ytnglmkombogheaa.Ord
open Go.RowKit Base
variable {T E N : TypeId}

/-- an ord's object lies at g; its blocks are in O -/
structure OrdIn (O : Nat → Prop) (w : World) (T E N : TypeId) (g : Nat) (most : Nat) (es : List Ent) : Prop where
  row : ∃ v ps, w.heap[g]? = some (.cells #[.int .i64 (most : Int), v] T (0, 0)) ∧ w.ownsRow 0 E 1 v es.length (ps.map ptr) ∧ Lie w N ps es ∧ (∀ b, v.ownBlock = some b → O b) ∧ ∀ p ∈ ps, O p
  hg : O g
  srt : Sorted es
  le : es.length ≤ most
  big : most ≤ 4096
theorem OrdIn.at {O : Nat → Prop} {w : World} {g most : Nat} {es : List Ent} (h : OrdIn O w T E N g most es) : OrdAt w 0 T E N g most es := by
  obtain ⟨v, ps, h1, h2, h3, _⟩ := h.row
  exact ⟨Nat.zero_le _, Nat.zero_le _, ⟨v, ps, h1, h2, h3, fun _ _ => Nat.zero_le _⟩, h.srt, h.le, h.big⟩
theorem OrdIn.mono {O O' : Nat → Prop} {w : World} {g most : Nat} {es : List Ent} (h : OrdIn O w T E N g most es) (ho : ∀ k, O k → O' k) : OrdIn O' w T E N g most es := by
  obtain ⟨v, ps, h1, h2, h3, h4, h5⟩ := h.row
  exact ⟨⟨v, ps, h1, h2, h3, fun b hb => ho _ (h4 b hb), fun p hp => ho _ (h5 p hp)⟩, ho _ h.hg, h.srt, h.le, h.big⟩
theorem OrdIn.fr {O S : Nat → Prop} {w w' : World} {g most : Nat} {es : List Ent} (h : OrdIn O w T E N g most es) (hf : Fr S w w') (hS : ∀ k, k < w.heap.size → O k → ¬ S k) : OrdIn O w' T E N g most es := by
  obtain ⟨v, ps, h1, h2, h3, h4, h5⟩ := h.row
  refine ⟨⟨v, ps, hf.heap h1 (hS g (Array.getElem?_eq_some_iff.1 h1).1 h.hg), owns_fr hf h2 (fun q hq => hS q (World.ownsRow.lt h2 q hq).2 (h4 q hq)), h3.fr hf (fun p hp => ?_), h4, h5⟩, h.hg, h.srt, h.le, h.big⟩
  obtain ⟨cs, hc⟩ := h3.mem hp
  exact hS p (Array.getElem?_eq_some_iff.1 hc).1 (h5 p hp)
theorem OrdIn.fr0 {O : Nat → Prop} {w w' : World} {g most : Nat} {es : List Ent} (h : OrdIn O w T E N g most es) (hf : Fr0 w w') : OrdIn O w' T E N g most es := h.fr hf fun _ _ _ f => f
theorem OrdIn.g_lt {O : Nat → Prop} {w : World} {g most : Nat} {es : List Ent} (h : OrdIn O w T E N g most es) : g < w.heap.size := by
  obtain ⟨v, ps, h1, _⟩ := h.row
  exact (Array.getElem?_eq_some_iff.1 h1).1
theorem ordIn_new (w : World) (T E N : TypeId) (m : Nat) (hm : m ≤ 4096) : OrdIn (fun k => k = w.heap.size) (w.alloc (.cells #[.int .i64 (m : Int), .slice none 0 0] T)) T E N w.heap.size m [] :=
  ⟨⟨_, [], heap_alloc_new w _, World.ownsRow_nil _ _ _ _, trivial, fun _ h => by simp [Value.ownBlock] at h, fun _ h => by cases h⟩, rfl, sorted_nil, Nat.zero_le _, hm⟩
/-- what it has, and what was made meanwhile -/
def Grown (O : Nat → Prop) (w w' : World) (k : Nat) : Prop := O k ∨ (w.heap.size ≤ k ∧ k < w'.heap.size)
theorem OrdIn.parts {O : Nat → Prop} {w : World} {g most : Nat} {es : List Ent} (h : OrdIn O w T E N g most es) : ∃ A C ps, w.heap[g]? = some (.cells #[.int .i64 (most : Int), .slice A es.length C] T (0, 0)) ∧ w.ownsRow 0 E 1 (.slice A es.length C) es.length (ps.map ptr) ∧ Lie w N ps es ∧ (∀ b, (Value.slice A es.length C).ownBlock = some b → O b) ∧ (∀ p ∈ ps, O p) ∧ ps.length = es.length ∧
    (∀ i p : Nat, ps[i]? = some p → ∃ b, A = some ⟨b, 0, none⟩ ∧ w.cell? ⟨b, i, none⟩ = some (ptr p)) := by
  obtain ⟨v, ps, h1, h2, h3, h4, h5⟩ := h.row
  have hl := h3.length
  rcases h2.2 with ⟨rfl, h0⟩ | ⟨b, cap, cur, rfl, hb, hg, hc, hm, hcs, hcur⟩
  · refine ⟨none, 0, ps, by rw [h0]; exact h1, by rw [h0] at h2 ⊢; exact h2, h3, by rw [h0]; exact h4, h5, hl, fun i p hp => ?_⟩
    have := (List.getElem?_eq_some_iff.1 hp).1
    omega
  · refine ⟨_, cap, ps, h1, h2, h3, h4, h5, hl, fun i p hp => ⟨b, rfl, ?_⟩⟩
    rw [cell_of_row _ _ _ _ _ _ hg]
    have := congrArg (fun l => l[i]?) hcur
    simp only [List.getElem?_map, hp, List.getElem?_take] at this
    split at this
    · simpa using this
    · simp at this
/-- the thing of a name that is there is another now -/
theorem ordIn_set (hTN : T ≠ N) (hEN : E ≠ N) {O : Nat → Prop} {w : World} {g most : Nat} {A : Option Addr} {C : Nat} {ps : List Nat} {es : List Ent} {nm : ByteArray} {val : Value} (h : OrdIn O w T E N g most es)
    (h1 : w.heap[g]? = some (.cells #[.int .i64 (most : Int), .slice A es.length C] T (0, 0))) (h2 : w.ownsRow 0 E 1 (.slice A es.length C) es.length (ps.map ptr)) (h3 : Lie w N ps es) (hA : ∀ b, (Value.slice A es.length C).ownBlock = some b → O b) (h4 : ∀ p ∈ ps, O p) (hh : has nm es = true) {p : Nat} (hp : ps[place nm es]? = some p) :
    OrdIn O (w.setCell ⟨p, 1, none⟩ val) T E N g most (put nm val es) ∧ Fr O w (w.setCell ⟨p, 1, none⟩ val) ∧ FrO 0 T E N w (w.setCell ⟨p, 1, none⟩ val) := by
  obtain ⟨u, hu⟩ := has_iff.1 hh
  have hlt := has_lt hh
  have hl := h3.length
  have hpb := h3.get _ _ _ hp hu
  have hfr : Fr (fun k => k = p) w (w.setCell ⟨p, 1, none⟩ val) := Fr.setCell (S := fun k => k = p) (Fr.refl _ w) (p := ⟨p, 1, none⟩) (fun _ => rfl) _
  have hnew : (w.setCell ⟨p, 1, none⟩ val).heap[p]? = some (.cells #[.string nm, val] N (0, 0)) := heap_setCell hpb _
  have hgp : g ≠ p := fun e => by subst e; rw [h1] at hpb; cases hpb
  have hput : put nm val es = es.set (place nm es) (nm, val) := by unfold put; rw [if_pos hh]
  have hln : (put nm val es).length = es.length := by rw [hput]; simp
  refine ⟨⟨⟨_, ps, hfr.heap h1 hgp, ?_, ?_, hA, h4⟩, h.hg, sorted_put h.srt, by rw [hln]; exact h.le, h.big⟩, hfr.mono fun k _ hk => by have e : k = p := hk; rw [e]; exact h4 _ (List.mem_of_getElem? hp), hfr.mono fun k _ hk => by have e : k = p := hk; subst e; exact ⟨Nat.zero_le _, _, N, _, hpb, .inr (.inr rfl)⟩⟩
  · rw [hln]
    refine owns_fr hfr h2 fun q hq e => ?_
    have e' : q = p := e
    subst e'
    obtain ⟨_, cs, hc⟩ := owns_heap h2 hq
    rw [hc] at hpb
    cases hpb
    exact hEN rfl
  · rw [hput]
    refine Lie.of (by simp [hl]) fun i q e hq he => ?_
    rw [List.getElem?_set] at he
    by_cases hi : place nm es = i
    · subst hi
      rw [hp] at hq
      cases hq
      rw [if_pos rfl, if_pos hlt] at he
      cases he
      exact hnew
    · rw [if_neg hi] at he
      refine hfr.heap (h3.get _ _ _ hq he) fun e' => ?_
      have e'' : q = p := e'
      subst e''
      have hx := h3.get _ _ _ hq he
      rw [hpb] at hx
      cases hx
      exact hi (h.srt.named he)
/-- a new one -/
theorem ordIn_insert (hTE : T ≠ E) (hTN : T ≠ N) (hEN : E ≠ N) {O : Nat → Prop} {w w1 w4 : World} {g most m k : Nat} {A : Option Addr} {C : Nat} {v' : Value} {ps : List Nat} {es : List Ent} {nm : ByteArray} {val : Value} (h : OrdIn O w T E N g most es)
    (h1 : w.heap[g]? = some (.cells #[.int .i64 (most : Int), .slice A m C] T (0, 0))) (h2 : w.ownsRow 0 E 1 (.slice A m C) m (ps.map ptr)) (h3 : Lie w N ps es) (hA : ∀ b, (Value.slice A m C).ownBlock = some b → O b) (h4 : ∀ p ∈ ps, O p) (hm : es.length = m) (hk : place nm es = k) (hh : has nm es = false) (hroom : m < most) (hF1 : Fr0 w w1)
    (hI : Fr (fun q => (Value.slice A m C).ownBlock = some q) ((w1.alloc (.cells #[.string nm, val] N)).alloc (.cells #[ptr w1.heap.size] E)) w4) (hO : w4.ownsRow 0 E 1 v' (m + 1) ((ps.take k ++ w1.heap.size :: ps.drop k).map ptr)) (hN : NewRow ((w1.alloc (.cells #[.string nm, val] N)).alloc (.cells #[ptr w1.heap.size] E)) (.slice A m C) v') :
    w4.cell? ⟨g, 1, none⟩ = some (.slice A m C) ∧ w4.frozen? ⟨g, 1, none⟩ = false ∧ OrdIn (Grown O w (w4.setCell ⟨g, 1, none⟩ v')) (w4.setCell ⟨g, 1, none⟩ v') T E N g most (put nm val es) ∧ Fr O w (w4.setCell ⟨g, 1, none⟩ v') ∧ FrO 0 T E N w (w4.setCell ⟨g, 1, none⟩ v') := by
  obtain ⟨r1, r2, r3, r4⟩ := ord_insert (B := 0) hTE hTN hEN h.at h1 h2 h3 (fun _ _ => Nat.zero_le _) hm hk hh hroom hF1 hI hO
  have hl := h3.length
  have hF2 : Fr0 w ((w1.alloc (.cells #[.string nm, val] N)).alloc (.cells #[ptr w1.heap.size] E)) := (hF1.alloc _).alloc _
  have hs4 : w4.heap.size ≤ (w4.setCell ⟨g, 1, none⟩ v').heap.size := by simp [World.setCell]
  have hsz1 : w1.heap.size + 2 ≤ w4.heap.size := by have := hI.size; simpa using this
  have hfr : Fr O w (w4.setCell ⟨g, 1, none⟩ v') := Fr.setCell (p := ⟨g, 1, none⟩) (Fr.trans (hF2.zero) (hI.mono (fun q _ e => hA q e)) (fun _ _ e => e)) (fun _ => h.hg) _
  refine ⟨r1, r2, ?_, hfr, r4⟩
  have hnot : ∀ (q : Nat) (cs : Array Value) (t : TypeId) (fr : Nat × Nat), w.heap[q]? = some (.cells cs t fr) → t ≠ E → ¬ (Value.slice A m C).ownBlock = some q := fun q cs t fr hq ht e => by
    obtain ⟨_, cs', hc⟩ := owns_heap h2 e
    rw [hq] at hc
    cases hc
    exact ht rfl
  have stand : ∀ (q : Nat) (cs : Array Value) (t : TypeId) (fr : Nat × Nat), w.heap[q]? = some (.cells cs t fr) → t ≠ E → w4.heap[q]? = some (.cells cs t fr) := fun q cs t fr hq ht =>
    hI.heap (hF2.heap hq (fun f => f)) (hnot q cs t fr hq ht)
  have hkm : k ≤ m := by rw [← hk, ← hm]; exact place_le nm es
  have hput : put nm val es = es.take k ++ (nm, val) :: es.drop k := by unfold put; rw [hh, hk]; rfl
  have hpl : (put nm val es).length = m + 1 := by rw [hput]; simp; omega
  have hP : w4.heap[w1.heap.size]? = some (.cells #[.string nm, val] N (0, 0)) := by
    refine hI.heap ?_ (fun e => ?_)
    · rw [Below.heap_alloc _ _ _ (by simp)]
      exact heap_alloc_new w1 _
    · have := (World.ownsRow.lt h2 _ e).2
      have := hF1.size
      omega
  have hL : Lie w4 N (ps.take k ++ w1.heap.size :: ps.drop k) (put nm val es) := Lie.of (by rw [hpl]; simp; omega) fun i p e hp he => by
    rw [ins_at (by omega)] at hp
    rw [hput] at he
    by_cases c1 : i < k
    · rw [if_pos c1] at hp
      rw [List.getElem?_append_left (by simp; omega), List.getElem?_take, if_pos c1] at he
      exact stand p _ _ _ (h3.get i p e hp he) (fun e => hEN e.symm)
    · rw [if_neg c1] at hp
      rw [List.getElem?_append_right (by simp; omega), List.length_take, Nat.min_eq_left (by omega)] at he
      by_cases c2 : i = k
      · subst c2
        rw [if_pos rfl] at hp
        cases hp
        rw [Nat.sub_self, List.getElem?_cons_zero] at he
        cases he
        exact hP
      · rw [if_neg c2] at hp
        rw [show i - k = (i - 1 - k) + 1 by omega, List.getElem?_cons_succ, List.getElem?_drop, show k + (i - 1 - k) = i - 1 by omega] at he
        exact stand p _ _ _ (h3.get (i - 1) p e hp he) (fun e => hEN e.symm)
  have h1' := stand g _ _ _ h1 hTE
  have hf : Fr (fun q => q = g) w4 (w4.setCell ⟨g, 1, none⟩ v') := Fr.setCell (S := fun q => q = g) (Fr.refl _ w4) (p := ⟨g, 1, none⟩) (fun _ => rfl) _
  have hw1 := hF1.size
  refine ⟨⟨v', ps.take k ++ w1.heap.size :: ps.drop k, heap_setCell h1' v', ?_, ?_, fun b hb => ?_, fun p hp => ?_⟩, .inl h.hg, sorted_put h.srt, by rw [hpl]; omega, h.big⟩
  · rw [hpl]
    refine owns_fr hf hO fun q hq e => ?_
    have e' : q = g := e
    subst e'
    obtain ⟨_, cs, hc⟩ := owns_heap hO hq
    rw [h1'] at hc
    cases hc
    exact hTE rfl
  · refine hL.fr hf fun p hp e => ?_
    have e' : p = g := e
    subst e'
    obtain ⟨cs, hc⟩ := hL.mem hp
    rw [h1'] at hc
    cases hc
    exact hTN rfl
  · rcases hN with hN | hN
    · exact .inl (hA b (by rw [← hN]; exact hb))
    · have h5 := hN b hb
      have h6 := (World.ownsRow.lt hO b hb).2
      simp at h5
      exact .inr ⟨by omega, by omega⟩
  · rcases List.mem_append.1 hp with hp | hp
    · exact .inl (h4 p (List.mem_of_mem_take hp))
    · rcases List.mem_cons.1 hp with rfl | hp
      · exact .inr ⟨hw1, by omega⟩
      · exact .inl (h4 p (List.mem_of_mem_drop hp))
/-- one goes -/
theorem ordIn_delete (hTE : T ≠ E) (hTN : T ≠ N) (hEN : E ≠ N) {O : Nat → Prop} {w w4 : World} {g most m k : Nat} {A : Option Addr} {C : Nat} {v' : Value} {ps : List Nat} {es : List Ent} {nm : ByteArray} (h : OrdIn O w T E N g most es)
    (h1 : w.heap[g]? = some (.cells #[.int .i64 (most : Int), .slice A m C] T (0, 0))) (h2 : w.ownsRow 0 E 1 (.slice A m C) m (ps.map ptr)) (h3 : Lie w N ps es) (hA : ∀ b, (Value.slice A m C).ownBlock = some b → O b) (h4 : ∀ p ∈ ps, O p) (hm : es.length = m) (hk : place nm es = k) (hh : has nm es = true)
    (hI : Fr (fun q => (Value.slice A m C).ownBlock = some q) w w4) (hO : w4.ownsRow 0 E 1 v' (m - 1) ((ps.take k ++ ps.drop (k + 1)).map ptr)) (hS : v'.ownBlock = (Value.slice A m C).ownBlock) :
    w4.cell? ⟨g, 1, none⟩ = some (.slice A m C) ∧ w4.frozen? ⟨g, 1, none⟩ = false ∧ OrdIn O (w4.setCell ⟨g, 1, none⟩ v') T E N g most (drop nm es) ∧ Fr O w (w4.setCell ⟨g, 1, none⟩ v') ∧ FrO 0 T E N w (w4.setCell ⟨g, 1, none⟩ v') := by
  obtain ⟨r1, r2, r3, r4⟩ := ord_delete (B := 0) hTE hTN hEN h.at h1 h2 h3 (fun _ _ => Nat.zero_le _) hm hk hh hI hO
  have hl := h3.length
  have hkm : k < m := by rw [← hk, ← hm]; exact has_lt hh
  have hdr : drop nm es = es.take k ++ es.drop (k + 1) := by unfold drop; rw [hh, hk]; rfl
  have hpl : (drop nm es).length = m - 1 := by rw [hdr]; simp; omega
  have hle := h.le
  have stand : ∀ (q : Nat) (cs : Array Value) (t : TypeId) (fr : Nat × Nat), w.heap[q]? = some (.cells cs t fr) → t ≠ E → w4.heap[q]? = some (.cells cs t fr) := fun q cs t fr hq ht =>
    hI.heap hq fun e => by
      obtain ⟨_, cs', hc⟩ := owns_heap h2 e
      rw [hq] at hc
      cases hc
      exact ht rfl
  have hL : Lie w4 N (ps.take k ++ ps.drop (k + 1)) (drop nm es) := Lie.of (by rw [hpl]; simp; omega) fun i p e hp he => by
    rw [hdr] at he
    by_cases c1 : i < k
    · rw [List.getElem?_append_left (by simp; omega), List.getElem?_take, if_pos c1] at hp he
      exact stand p _ _ _ (h3.get i p e hp he) (fun e => hEN e.symm)
    · rw [List.getElem?_append_right (by simp; omega), List.length_take, Nat.min_eq_left (by omega), List.getElem?_drop] at hp he
      exact stand p _ _ _ (h3.get _ p e hp he) (fun e => hEN e.symm)
  have h1' := stand g _ _ _ h1 hTE
  have hf : Fr (fun q => q = g) w4 (w4.setCell ⟨g, 1, none⟩ v') := Fr.setCell (S := fun q => q = g) (Fr.refl _ w4) (p := ⟨g, 1, none⟩) (fun _ => rfl) _
  have hfr : Fr O w (w4.setCell ⟨g, 1, none⟩ v') := Fr.setCell (p := ⟨g, 1, none⟩) (hI.mono (fun q _ e => hA q e)) (fun _ => h.hg) _
  refine ⟨r1, r2, ⟨⟨v', ps.take k ++ ps.drop (k + 1), heap_setCell h1' v', ?_, ?_, fun b hb => hA b (by rw [← hS]; exact hb), fun p hp => ?_⟩, h.hg, sorted_drop h.srt, by rw [hpl]; omega, h.big⟩, hfr, r4⟩
  · rw [hpl]
    refine owns_fr hf hO fun q hq e => ?_
    have e' : q = g := e
    subst e'
    obtain ⟨_, cs, hc⟩ := owns_heap hO hq
    rw [h1'] at hc
    cases hc
    exact hTE rfl
  · refine hL.fr hf fun p hp e => ?_
    have e' : p = g := e
    subst e'
    obtain ⟨cs, hc⟩ := hL.mem hp
    rw [h1'] at hc
    cases hc
    exact hTN rfl
  · rcases List.mem_append.1 hp with hp | hp
    · exact h4 p (List.mem_of_mem_take hp)
    · exact h4 p (List.mem_of_mem_drop hp)
end Go.Proofs.Ytnglmkombogheaa.Ord
