/-
  How an ord lies in memory, what may turn when it is called, and how a row of pointers is written. No program stands here.
-/
import Derived.Test.YtefebimnebpodaaOrdSpec
import Derived.Laws.CopyRow
import Derived.Laws.IdiomCopy
namespace Go.Proofs.Ytefebimnebpodaa.Ord
open Go.RowKit Base

def ptr (p : Nat) : Value := .pointer (some ⟨p, 0, none⟩)
theorem ptr_one (ps : List Nat) : ∀ v ∈ ps.map ptr, v.oneCell' = true := fun v hv => by
  obtain ⟨p, _, rfl⟩ := List.mem_map.1 hv
  rfl
/-- each of es lies in a block of its own: a name, a thing -/
def Lie (w : World) (N : TypeId) : List Nat → List Ent → Prop
  | [], [] => True
  | p :: ps, e :: es => w.heap[p]? = some (.cells #[.string e.1, e.2] N (0, 0)) ∧ Lie w N ps es
  | _, _ => False
theorem Lie.length {w : World} {N : TypeId} : ∀ {ps : List Nat} {es : List Ent}, Lie w N ps es → ps.length = es.length
  | [], [], _ => rfl
  | _ :: ps, _ :: es, h => by simp [Lie.length (ps := ps) (es := es) h.2]
  | [], _ :: _, h => h.elim
  | _ :: _, [], h => h.elim
theorem Lie.get {w : World} {N : TypeId} : ∀ {ps : List Nat} {es : List Ent}, Lie w N ps es → ∀ (i p : Nat) (e : Ent), ps[i]? = some p → es[i]? = some e → w.heap[p]? = some (.cells #[.string e.1, e.2] N (0, 0))
  | [], [], _, _, _, _, h, _ => by simp at h
  | _ :: ps, _ :: es, h, 0, p, e, hp, he => by simp at hp he; subst hp he; exact h.1
  | _ :: ps, _ :: es, h, i + 1, p, e, hp, he => Lie.get (ps := ps) (es := es) h.2 i p e (by simpa using hp) (by simpa using he)
  | [], _ :: _, h, _, _, _, _, _ => h.elim
  | _ :: _, [], h, _, _, _, _, _ => h.elim
theorem Lie.of {w : World} {N : TypeId} : ∀ {ps : List Nat} {es : List Ent}, ps.length = es.length → (∀ (i p : Nat) (e : Ent), ps[i]? = some p → es[i]? = some e → w.heap[p]? = some (.cells #[.string e.1, e.2] N (0, 0))) → Lie w N ps es
  | [], [], _, _ => trivial
  | p :: ps, e :: es, hl, h => ⟨h 0 p e (by simp) (by simp), Lie.of (ps := ps) (es := es) (by simpa using hl) (fun i q x hq hx => h (i + 1) q x (by simpa using hq) (by simpa using hx))⟩
  | [], _ :: _, hl, _ => by simp at hl
  | _ :: _, [], hl, _ => by simp at hl
theorem Lie.mem {w : World} {N : TypeId} {ps : List Nat} {es : List Ent} (h : Lie w N ps es) {p : Nat} (hp : p ∈ ps) : ∃ cs, w.heap[p]? = some (.cells cs N (0, 0)) := by
  obtain ⟨i, hi⟩ := List.mem_iff_getElem?.1 hp
  have hlt := (List.getElem?_eq_some_iff.1 hi).1
  exact ⟨_, h.get i p _ hi (List.getElem?_eq_getElem (by rw [← h.length]; exact hlt))⟩
theorem Lie.fr {S : Nat → Prop} {w w' : World} {N : TypeId} {ps : List Nat} {es : List Ent} (hf : Fr S w w') (hs : ∀ p ∈ ps, ¬ S p) (h : Lie w N ps es) : Lie w' N ps es :=
  Lie.of h.length fun i p e hp he => hf.heap (h.get i p e hp he) (hs p (List.mem_of_getElem? hp))

/-- the blocks of an ord's three kinds that were made since B -/
def Mine (w : World) (B : Nat) (T E N : TypeId) (k : Nat) : Prop := B ≤ k ∧ ∃ cs t fr, w.heap[k]? = some (.cells cs t fr) ∧ (t = T ∨ t = E ∨ t = N)
/-- only such have turned -/
abbrev FrO (B : Nat) (T E N : TypeId) (w w' : World) : Prop := Fr (Mine w B T E N) w w'
theorem FrO.trans {B : Nat} {T E N : TypeId} {a b c : World} (h : FrO B T E N a b) (k : FrO B T E N b c) : FrO B T E N a c :=
  Fr.trans h k fun i hi ⟨hB, cs, t, fr, hx, ht⟩ => by
    by_cases hm : Mine a B T E N i
    · exact hm
    · rw [h.block i hi hm] at hx
      exact ⟨hB, cs, t, fr, hx, ht⟩
theorem FrO.of0 {B : Nat} {T E N : TypeId} {a b : World} (h : Fr0 a b) : FrO B T E N a b := h.mono fun _ _ f => f.elim
theorem FrO.fr0 {B : Nat} {T E N : TypeId} {w0 a b : World} (h : Fr0 w0 a) (k : FrO B T E N a b) (hB : w0.heap.size ≤ B) : Fr0 w0 b := Fr.trans h k fun i hi ⟨hb, _⟩ => by omega
/-- a block of another kind stands -/
theorem FrO.cells {B : Nat} {T E N : TypeId} {a b : World} (h : FrO B T E N a b) {g : Nat} {cs : Array Value} {t : TypeId} {fr : Nat × Nat} (hg : a.heap[g]? = some (.cells cs t fr)) (ht : t ≠ T ∧ t ≠ E ∧ t ≠ N) : b.heap[g]? = some (.cells cs t fr) :=
  Fr.heap h hg fun ⟨_, cs', t', fr', hx, hk⟩ => by
    rw [hg] at hx
    cases hx
    rcases hk with rfl | rfl | rfl
    · exact ht.1 rfl
    · exact ht.2.1 rfl
    · exact ht.2.2 rfl
theorem FrO.owns {B : Nat} {T E N : TypeId} {a b : World} (h : FrO B T E N a b) {base : Nat} {e : TypeId} {size : Nat} {v : Value} {n : Nat} {xs : List Value} (ho : a.ownsRow base e size v n xs) (ht : e ≠ T ∧ e ≠ E ∧ e ≠ N) : b.ownsRow base e size v n xs := by
  refine ⟨ho.1, ?_⟩
  rcases ho.2 with hn | ⟨g, cap, cur, rfl, hb, hgg, rest⟩
  · exact .inl hn
  · exact .inr ⟨g, cap, cur, rfl, hb, FrO.cells h hgg ht, rest⟩
theorem owns_fr {S : Nat → Prop} {a b : World} (h : Fr S a b) {base : Nat} {e : TypeId} {size : Nat} {v : Value} {n : Nat} {xs : List Value} (ho : a.ownsRow base e size v n xs) (hs : ∀ g, v.ownBlock = some g → ¬ S g) : b.ownsRow base e size v n xs := by
  refine ⟨ho.1, ?_⟩
  rcases ho.2 with hn | ⟨g, cap, cur, rfl, hb, hgg, rest⟩
  · exact .inl hn
  · exact .inr ⟨g, cap, cur, rfl, hb, h.heap hgg (hs g rfl), rest⟩
theorem owns_heap {w : World} {base : Nat} {e : TypeId} {size : Nat} {v : Value} {n : Nat} {xs : List Value} (ho : w.ownsRow base e size v n xs) {g : Nat} (hg : v.ownBlock = some g) : base ≤ g ∧ ∃ cs, w.heap[g]? = some (.cells cs e (0, 0)) := by
  rcases ho.2 with ⟨rfl, _⟩ | ⟨q, cap, cur, rfl, hb, hgg, rest⟩
  · cases hg
  · cases hg
    exact ⟨hb, cur, hgg⟩

/-- an ord's object lies at g -/
structure OrdAt (w : World) (B : Nat) (T E N : TypeId) (g : Nat) (most : Nat) (es : List Ent) : Prop where
  hB : B ≤ g
  hsz : B ≤ w.heap.size
  row : ∃ v ps, w.heap[g]? = some (.cells #[.int .i64 (most : Int), v] T (0, 0)) ∧ w.ownsRow B E 1 v es.length (ps.map ptr) ∧ Lie w N ps es ∧ ∀ p ∈ ps, B ≤ p
  srt : Sorted es
  le : es.length ≤ most
  big : most ≤ 4096
theorem OrdAt.fr {S : Nat → Prop} {w w' : World} {B : Nat} {T E N : TypeId} {g most : Nat} {es : List Ent} (h : OrdAt w B T E N g most es) (hf : Fr S w w') (hS : ∀ k, Mine w B T E N k → ¬ S k) : OrdAt w' B T E N g most es := by
  obtain ⟨v, ps, h1, h2, h3, h4⟩ := h.row
  refine ⟨h.hB, Nat.le_trans h.hsz hf.size, ⟨v, ps, hf.heap h1 (hS g ⟨h.hB, _, _, _, h1, .inl rfl⟩), owns_fr hf h2 (fun q hq => ?_), h3.fr hf (fun p hp => ?_), h4⟩, h.srt, h.le, h.big⟩
  · obtain ⟨hb, cs, hc⟩ := owns_heap h2 hq
    exact hS q ⟨hb, _, _, _, hc, .inr (.inl rfl)⟩
  · obtain ⟨cs, hc⟩ := h3.mem hp
    exact hS p ⟨h4 p hp, _, _, _, hc, .inr (.inr rfl)⟩
theorem OrdAt.fr0 {w w' : World} {B : Nat} {T E N : TypeId} {g most : Nat} {es : List Ent} (h : OrdAt w B T E N g most es) (hf : Fr0 w w') : OrdAt w' B T E N g most es := h.fr hf fun _ _ f => f

/-- most, held to its bounds -/
def held (m : Int) : Nat := (min (max m 1) 4096).toNat
theorem held_int (m : Int) : ((held m : Nat) : Int) = min (max m 1) 4096 := by unfold held; omega
theorem held_le (m : Int) : held m ≤ 4096 := by unfold held; omega
theorem held_pos (m : Int) : 1 ≤ held m := by unfold held; omega
theorem ord_new (w : World) (B : Nat) (T E N : TypeId) (m : Nat) (hm : m ≤ 4096) (hB : B ≤ w.heap.size) : OrdAt (w.alloc (.cells #[.int .i64 (m : Int), .slice none 0 0] T)) B T E N w.heap.size m [] :=
  ⟨hB, Nat.le_trans hB (by simp), ⟨_, [], heap_alloc_new w _, World.ownsRow_nil _ _ _ _, trivial, fun _ h => by cases h⟩, sorted_nil, Nat.zero_le _, hm⟩
theorem OrdAt.parts {w : World} {B : Nat} {T E N : TypeId} {g most : Nat} {es : List Ent} (h : OrdAt w B T E N g most es) : ∃ A C ps, w.heap[g]? = some (.cells #[.int .i64 (most : Int), .slice A es.length C] T (0, 0)) ∧ w.ownsRow B E 1 (.slice A es.length C) es.length (ps.map ptr) ∧ Lie w N ps es ∧ (∀ p ∈ ps, B ≤ p) ∧ ps.length = es.length ∧
    (∀ i p : Nat, ps[i]? = some p → ∃ b, A = some ⟨b, 0, none⟩ ∧ w.cell? ⟨b, i, none⟩ = some (ptr p)) := by
  obtain ⟨v, ps, h1, h2, h3, h4⟩ := h.row
  have hl := h3.length
  rcases h2.2 with ⟨rfl, h0⟩ | ⟨b, cap, cur, rfl, hb, hg, hc, hm, hcs, hcur⟩
  · refine ⟨none, 0, ps, by rw [h0]; exact h1, by rw [h0] at h2 ⊢; exact h2, h3, h4, hl, fun i p hp => ?_⟩
    have := (List.getElem?_eq_some_iff.1 hp).1
    omega
  · refine ⟨_, cap, ps, h1, h2, h3, h4, hl, fun i p hp => ⟨b, rfl, ?_⟩⟩
    rw [cell_of_row _ _ _ _ _ _ hg]
    have := congrArg (fun l => l[i]?) hcur
    simp only [List.getElem?_map, hp, List.getElem?_take] at this
    split at this
    · simpa using this
    · simp at this
/-- one cell of a block is written -/
theorem heap_setCell {w : World} {g i : Nat} {cs : Array Value} {t : TypeId} {fr : Nat × Nat} (hg : w.heap[g]? = some (.cells cs t fr)) (u : Value) : (w.setCell ⟨g, i, none⟩ u).heap[g]? = some (.cells (cs.setIfInBounds i u) t fr) := by
  rw [setCell_eq_setRow w g i cs t fr u hg]
  exact setRow_heap w g cs _ t fr hg
theorem ins_at {l : List Nat} {q i : Nat} (hi : i ≤ l.length) (j : Nat) : (l.take i ++ q :: l.drop i)[j]? = if j < i then l[j]? else if j = i then some q else l[j - 1]? := by
  by_cases h : j < i
  · rw [if_pos h, List.getElem?_append_left (by simp; omega), List.getElem?_take, if_pos h]
  · rw [if_neg h, List.getElem?_append_right (by simp; omega), List.length_take, Nat.min_eq_left hi]
    by_cases k : j = i
    · subst k; simp
    · rw [if_neg k, show j - i = (j - i - 1) + 1 by omega, List.getElem?_cons_succ, List.getElem?_drop]
      congr 1
      omega
end Go.Proofs.Ytefebimnebpodaa.Ord
