/-
  What putting one in and striking one make of an ord's memory. No program stands here.
-/
import Derived.Test.YtefebimnebpodaaOrdOps
namespace Go.Proofs.Ytefebimnebpodaa.Ord
open Go.RowKit Base
variable {T E N : TypeId}

/-- the row's own form -/
theorem owns_slice {w : World} {base : Nat} {e : TypeId} {size : Nat} {v : Value} {n : Nat} {xs : List Value} (h : w.ownsRow base e size v n xs) : ∃ A C, v = .slice A n C := by
  rcases h.2 with ⟨rfl, h0⟩ | ⟨g, cap, cur, rfl, _⟩
  · exact ⟨none, 0, by rw [h0]⟩
  · exact ⟨_, _, rfl⟩
/-- the object's row is another now -/
theorem ord_row (hTE : T ≠ E) (hTN : T ≠ N) {w w4 : World} {B g most : Nat} {v v' : Value} {es : List Ent} {ps' : List Nat} {es' : List Ent} (h : OrdAt w B T E N g most es) (hsz : w.heap.size ≤ w4.heap.size)
    (h1 : w4.heap[g]? = some (.cells #[.int .i64 (most : Int), v] T (0, 0))) (hO : w4.ownsRow B E 1 v' es'.length (ps'.map ptr)) (h3 : Lie w4 N ps' es') (h4 : ∀ p ∈ ps', B ≤ p) (hs : Sorted es') (hle : es'.length ≤ most) :
    w4.cell? ⟨g, 1, none⟩ = some v ∧ w4.frozen? ⟨g, 1, none⟩ = false ∧ OrdAt (w4.setCell ⟨g, 1, none⟩ v') B T E N g most es' ∧ Fr (fun q => q = g) w4 (w4.setCell ⟨g, 1, none⟩ v') := by
  have hf : Fr (fun q => q = g) w4 (w4.setCell ⟨g, 1, none⟩ v') := Fr.setCell (S := fun q => q = g) (Fr.refl _ w4) (p := ⟨g, 1, none⟩) (fun _ => rfl) _
  refine ⟨by rw [cell_of_row _ _ _ _ _ _ h1]; rfl, by simp [World.frozen?, h1], ⟨h.hB, Nat.le_trans h.hsz (Nat.le_trans hsz hf.size), ⟨v', ps', heap_setCell h1 v', ?_, ?_, h4⟩, hs, hle, h.big⟩, hf⟩
  · refine owns_fr hf hO fun q hq e => ?_
    have e' : q = g := e
    subst e'
    obtain ⟨_, cs, hc⟩ := owns_heap hO hq
    rw [h1] at hc
    cases hc
    exact hTE rfl
  · refine h3.fr hf fun p hp e => ?_
    have e' : p = g := e
    subst e'
    obtain ⟨cs, hc⟩ := h3.mem hp
    rw [h1] at hc
    cases hc
    exact hTN rfl
theorem ord_insert (hTE : T ≠ E) (hTN : T ≠ N) (hEN : E ≠ N) {w w1 w4 : World} {B g most m k : Nat} {A : Option Addr} {C : Nat} {v' : Value} {ps : List Nat} {es : List Ent} {nm : ByteArray} {val : Value} (h : OrdAt w B T E N g most es)
    (h1 : w.heap[g]? = some (.cells #[.int .i64 (most : Int), .slice A m C] T (0, 0))) (h2 : w.ownsRow B E 1 (.slice A m C) m (ps.map ptr)) (h3 : Lie w N ps es) (h4 : ∀ p ∈ ps, B ≤ p) (hm : es.length = m) (hk : place nm es = k) (hh : has nm es = false) (hroom : m < most) (hF1 : Fr0 w w1)
    (hI : Fr (fun q => (Value.slice A m C).ownBlock = some q) ((w1.alloc (.cells #[.string nm, val] N)).alloc (.cells #[ptr w1.heap.size] E)) w4) (hO : w4.ownsRow B E 1 v' (m + 1) ((ps.take k ++ w1.heap.size :: ps.drop k).map ptr)) :
    w4.cell? ⟨g, 1, none⟩ = some (.slice A m C) ∧ w4.frozen? ⟨g, 1, none⟩ = false ∧ OrdAt (w4.setCell ⟨g, 1, none⟩ v') B T E N g most (put nm val es) ∧ FrO B T E N w (w4.setCell ⟨g, 1, none⟩ v') := by
  have hl := h3.length
  have hkm : k ≤ m := by rw [← hk, ← hm]; exact place_le nm es
  have hput : put nm val es = es.take k ++ (nm, val) :: es.drop k := by unfold put; rw [hh, hk]; rfl
  have hpl : (put nm val es).length = m + 1 := by rw [hput]; simp; omega
  have hF2 : Fr0 w ((w1.alloc (.cells #[.string nm, val] N)).alloc (.cells #[ptr w1.heap.size] E)) := (hF1.alloc _).alloc _
  have hnot : ∀ (q : Nat) (cs : Array Value) (t : TypeId) (fr : Nat × Nat), w.heap[q]? = some (.cells cs t fr) → t ≠ E → ¬ (Value.slice A m C).ownBlock = some q := fun q cs t fr hq ht e => by
    obtain ⟨_, cs', hc⟩ := owns_heap h2 e
    rw [hq] at hc
    cases hc
    exact ht rfl
  have stand : ∀ (q : Nat) (cs : Array Value) (t : TypeId) (fr : Nat × Nat), w.heap[q]? = some (.cells cs t fr) → t ≠ E → w4.heap[q]? = some (.cells cs t fr) := fun q cs t fr hq ht =>
    hI.heap (hF2.heap hq (fun f => f)) (hnot q cs t fr hq ht)
  have hP : w4.heap[w1.heap.size]? = some (.cells #[.string nm, val] N (0, 0)) := by
    refine hI.heap ?_ (fun e => ?_)
    · rw [Below.heap_alloc _ _ _ (by simp)]
      exact heap_alloc_new w1 _
    · have := (World.ownsRow.lt h2 _ e).2
      have := hF1.size
      omega
  have hsz : w.heap.size ≤ w4.heap.size := Nat.le_trans hF2.size hI.size
  have hL : Lie w4 N (ps.take k ++ w1.heap.size :: ps.drop k) (put nm val es) := Lie.of (by rw [hpl]; simp; omega) fun i p e hp he => by
    rw [ins_at (by omega)] at hp
    rw [hput] at he
    by_cases c1 : i < k
    · rw [if_pos c1] at hp
      rw [List.getElem?_append_left (by simp; omega), List.getElem?_take, if_pos c1] at he
      exact stand p _ _ _ (h3.get i p e hp he) (fun e => hEN e.symm)
    · rw [if_neg c1] at hp
      rw [List.getElem?_append_right (by simp; omega), List.length_take, Nat.min_eq_left (by omega)] at he
      by_cases c2 : i = k
      · subst c2
        rw [if_pos rfl] at hp
        cases hp
        rw [Nat.sub_self, List.getElem?_cons_zero] at he
        cases he
        exact hP
      · rw [if_neg c2] at hp
        rw [show i - k = (i - 1 - k) + 1 by omega, List.getElem?_cons_succ, List.getElem?_drop, show k + (i - 1 - k) = i - 1 by omega] at he
        exact stand p _ _ _ (h3.get (i - 1) p e hp he) (fun e => hEN e.symm)
  have hM : ∀ p ∈ ps.take k ++ w1.heap.size :: ps.drop k, B ≤ p := fun p hp => by
    rcases List.mem_append.1 hp with hp | hp
    · exact h4 p (List.mem_of_mem_take hp)
    · rcases List.mem_cons.1 hp with rfl | hp
      · exact Nat.le_trans h.hsz hF1.size
      · exact h4 p (List.mem_of_mem_drop hp)
  obtain ⟨r1, r2, r3, r4⟩ := ord_row (es' := put nm val es) (ps' := ps.take k ++ w1.heap.size :: ps.drop k) hTE hTN h hsz (stand g _ _ _ h1 hTE) (by rw [hpl]; exact hO) hL hM (sorted_put h.srt) (by rw [hpl]; omega)
  refine ⟨r1, r2, r3, FrO.trans (FrO.of0 hF2) ?_⟩
  refine Fr.trans (hI.mono fun q _ e => ?_) r4 fun q _ e => ?_
  · obtain ⟨hb, cs, hc⟩ := owns_heap h2 e
    exact ⟨hb, _, _, _, hF2.heap hc (fun f => f), .inr (.inl rfl)⟩
  · have e' : q = g := e
    subst e'
    exact ⟨h.hB, _, _, _, hF2.heap h1 (fun f => f), .inl rfl⟩
theorem ord_delete (hTE : T ≠ E) (hTN : T ≠ N) (hEN : E ≠ N) {w w4 : World} {B g most m k : Nat} {A : Option Addr} {C : Nat} {v' : Value} {ps : List Nat} {es : List Ent} {nm : ByteArray} (h : OrdAt w B T E N g most es)
    (h1 : w.heap[g]? = some (.cells #[.int .i64 (most : Int), .slice A m C] T (0, 0))) (h2 : w.ownsRow B E 1 (.slice A m C) m (ps.map ptr)) (h3 : Lie w N ps es) (h4 : ∀ p ∈ ps, B ≤ p) (hm : es.length = m) (hk : place nm es = k) (hh : has nm es = true)
    (hI : Fr (fun q => (Value.slice A m C).ownBlock = some q) w w4) (hO : w4.ownsRow B E 1 v' (m - 1) ((ps.take k ++ ps.drop (k + 1)).map ptr)) :
    w4.cell? ⟨g, 1, none⟩ = some (.slice A m C) ∧ w4.frozen? ⟨g, 1, none⟩ = false ∧ OrdAt (w4.setCell ⟨g, 1, none⟩ v') B T E N g most (drop nm es) ∧ FrO B T E N w (w4.setCell ⟨g, 1, none⟩ v') := by
  have hl := h3.length
  have hkm : k < m := by rw [← hk, ← hm]; exact has_lt hh
  have hdr : drop nm es = es.take k ++ es.drop (k + 1) := by unfold drop; rw [hh, hk]; rfl
  have hpl : (drop nm es).length = m - 1 := by rw [hdr]; simp; omega
  have stand : ∀ (q : Nat) (cs : Array Value) (t : TypeId) (fr : Nat × Nat), w.heap[q]? = some (.cells cs t fr) → t ≠ E → w4.heap[q]? = some (.cells cs t fr) := fun q cs t fr hq ht =>
    hI.heap hq fun e => by
      obtain ⟨_, cs', hc⟩ := owns_heap h2 e
      rw [hq] at hc
      cases hc
      exact ht rfl
  have hle := h.le
  have hL : Lie w4 N (ps.take k ++ ps.drop (k + 1)) (drop nm es) := Lie.of (by rw [hpl]; simp; omega) fun i p e hp he => by
    rw [hdr] at he
    by_cases c1 : i < k
    · rw [List.getElem?_append_left (by simp; omega), List.getElem?_take, if_pos c1] at hp he
      exact stand p _ _ _ (h3.get i p e hp he) (fun e => hEN e.symm)
    · rw [List.getElem?_append_right (by simp; omega), List.length_take, Nat.min_eq_left (by omega), List.getElem?_drop] at hp he
      exact stand p _ _ _ (h3.get _ p e hp he) (fun e => hEN e.symm)
  have hM : ∀ p ∈ ps.take k ++ ps.drop (k + 1), B ≤ p := fun p hp => by
    rcases List.mem_append.1 hp with hp | hp
    · exact h4 p (List.mem_of_mem_take hp)
    · exact h4 p (List.mem_of_mem_drop hp)
  obtain ⟨r1, r2, r3, r4⟩ := ord_row (es' := drop nm es) (ps' := ps.take k ++ ps.drop (k + 1)) hTE hTN h hI.size (stand g _ _ _ h1 hTE) (by rw [hpl]; exact hO) hL hM (sorted_drop h.srt) (by rw [hpl]; omega)
  refine ⟨r1, r2, r3, ?_⟩
  refine Fr.trans (hI.mono fun q _ e => ?_) r4 fun q _ e => ?_
  · obtain ⟨hb, cs, hc⟩ := owns_heap h2 e
    exact ⟨hb, _, _, _, hc, .inr (.inl rfl)⟩
  · have e' : q = g := e
    subst e'
    exact ⟨h.hB, _, _, _, h1, .inl rfl⟩
end Go.Proofs.Ytefebimnebpodaa.Ord
