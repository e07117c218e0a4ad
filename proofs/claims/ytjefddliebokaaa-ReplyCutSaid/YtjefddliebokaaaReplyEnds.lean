/-
  A map from ints to ints that holds where the first so many answers end. No program stands here.
-/
import Derived.Test.YtjefddliebokaaaReplyFlat
import Derived.Test.YtjefddliebokaaaBaseC
import Derived.Maps.Own
import Derived.Maps.OwnOps
import Derived.Maps.OwnSet
namespace Go.Proofs.Ytjefddliebokaaa.Reply
open Go.RowKit Base Pack Go.WideMaps Go.Maps

def ikey (n : Nat) : Lit := .int .i64 (n : Int)
def idat (n : Nat) : DataW Unit := .lit (.int .i64 (n : Int))
def eds (X : List (Nat × Nat)) : List (Lit × DataW Unit) := X.map fun p => (ikey p.1, idat p.2)
theorem ikey_same (a b : Nat) : (ikey a).sameKey (ikey b) = decide (a = b) := by
  unfold ikey Lit.sameKey
  by_cases h : a = b
  · subst h; simp
  · rw [decide_eq_false h]; simp; omega
theorem ikey_before (a b : Nat) : (ikey a).before (ikey b) = decide (a < b) := by
  unfold ikey Lit.before
  by_cases h : a < b
  · rw [decide_eq_true h]; exact decide_eq_true (by omega)
  · rw [decide_eq_false h]; exact decide_eq_false (by omega)
theorem eds_last (n : Nat) (d : DataW Unit) : ∀ X : List (Nat × Nat), (∀ a ∈ X, a.1 < n) → DataW.insert (ikey n, d) (eds X) = eds X ++ [(ikey n, d)]
  | [], _ => rfl
  | a :: X, h => by
    have h0 := h a (by simp)
    show (if (ikey n).before (ikey a.1) = true then _ else _) = _
    rw [ikey_before, decide_eq_false (by omega), if_neg (by decide)]
    show _ :: DataW.insert (ikey n, d) (eds X) = _
    rw [eds_last n d X (fun b hb => h b (by simp [hb]))]
    rfl
theorem eds_put {X : List (Nat × Nat)} {n : Nat} (v : Nat) (h : ∀ a ∈ X, a.1 < n) : (DataW.map (eds X)).put (ikey n) (idat v) = .map (eds (X ++ [(n, v)])) := by
  show DataW.map (DataW.insert (ikey n, idat v) ((eds X).filter fun p => !p.1.sameKey (ikey n))) = _
  have hf : (eds X).filter (fun p => !p.1.sameKey (ikey n)) = eds X := by
    rw [List.filter_eq_self]
    intro p hp
    obtain ⟨a, ha, rfl⟩ := List.mem_map.1 hp
    have := h a ha
    simp only [ikey_same, Bool.not_eq_true', decide_eq_false_iff_not]
    omega
  rw [hf, eds_last n _ X h]
  simp [eds]
theorem eds_has (n : Nat) : ∀ X : List (Nat × Nat), Maps.has (DataW.map (eds X)) (ikey n) = X.any fun p => decide (p.1 = n)
  | [] => rfl
  | a :: X => by
    have ih := eds_has n X
    show ((ikey a.1).sameKey (ikey n) || (eds X).any fun p => p.1.sameKey (ikey n)) = _
    rw [List.any_cons, ikey_same]
    have : (eds X).any (fun p => p.1.sameKey (ikey n)) = X.any fun p => decide (p.1 = n) := ih
    rw [this]
theorem eds_at {X : List (Nat × Nat)} (h : X.Pairwise fun a b => a.1 < b.1) {n v : Nat} (hm : (n, v) ∈ X) (z : DataW Unit) : (DataW.map (eds X)).atKey (ikey n) z = idat v := by
  induction X with
  | nil => simp at hm
  | cons a X ih =>
    rw [List.pairwise_cons] at h
    simp only [DataW.atKey] at ih ⊢
    rcases List.mem_cons.1 hm with rfl | hm
    · rw [show eds ((n, v) :: X) = (ikey n, idat v) :: eds X from rfl, List.find?_cons_of_pos (by simp [ikey_same])]
    · have := h.1 _ hm
      rw [show eds (a :: X) = (ikey a.1, idat a.2) :: eds X from rfl, List.find?_cons_of_neg (by simp only [ikey_same, decide_eq_true_eq]; omega), ih h.2 hm]
def marks (L : List Rp) (i : Nat) : List (Nat × Nat) := (List.range (i + 1)).map fun j => (ends L j, j)
theorem marks_zero (L : List Rp) : marks L 0 = [(0, 0)] := by
  show [(ends L 0, 0)] = _
  unfold ends
  rw [flat_zero]
  rfl
theorem marks_next (L : List Rp) (i : Nat) : marks L (i + 1) = marks L i ++ [(ends L (i + 1), i + 1)] := by
  unfold marks
  rw [List.range_succ (n := i + 1), List.map_append]
  rfl
theorem marks_mem (L : List Rp) (i : Nat) (a : Nat × Nat) : a ∈ marks L i ↔ a.2 ≤ i ∧ a.1 = ends L a.2 := by
  unfold marks
  rw [List.mem_map]
  constructor
  · rintro ⟨j, hj, rfl⟩
    rw [List.mem_range] at hj
    exact ⟨by show j ≤ i; omega, rfl⟩
  · rintro ⟨h1, h2⟩
    exact ⟨a.2, List.mem_range.2 (by omega), by rw [← h2]⟩
theorem marks_lt (L : List Rp) (i : Nat) (h : i < L.length) : ∀ a ∈ marks L i, a.1 < ends L (i + 1) := fun a ha => by
  obtain ⟨h1, h2⟩ := (marks_mem L i a).1 ha
  rw [h2]
  exact ends_mono L (i + 1) a.2 (by omega) (by omega)
theorem marks_rising (L : List Rp) (i : Nat) (h : i ≤ L.length) : (marks L i).Pairwise fun a b => a.1 < b.1 := by
  unfold marks
  rw [List.pairwise_map]
  refine List.Pairwise.imp_of_mem ?_ List.pairwise_lt_range
  intro a b _ hb hab
  rw [List.mem_range] at hb
  exact ends_mono L b a hab (by omega)
theorem marks_at (L : List Rp) (i k : Nat) (h : i ≤ L.length) (hk : k ≤ i) (z : DataW Unit) : (DataW.map (eds (marks L i))).atKey (ikey (ends L k)) z = idat k :=
  eds_at (marks_rising L i h) ((marks_mem L i (ends L k, k)).2 ⟨hk, rfl⟩) z
theorem marks_has (L : List Rp) (i k : Nat) (hk : k ≤ i) : Maps.has (DataW.map (eds (marks L i))) (ikey (ends L k)) = true := by
  rw [eds_has, List.any_eq_true]
  exact ⟨(ends L k, k), (marks_mem L i (ends L k, k)).2 ⟨hk, rfl⟩, decide_eq_true rfl⟩
theorem marks_hasnt (L : List Rp) (i m : Nat) (h : ∀ k, k ≤ i → m ≠ ends L k) : Maps.has (DataW.map (eds (marks L i))) (ikey m) = false := by
  rw [eds_has, List.any_eq_false]
  intro a ha e
  obtain ⟨h1, h2⟩ := (marks_mem L i a).1 ha
  have e := of_decide_eq_true e
  exact h a.2 h1 (by omega)
theorem fr_ends {S : Nat → Prop} {a c : World} (h : Fr S a c) {P : Program} {k : TypeId} {R : Value → Option (DataW Unit × List MemPlace)} {b n : Nat} {D : DataW Unit} (hs : ¬ S b) (hm : a.ownsMap P k R b n D) : c.ownsMap P k R b n D := by
  obtain ⟨es, clock, hb, rest⟩ := hm
  exact ⟨es, clock, h.heap hb hs, rest⟩
theorem own_ne_map {w : World} {P : Program} {base m : Nat} {e : TypeId} {v : Value} {n : Nat} {xs : List Value} {k : TypeId} {R : Value → Option (DataW Unit × List MemPlace)} {b : Nat} {D : DataW Unit} (ho : w.ownsRow base e 1 v n xs) (hm : w.ownsMap P k R b m D) : ¬ v.ownBlock = some b := fun h => by
  obtain ⟨es, c, hb, _⟩ := hm
  rcases ho.2 with ⟨rfl, _⟩ | ⟨g, cap, cur, rfl, _, hg, _⟩
  · cases h
  · cases h
    rw [hb] at hg
    cases hg
/-- an element of a map literal -/
theorem wpList_lit_own {P : Program} (w : World) {ops : Array Oper} {rest : List Oper} {o : Oper} {a : Act} {Q : Exit → Act → World → Prop} (ho : o.guard = none) (om ok ov : Operand) (t : TypeId) (hi : o.op = Op.insert t om ok ov)
    (k e : TypeId) (K : Keyed P k) (ht : P.underlying t = some (.map k e)) (R : Value → Option (DataW Unit × List MemPlace)) (b n : Nat) (D : DataW Unit) (h1 : a.eval om = .map (some b)) (hD : w.ownsMap P k R b n D) (hn : n < maxLen)
    (x y : Value) (l : Lit) (h2 : a.eval ok = x) (h3 : a.eval ov = y) (hl : keyOf P k x = some l) (d : DataW Unit) (hd : R y = some (d, []))
    (hQ : ∀ w', w'.ownsMap P k R b (n + 1) (D.put l d) → w.grownBy w' (some b) → wpList P ops Q rest (a.put o.dst undef) w') : wpList P ops Q (o :: rest) a w :=
  wpList_plain ho fun C hC => by
    obtain ⟨w', hr, p1, p2⟩ := hD.update K ht hn hl hd
    have hz := hQ w' p1 p2
    unfold Oper.wp
    simp [execOp, hi, h1, h2, h3, hr, Result.andThen]
    exact hC _ _ hz
end Go.Proofs.Ytjefddliebokaaa.Reply
