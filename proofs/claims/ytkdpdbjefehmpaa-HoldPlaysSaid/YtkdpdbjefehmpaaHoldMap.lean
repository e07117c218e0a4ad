/-
  A map from ints to whatever values, as a list of (number, value) rising in its numbers. No program stands here.
-/
import Derived.Test.YtkdpdbjefehmpaaBase
import Derived.Maps.Own
import Derived.Maps.OwnOps
import Derived.Maps.OwnSet
import Derived.Maps.Range
import Derived.Sort.KeysCollected
import Derived.Shelf.SlIterI.Nil
namespace Go.Proofs.Ytkdpdbjefehmpaa.Hold
open Go.RowKit Base Go.WideMaps Go.Maps

def key (n : Int) : Lit := .int .i64 n
/-- what the map reads as: the values themselves -/
def ms (l : List (Int × Value)) : List (Lit × DataW Value) := l.map fun p => (key p.1, .held p.2)
/-- a place: a list of blocks, how many bytes -/
def mkV (p : Option Addr × Nat × Nat × Int) : Value := .agg #[.slice p.1 p.2.1 p.2.2.1, .int .i64 p.2.2.2]
def RV : Value → Option (DataW Value × List MemPlace)
  | .agg ⟨[.slice a n c, .int .i64 s]⟩ => some (.held (.agg #[.slice a n c, .int .i64 s]), [])
  | _ => none
theorem RV_mk (p : Option Addr × Nat × Nat × Int) : RV (mkV p) = some (.held (mkV p), []) := rfl
theorem RV_inv {v : Value} {z : DataW Value × List MemPlace} (h : RV v = some z) : ∃ p, v = mkV p ∧ z = (.held v, []) := by
  unfold RV at h
  split at h
  · cases h; exact ⟨⟨_, _, _, _⟩, rfl, rfl⟩
  · cases h
theorem invV (v : Value) (y : DataW Value × List MemPlace) (h : RV v = some y) : ∃ p, v = mkV p := by obtain ⟨p, h, _⟩ := RV_inv h; exact ⟨p, h⟩
def Rising (l : List (Int × Value)) : Prop := l.Pairwise fun a b => a.1 < b.1
theorem key_same (a b : Int) : (key a).sameKey (key b) = decide (a = b) := by
  unfold key Lit.sameKey
  by_cases h : a = b
  · subst h; simp
  · rw [decide_eq_false h]; simp; omega
theorem key_before (a b : Int) : (key a).before (key b) = decide (a < b) := by
  unfold key Lit.before
  by_cases h : a < b
  · rw [decide_eq_true h]; exact decide_eq_true (by omega)
  · rw [decide_eq_false h]; exact decide_eq_false (by omega)
theorem insert_last (n : Int) (d : DataW Value) : ∀ l : List (Int × Value), (∀ a ∈ l, a.1 < n) → DataW.insert (key n, d) (ms l) = ms l ++ [(key n, d)]
  | [], _ => rfl
  | a :: l, h => by
    have h0 := h a (by simp)
    show (if (key n).before (key a.1) = true then _ else _) = _
    rw [key_before, decide_eq_false (by omega), if_neg (by decide)]
    show _ :: DataW.insert (key n, d) (ms l) = _
    rw [insert_last n d l (fun b hb => h b (by simp [hb]))]
    rfl
theorem map_put {l : List (Int × Value)} {n : Int} (v : Value) (h : ∀ a ∈ l, a.1 < n) : (DataW.map (ms l)).put (key n) (.held v) = .map (ms (l ++ [(n, v)])) := by
  show DataW.map (DataW.insert (key n, .held v) ((ms l).filter fun p => !p.1.sameKey (key n))) = _
  have hf : (ms l).filter (fun p => !p.1.sameKey (key n)) = ms l := by
    rw [List.filter_eq_self]
    intro p hp
    obtain ⟨a, ha, rfl⟩ := List.mem_map.1 hp
    have := h a ha
    simp only [key_same, Bool.not_eq_true', decide_eq_false_iff_not]
    omega
  rw [hf, insert_last n _ l h]
  simp [ms]
theorem map_has (n : Int) : ∀ l : List (Int × Value), Maps.has (DataW.map (ms l)) (key n) = l.any fun p => p.1 == n
  | [] => rfl
  | a :: l => by
    have ih := map_has n l
    show ((key a.1).sameKey (key n) || (ms l).any fun p => p.1.sameKey (key n)) = _
    rw [List.any_cons, key_same]
    have : (ms l).any (fun p => p.1.sameKey (key n)) = l.any fun p => p.1 == n := ih
    rw [this]
    congr 1
theorem map_at (n : Int) (z : DataW Value) : ∀ l : List (Int × Value), (DataW.map (ms l)).atKey (key n) z = match l.find? fun p => p.1 == n with | some p => .held p.2 | none => z
  | [] => by simp [DataW.atKey, ms]
  | a :: l => by
    have ih := map_at n z l
    simp only [DataW.atKey] at ih ⊢
    by_cases h : a.1 = n
    · rw [show ms (a :: l) = (key a.1, .held a.2) :: ms l from rfl, List.find?_cons_of_pos (by simp [key_same, h]), List.find?_cons_of_pos (by simp [h])]
    · rw [show ms (a :: l) = (key a.1, .held a.2) :: ms l from rfl, List.find?_cons_of_neg (by simp [key_same, h]), List.find?_cons_of_neg (by simp [h]), ih]
theorem map_del (n : Int) (l : List (Int × Value)) : (DataW.map (ms l)).del (key n) = .map (ms (l.filter fun p => !(p.1 == n))) := by
  show DataW.map ((ms l).filter fun p => !p.1.sameKey (key n)) = _
  congr 1
  induction l with
  | nil => rfl
  | cons a l ih =>
    have e : ms (a :: l) = (key a.1, .held a.2) :: ms l := rfl
    rw [e]
    by_cases h : a.1 = n
    · rw [List.filter_cons_of_neg (by simp [key_same, h]), List.filter_cons_of_neg (by simp [h]), ih]
    · rw [List.filter_cons_of_pos (by simp [key_same, h]), List.filter_cons_of_pos (by simp [h]), ih]
      rfl
theorem map_size (l : List (Int × Value)) : Maps.size (DataW.map (ms l)) = l.length := by simp [Maps.size, ms]
theorem fr_map {S : Nat → Prop} {a c : World} (h : Fr S a c) {H : Type} {P : Program} {k : TypeId} {R : Value → Option (DataW H × List MemPlace)} {b n : Nat} {D : DataW H} (hs : ¬ S b) (hm : a.ownsMap P k R b n D) : c.ownsMap P k R b n D := by
  obtain ⟨es, clock, hb, rest⟩ := hm
  exact ⟨es, clock, h.heap hb hs, rest⟩
theorem map_block {H : Type} {P : Program} {w : World} {k : TypeId} {R : Value → Option (DataW H × List MemPlace)} {b n : Nat} {D : DataW H} (hm : w.ownsMap P k R b n D) : ∃ es c, w.heap[b]? = some (.map es c) := by
  obtain ⟨es, clock, hb, _⟩ := hm
  exact ⟨es, clock, hb⟩
theorem ne_of_row {H : Type} {P : Program} {w : World} {k t : TypeId} {R : Value → Option (DataW H × List MemPlace)} {b n g m : Nat} {D : DataW H} {f : Nat → Value} (hm : w.ownsMap P k R b n D) (hr : w.rowIs g t m f) : b ≠ g := fun e => by
  obtain ⟨es, c, h⟩ := map_block hm
  have := row_cells hr
  rw [← e, h] at this
  cases this
/-- the keys of what it reads as -/
theorem intKeys_ms (l : List (Int × Value)) : intKeys (DataW.map (ms l)) = l.map (·.1) := by
  show (ms l).map _ = _
  unfold ms
  rw [List.map_map]
  rfl
theorem perm_rising {l : List Int} (h : l.Pairwise (· < ·)) {ss : List Int} (hp : ss.Perm l) : ss.mergeSort (fun x y => decide (x ≤ y)) = l := by
  have hle : ∀ a b c : Int, decide (a ≤ b) = true → decide (b ≤ c) = true → decide (a ≤ c) = true := fun a b c h1 h2 => by simp only [decide_eq_true_eq] at *; omega
  have htot : ∀ a b : Int, (decide (a ≤ b) || decide (b ≤ a)) = true := fun a b => by simp only [Bool.or_eq_true, decide_eq_true_eq]; omega
  have h1 : (ss.mergeSort fun x y => decide (x ≤ y)).Pairwise (fun a b => decide (a ≤ b) = true) := List.pairwise_mergeSort hle htot ss
  have h2 : l.Pairwise (fun a b => decide (a ≤ b) = true) := h.imp fun h => by simp only [decide_eq_true_eq]; omega
  refine List.Perm.eq_of_pairwise (le := fun a b => decide (a ≤ b) = true) (fun a b _ _ h3 h4 => by simp only [decide_eq_true_eq] at h3 h4; omega) h1 h2 ((List.mergeSort_perm _ _).trans hp)
theorem fr_ranges {S : Nat → Prop} {a c : World} (h : Fr S a c) {H : Type} {P : Program} {k : TypeId} {R : Value → Option (DataW H × List MemPlace)} {b r n : Nat} {D : DataW H} {left : Lit → Bool} {cnt : Nat} (hb : ¬ S b) (hr : ¬ S r) (hm : a.ranges P k R b r n D left cnt) : c.ranges P k R b r n D left cnt := by
  obtain ⟨es, clock, since, seen, c0, h1, h2, h3, h4, h5, rest⟩ := hm
  exact ⟨es, clock, since, seen, c0, h.heap h1 hb, h2, h3, h4, h.heap h5 hr, rest⟩
/-- who is at a key -/
theorem at_mem {l : List (Int × Value)} {n : Int} {v : Value} (h : ∀ z, (DataW.map (ms l)).atKey (key n) z = .held v) : (n, v) ∈ l := by
  have h0 := h .nil
  rw [map_at] at h0
  cases hf : l.find? (fun p => p.1 == n) with
  | none => rw [hf] at h0; cases h0
  | some p =>
    rw [hf] at h0
    simp only [DataW.held.injEq] at h0
    have h1 := List.mem_of_find?_eq_some hf
    have h2 := List.find?_some hf
    simp only [beq_iff_eq] at h2
    obtain ⟨a, b⟩ := p
    simp only at h0 h2
    subst h0 h2
    exact h1
end Go.Proofs.Ytkdpdbjefehmpaa.Hold
