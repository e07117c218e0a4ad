/-
  A map[int]bool that holds true at a rising list of numbers. No program stands here.
-/
import Derived.Test.YtagniipldmagdaaBlkSpec
import Derived.Maps.Own
import Derived.Maps.OwnOps
import Derived.Maps.OwnSet
namespace Go.Proofs.Ytagniipldmagdaa.Blocks
open Go.RowKit Base Go.WideMaps Go.Maps

def ikey (n : Nat) : Lit := .int .i64 (n : Int)
def btrue : DataW Unit := .lit (.bool true)
/-- what the set reads as -/
def mset (l : List Nat) : List (Lit × DataW Unit) := l.map fun n => (ikey n, btrue)
theorem ikey_same (a b : Nat) : (ikey a).sameKey (ikey b) = decide (a = b) := by
  unfold ikey Lit.sameKey
  by_cases h : a = b
  · subst h; simp
  · rw [decide_eq_false h]; simp; omega
theorem ikey_before (a b : Nat) : (ikey a).before (ikey b) = decide (a < b) := by
  unfold ikey Lit.before
  by_cases h : a < b
  · rw [decide_eq_true h]; exact decide_eq_true (by omega)
  · rw [decide_eq_false h]; exact decide_eq_false (by omega)
theorem insert_last (n : Nat) (d : DataW Unit) : ∀ l : List Nat, (∀ a ∈ l, a < n) → DataW.insert (ikey n, d) (mset l) = mset l ++ [(ikey n, d)]
  | [], _ => rfl
  | a :: l, h => by
    have h0 := h a (by simp)
    show (if (ikey n).before (ikey a) = true then _ else _) = _
    rw [ikey_before, decide_eq_false (by omega), if_neg (by decide)]
    show _ :: DataW.insert (ikey n, d) (mset l) = _
    rw [insert_last n d l (fun b hb => h b (by simp [hb]))]
    rfl
theorem set_put {l : List Nat} {n : Nat} (h : ∀ a ∈ l, a < n) : (DataW.map (mset l)).put (ikey n) btrue = .map (mset (l ++ [n])) := by
  show DataW.map (DataW.insert (ikey n, btrue) ((mset l).filter fun p => !p.1.sameKey (ikey n))) = _
  have hf : (mset l).filter (fun p => !p.1.sameKey (ikey n)) = mset l := by
    rw [List.filter_eq_self]
    intro p hp
    obtain ⟨a, ha, rfl⟩ := List.mem_map.1 hp
    have := h a ha
    simp only [ikey_same, Bool.not_eq_true', decide_eq_false_iff_not]
    omega
  rw [hf, insert_last n _ l h]
  simp [mset]
theorem set_at (b : Nat) : ∀ l : List Nat, (DataW.map (mset l)).atKey (ikey b) (.lit (.bool false)) = .lit (.bool (decide (b ∈ l)))
  | [] => by simp [DataW.atKey, mset]
  | a :: l => by
    have ih := set_at b l
    simp only [DataW.atKey] at ih ⊢
    by_cases h : a = b
    · subst h
      rw [show mset (a :: l) = (ikey a, btrue) :: mset l from rfl, List.find?_cons_of_pos (by simp [ikey_same])]
      simp [btrue]
    · rw [show mset (a :: l) = (ikey a, btrue) :: mset l from rfl, List.find?_cons_of_neg (by simp [ikey_same, h]), ih]
      simp [show ¬ b = a from fun e => h e.symm]
theorem plainElem_bool_inv {H : Type} {P : Program} {e : TypeId} (he : P.underlying e = some .bool) {v : Value} {z : DataW H × List MemPlace} (h : plainElem P e v = some z) : ∃ x, v = .bool x ∧ z = (.lit (.bool x), []) := by
  unfold plainElem at h
  rw [he] at h
  cases v <;> simp at h
  subst h
  exact ⟨_, rfl, rfl⟩
/-- asked without ok -/
theorem lookup_bool {P : Program} {w : World} {t k e : TypeId} {b n : Nat} {l : List Nat} (h : w.ownsMap P k (plainElem (H := Unit) P e) b n (.map (mset l))) (K : Keyed P k) (ht : P.underlying t = some (.map k e)) (he : P.underlying e = some .bool) (hz : (zeroValue e).run P w = .ok (.bool false) w)
    {key : Value} {j : Nat} (hkey : keyOf P k key = some (ikey j)) : (Instr.lookup t (.map (some b)) key false).run P w = .ok (.bool (decide (j ∈ l))) w := by
  obtain ⟨v, ps, hrun, hv⟩ := h.lookup K ht hz (plainElem_bool he false) hkey
  obtain ⟨x, rfl, hc⟩ := plainElem_bool_inv he hv
  rw [set_at] at hc
  simp only [Prod.mk.injEq, DataW.lit.injEq, Lit.bool.injEq] at hc
  rw [hrun, hc.1]
theorem fr0_map {a c : World} (h : Fr0 a c) {P : Program} {k : TypeId} {R : Value → Option (DataW Unit × List MemPlace)} {b n : Nat} {D : DataW Unit} (hm : a.ownsMap P k R b n D) : c.ownsMap P k R b n D := by
  obtain ⟨es, clock, hb, rest⟩ := hm
  exact ⟨es, clock, h.heap hb (fun f => f), rest⟩
/-- a map stands where rows turn; rows stand where a map turns -/
theorem fr_map {S : Nat → Prop} {a c : World} (h : Fr S a c) {P : Program} {k : TypeId} {R : Value → Option (DataW Unit × List MemPlace)} {b n : Nat} {D : DataW Unit} (hs : ¬ S b) (hm : a.ownsMap P k R b n D) : c.ownsMap P k R b n D := by
  obtain ⟨es, clock, hb, rest⟩ := hm
  exact ⟨es, clock, h.heap hb hs, rest⟩
end Go.Proofs.Ytagniipldmagdaa.Blocks
