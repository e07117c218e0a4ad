/-
  A map from strings that reads as a function (bools, ints, strings; what is not there: false, 0, none). No program stands here.
-/
import Derived.Test.YtnglmkombogheaaGround
import Derived.Maps.Own
import Derived.Maps.OwnOps
import Derived.Maps.OwnSet
import Derived.Maps.Views
import Derived.Maps.StringElems
import Derived.StringKeys
namespace Go.Proofs.Ytnglmkombogheaa.Base
open Go.RowKit Go.WideMaps Go.Maps

def skey (s : ByteArray) : Lit := .string s.data.toList
theorem skey_inj {a b : ByteArray} (h : skey a = skey b) : a = b := by
  unfold skey at h
  simp only [Lit.string.injEq] at h
  cases a; cases b
  simp only [ByteArray.mk.injEq]
  exact Array.toList_inj.1 h
theorem skey_is (s : ByteArray) : WideAt.IsKeyLit (skey s) := trivial
/-- the map at b reads as f; n: how many have been put in, at most -/
def FnMap {α : Type} (enc : α → DataW Unit) (P : Program) (w : World) (k e : TypeId) (z : α) (b n : Nat) (f : ByteArray → α) : Prop :=
  ∃ D, IsMap D ∧ w.ownsMap P k (plainElem (H := Unit) P e) b n D ∧ ∀ s, D.atKey (skey s) (enc z) = enc (f s)
section
variable {α : Type} {enc : α → DataW Unit} {P : Program} {w w' : World} {k e : TypeId} {z : α} {b n : Nat} {f : ByteArray → α}
theorem FnMap.made (w : World) (P : Program) (k e : TypeId) (z : α) : FnMap enc P (w.alloc (.map #[] 0)) k e z w.heap.size 0 (fun _ => z) :=
  ⟨_, isMap_empty, World.ownsMap_made w P k _, fun s => rfl⟩
theorem FnMap.lt (h : FnMap enc P w k e z b n f) : b < w.heap.size := by
  obtain ⟨D, _, ⟨es, clock, hb, _⟩, _⟩ := h
  exact lt_of_heap hb
theorem FnMap.fr {S : Nat → Prop} (h : FnMap enc P w k e z b n f) (hf : Fr S w w') (hs : ¬ S b) : FnMap enc P w' k e z b n f := by
  obtain ⟨D, h1, ⟨es, clock, hb, rest⟩, h2⟩ := h
  exact ⟨D, h1, ⟨es, clock, hf.heap hb hs, rest⟩, h2⟩
theorem FnMap.fr0 (h : FnMap enc P w k e z b n f) (hf : Fr0 w w') : FnMap enc P w' k e z b n f := h.fr hf (fun f => f)
theorem FnMap.cells (h : FnMap enc P w k e z b n f) {g : Nat} {cs : Array Value} {t : TypeId} {fr : Nat × Nat} (hg : w.heap[g]? = some (.cells cs t fr)) : g ≠ b := fun e => by
  obtain ⟨D, _, ⟨es, clock, hb, _⟩, _⟩ := h
  subst e
  rw [hb] at hg
  cases hg
/-- what mapUpdate leaves -/
theorem FnMap.put {D : DataW Unit} {s : ByteArray} {v : α} (h1 : IsMap D) (h2 : ∀ x, D.atKey (skey x) (enc z) = enc (f x)) (h : w'.ownsMap P k (plainElem (H := Unit) P e) b (n + 1) (D.put (skey s) (enc v))) : FnMap enc P w' k e z b (n + 1) (fun x => if x = s then v else f x) := by
  refine ⟨_, h1.put _ _, h, fun x => ?_⟩
  show (D.put (skey s) (enc v)).atKey (skey x) (enc z) = enc (if x = s then v else f x)
  by_cases hx : x = s
  · subst hx
    rw [if_pos rfl, atKey_put_same h1 (skey_is x)]
  · rw [if_neg hx, atKey_put_other (fun e => hx (skey_inj e)), h2]
end
def encB (b : Bool) : DataW Unit := .lit (.bool b)
def encI (x : Int) : DataW Unit := .lit (.int .i64 x)
abbrev BoolMap (P : Program) (w : World) (k e : TypeId) (b n : Nat) (f : ByteArray → Bool) : Prop := FnMap encB P w k e false b n f
abbrev IntMap (P : Program) (w : World) (k e : TypeId) (b n : Nat) (f : ByteArray → Int) : Prop := FnMap encI P w k e 0 b n f
section
variable {P : Program} {w : World} {t k e : TypeId} {b n : Nat}
theorem elemBool_inv (he : P.underlying e = some .bool) {v : Value} {z : DataW Unit × List MemPlace} (h : plainElem (H := Unit) P e v = some z) : ∃ x, v = .bool x ∧ z = (.lit (.bool x), []) := by
  unfold plainElem at h
  rw [he] at h
  cases v <;> simp at h
  subst h
  exact ⟨_, rfl, rfl⟩
/-- asked without ok -/
theorem BoolMap.at {f : ByteArray → Bool} (h : BoolMap P w k e b n f) (hk : P.underlying k = some .string) (ht : P.underlying t = some (.map k e)) (he : P.underlying e = some .bool) (hz : (zeroValue e).run P w = .ok (.bool false) w) (s : ByteArray) (hs : s.size ≤ maxLen) :
    (Instr.lookup t (.map (some b)) (.string s) false).run P w = .ok (.bool (f s)) w := by
  obtain ⟨D, _, ho, hf⟩ := h
  obtain ⟨v, ps, hrun, hv⟩ := ho.lookup (string_keyed hk) ht hz (plainElem_bool he false) (keyOf_string_mk hk hs)
  obtain ⟨x, rfl, hc⟩ := elemBool_inv he hv
  have h1 : D.atKey (skey s) (encB false) = encB (f s) := hf s
  have h2 : D.atKey (skey s) (encB false) = .lit (.bool x) := by
    simp only [Prod.mk.injEq] at hc
    exact hc.1
  rw [h1] at h2
  unfold encB at h2
  simp only [DataW.lit.injEq, Lit.bool.injEq] at h2
  rw [hrun, h2]
theorem IntMap.at {f : ByteArray → Int} (h : IntMap P w k e b n f) (hk : P.underlying k = some .string) (ht : P.underlying t = some (.map k e)) (he : P.underlying e = some (.int .i64)) (hz : (zeroValue e).run P w = .ok (.int .i64 0) w) (s : ByteArray) (hs : s.size ≤ maxLen) :
    (Instr.lookup t (.map (some b)) (.string s) false).run P w = .ok (.int .i64 (f s)) w := by
  obtain ⟨D, _, ho, hf⟩ := h
  obtain ⟨c, hrun, hc, _⟩ := ho.lookup_int (string_keyed hk) ht he hz (keyOf_string_mk hk hs)
  have h1 : D.atKey (skey s) (encI 0) = encI (f s) := hf s
  have h2 : D.atKey (skey s) (encI 0) = .lit (.int .i64 c) := hc
  rw [h1] at h2
  unfold encI at h2
  simp only [DataW.lit.injEq, Lit.int.injEq, true_and] at h2
  rw [hrun, h2]
end
section
variable {P : Program} {Q : Exit → Act → World → Prop}
/-- one is put in -/
theorem wpList_put_fn {α : Type} {enc : α → DataW Unit} {w : World} {ops : Array Oper} {rest : List Oper} {o : Oper} {a : Act} (hg : o.guard = none) (m x v : Operand) (t : TypeId) (hop : o.op = Op.mapUpdate t m x v) (k e : TypeId) (hk : P.underlying k = some .string) (ht : P.underlying t = some (.map k e)) (z : α) (b n : Nat) (f : ByteArray → α)
    (hm : a.eval m = .map (some b)) (h : FnMap enc P w k e z b n f) (hn : n < maxLen) (s : ByteArray) (hs : s.size ≤ maxLen) (u : α) (val : Value) (hx : a.eval x = .string s) (hv : a.eval v = val) (hval : plainElem (H := Unit) P e val = some (enc u, []))
    (hK : ∀ w', FnMap enc P w' k e z b (n + 1) (fun x => if x = s then u else f x) → w.grownBy w' (some b) → wpList P ops Q rest (a.put o.dst undef) w') : wpList P ops Q (o :: rest) a w := by
  obtain ⟨D, h1, ho, h2⟩ := h
  exact wpList_mapUpdate_own w hg m x v t hop k e (string_keyed hk) ht _ b n D hm ho hn _ val _ hx hv (keyOf_string_mk hk hs) (enc u) [] hval (fun w' h3 h4 => hK w' (FnMap.put h1 h2 h3) h4)
end
end Go.Proofs.Ytnglmkombogheaa.Base
