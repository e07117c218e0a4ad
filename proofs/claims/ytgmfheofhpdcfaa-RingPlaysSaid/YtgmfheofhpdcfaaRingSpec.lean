/-
  A row over a channel of pointers: how it lies in memory, and what putting and taking make of it. No program stands here.
-/
import Derived.Test.YtgmfheofhpdcfaaVals
import Derived.Test.YtgmfheofhpdcfaaFacts
import Derived.Conc.LoneSelect
import Derived.Conc.LoneSelectN
namespace Go.Proofs.Ytgmfheofhpdcfaa.Ring
open Go.RowKit Go.Conc Base

def ptr (p : Nat) : Value := .pointer (some ⟨p, 0, none⟩)
def ptrs (ps : List Nat) : Array Value := (ps.map ptr).toArray
theorem ptrs_size (ps : List Nat) : (ptrs ps).size = ps.length := by simp [ptrs]
theorem ptrs_push (ps : List Nat) (p : Nat) : (ptrs ps).push (ptr p) = ptrs (ps ++ [p]) := by simp [ptrs]
theorem ptrs_pop (p : Nat) (ps : List Nat) : (ptrs (p :: ps)).extract 1 (ptrs (p :: ps)).size = ptrs ps := by
  apply Array.ext'
  simp [ptrs]
  exact List.take_of_length_le (by simp)
theorem ptrs_head (p : Nat) (ps : List Nat) : (ptrs (p :: ps)).getD 0 undef = ptr p := by simp [ptrs]

/-- each of xs lies in a block of its own -/
def Lie (w : World) (E : TypeId) : List Nat → List Value → Prop
  | [], [] => True
  | p :: ps, x :: xs => w.heap[p]? = some (.cells x.cells E (0, 0)) ∧ Lie w E ps xs
  | _, _ => False
theorem Lie.length {w : World} {E : TypeId} : ∀ {ps : List Nat} {xs : List Value}, Lie w E ps xs → ps.length = xs.length
  | [], [], _ => rfl
  | _ :: ps, _ :: xs, h => by simp [Lie.length (ps := ps) (xs := xs) h.2]
  | [], _ :: _, h => h.elim
  | _ :: _, [], h => h.elim
theorem Lie.snoc {w : World} {E : TypeId} {p : Nat} {x : Value} (hp : w.heap[p]? = some (.cells x.cells E (0, 0))) : ∀ {ps : List Nat} {xs : List Value}, Lie w E ps xs → Lie w E (ps ++ [p]) (xs ++ [x])
  | [], [], _ => ⟨hp, trivial⟩
  | _ :: ps, _ :: xs, h => ⟨h.1, Lie.snoc hp (ps := ps) (xs := xs) h.2⟩
  | [], _ :: _, h => h.elim
  | _ :: _, [], h => h.elim
/-- all blocks of cells stand -/
def Keeps (w w' : World) : Prop := ∀ (b : Nat) (cs : Array Value) (t : TypeId) (fr : Nat × Nat), w.heap[b]? = some (.cells cs t fr) → w'.heap[b]? = some (.cells cs t fr)
theorem Keeps.refl (w : World) : Keeps w w := fun _ _ _ _ h => h
theorem Keeps.trans {a b c : World} (h : Keeps a b) (k : Keeps b c) : Keeps a c := fun _ _ _ _ x => k _ _ _ _ (h _ _ _ _ x)
theorem Keeps.of_fr0 {w w' : World} (h : Fr0 w w') : Keeps w w' := fun _ _ _ _ x => h.heap x (fun f => f)
theorem Keeps.gr {w w' : World} (h : Keeps w w') : Gr w w' := fun g c t fr hx => ⟨fr, h g c t fr hx⟩
theorem Lie.keeps {w w' : World} {E : TypeId} (hk : Keeps w w') : ∀ {ps : List Nat} {xs : List Value}, Lie w E ps xs → Lie w' E ps xs
  | [], [], _ => trivial
  | _ :: ps, _ :: xs, h => ⟨hk _ _ _ _ h.1, Lie.keeps hk (ps := ps) (xs := xs) h.2⟩
  | [], _ :: _, h => h.elim
  | _ :: _, [], h => h.elim

/-- block c is a channel -/
def IsChan (w : World) (c : Nat) : Prop := ∃ (cap : Nat) (buf : Array Value) (cl : Bool) (s r : Nat) (tm : Bool), w.heap[c]? = some (.chan cap buf cl s r tm)
/-- only a channel has turned: all cells stand -/
theorem Keeps.of_fr1 {w w' : World} {c : Nat} (h : Fr1 c w w') (hc : IsChan w c) : Keeps w w' := fun b cs t fr x => by
  refine h.heap x (fun e => ?_)
  obtain ⟨cap, buf, cl, s, r, tm, hx⟩ := hc
  have e' : b = c := e
  subst e'
  rw [x] at hx
  cases hx
theorem setChan_heap_ne (w : World) (c c' cap : Nat) (buf : Array Value) (cl : Bool) (s r : Nat) (tm : Bool) (h : c' ≠ c) : (w.setChan c cap buf cl s r tm).heap[c']? = w.heap[c']? := by
  simp only [World.setChan]
  rw [Array.getElem?_setIfInBounds_ne (by omega)]
theorem fr1_setChan {w0 w : World} {c : Nat} (h : Fr1 c w0 w) (cap : Nat) (buf : Array Value) (cl : Bool) (s r : Nat) (tm : Bool) : Fr1 c w0 (w.setChan c cap buf cl s r tm) :=
  h.trans' ⟨rfl, rfl, rfl, by simp [World.setChan], fun k _ hk => setChan_heap_ne _ _ _ _ _ _ _ _ _ hk⟩

/-- a row's object lies at g, its channel at c; there is room for cap; xs wait, each in its own of the blocks ps -/
structure RowAt (w : World) (g c : Nat) (T E : TypeId) (cap : Nat) (ps : List Nat) (xs : List Value) : Prop where
  obj : w.heap[g]? = some (.cells #[.chan (some c)] T (0, 0))
  le : xs.length ≤ cap
  big : cap ≤ 4096
  row : ∃ s r : Nat, w.heap[c]? = some (.chan cap (ptrs ps) false s r false)
  lie : Lie w E ps xs
theorem Lie.lt {w : World} {E : TypeId} : ∀ {ps : List Nat} {xs : List Value}, Lie w E ps xs → ∀ p ∈ ps, p < w.heap.size
  | [], [], _ => fun p hp => by cases hp
  | q :: ps, _ :: xs, h => fun p hp => by
    rcases List.mem_cons.1 hp with rfl | hp
    · exact lt_of_heap h.1
    · exact Lie.lt (ps := ps) (xs := xs) h.2 p hp
  | [], _ :: _, h => h.elim
  | _ :: _, [], h => h.elim
theorem Lie.fr {S : Nat → Prop} {w w' : World} {E : TypeId} (hf : Fr S w w') : ∀ {ps : List Nat} {xs : List Value}, (∀ p ∈ ps, ¬ S p) → Lie w E ps xs → Lie w' E ps xs
  | [], [], _, _ => trivial
  | _ :: ps, _ :: xs, hs, h => ⟨hf.heap h.1 (hs _ (by simp)), Lie.fr hf (ps := ps) (xs := xs) (fun p hp => hs p (by simp [hp])) h.2⟩
  | [], _ :: _, _, h => h.elim
  | _ :: _, [], _, h => h.elim
namespace RowAt
variable {w w' : World} {g c : Nat} {T E : TypeId} {cap : Nat} {ps : List Nat} {xs : List Value}
theorem chan (h : RowAt w g c T E cap ps xs) : IsChan w c := by
  obtain ⟨s, r, hc⟩ := h.row
  exact ⟨_, _, _, _, _, _, hc⟩
theorem lt (h : RowAt w g c T E cap ps xs) : c < w.heap.size := by
  obtain ⟨s, r, hc⟩ := h.row
  exact lt_of_heap hc
theorem cell (h : RowAt w g c T E cap ps xs) : w.cell? ⟨g, 0, none⟩ = some (.chan (some c)) := by
  rw [cell_of_row _ _ _ _ _ _ h.obj]; rfl
theorem fr {S : Nat → Prop} (h : RowAt w g c T E cap ps xs) (hf : Fr S w w') (hg : ¬ S g) (hc : ¬ S c) (hp : ∀ p ∈ ps, ¬ S p) : RowAt w' g c T E cap ps xs := by
  obtain ⟨s, r, hcc⟩ := h.row
  exact ⟨hf.heap h.obj hg, h.le, h.big, ⟨s, r, hf.heap hcc hc⟩, h.lie.fr hf hp⟩
theorem fr0 (h : RowAt w g c T E cap ps xs) (hf : Fr0 w w') : RowAt w' g c T E cap ps xs := h.fr hf (fun f => f) (fun f => f) (fun _ _ f => f)
/-- another row's channel has turned -/
theorem fr1 {c' : Nat} (h : RowAt w g c T E cap ps xs) (hf : Fr1 c' w w') (hc' : IsChan w c') (hne : c ≠ c') : RowAt w' g c T E cap ps xs := by
  obtain ⟨s, r, hc⟩ := h.row
  have hk := Keeps.of_fr1 hf hc'
  exact ⟨hk _ _ _ _ h.obj, h.le, h.big, ⟨s, r, hf.heap hc hne⟩, h.lie.keeps hk⟩
/-- a block of cells that is none of the row's has turned -/
theorem frB {b : Nat} (h : RowAt w g c T E cap ps xs) (hf : Fr1 b w w') (hg : g ≠ b) (hb : ∃ cs t fr, w.heap[b]? = some (.cells cs t fr)) (hp : b ∉ ps) : RowAt w' g c T E cap ps xs := by
  refine h.fr hf hg (fun e => ?_) (fun p hpp e => hp (by have e' : p = b := e; rwa [← e']))
  obtain ⟨cap', buf, cl, s, r, tm, hx⟩ := h.chan
  obtain ⟨cs, t, fr, hy⟩ := hb
  have e' : c = b := e
  subst e'
  rw [hx] at hy
  cases hy
end RowAt
/-- one more waits -/
theorem row_push {w : World} {g c : Nat} {T E : TypeId} {cap : Nat} {xs : List Value} {ps : List Nat} {s r : Nat} (hg : w.heap[g]? = some (.cells #[.chan (some c)] T (0, 0))) (hbig : cap ≤ 4096)
    (hc : w.heap[c]? = some (.chan cap (ptrs ps) false s r false)) (hl : Lie w E ps xs) (hroom : xs.length < cap) (v : Value) (s' r' : Nat) :
    RowAt ((w.alloc (.cells v.cells E)).setChan c cap (ptrs (ps ++ [w.heap.size])) false s' r' false) g c T E cap (ps ++ [w.heap.size]) (xs ++ [v]) := by
  have hcl := lt_of_heap hc
  have hk : Keeps w ((w.alloc (.cells v.cells E)).setChan c cap (ptrs (ps ++ [w.heap.size])) false s' r' false) := Keeps.of_fr1 (c := c) (fr1_setChan ((Fr.refl _ _).alloc _) _ _ _ _ _ _) ⟨_, _, _, _, _, _, hc⟩
  refine ⟨hk _ _ _ _ hg, by simp; omega, hbig, ⟨s', r', heap_setChan _ _ _ _ _ _ _ _ (by simp; omega)⟩, Lie.snoc ?_ (hl.keeps hk)⟩
  rw [setChan_heap_ne _ _ _ _ _ _ _ _ _ (by omega)]
  exact heap_alloc_new w _
/-- the first is gone, whatever else was made and turned of new memory -/
theorem row_pop {w w' : World} {g c : Nat} {T E : TypeId} {cap : Nat} {x : Value} {xs : List Value} {p : Nat} {ps : List Nat} {s r s' r' : Nat} (hg : w.heap[g]? = some (.cells #[.chan (some c)] T (0, 0))) (hbig : cap ≤ 4096) (hle : (x :: xs).length ≤ cap)
    (hc : w.heap[c]? = some (.chan cap (ptrs (p :: ps)) false s r false)) (hl : Lie w E (p :: ps) (x :: xs)) (hf : Fr1 c w w') (hc' : w'.heap[c]? = some (.chan cap (ptrs ps) false s' r' false)) : RowAt w' g c T E cap ps xs := by
  have hk := Keeps.of_fr1 hf ⟨_, _, _, _, _, _, hc⟩
  exact ⟨hk _ _ _ _ hg, by simp at hle; omega, hbig, ⟨s', r', hc'⟩, hl.2.keeps hk⟩
/-- most, held to its bounds -/
def held (m : Int) : Nat := (min (max m 1) 4096).toNat
theorem held_int (m : Int) : ((held m : Nat) : Int) = min (max m 1) 4096 := by unfold held; omega
theorem held_le (m : Int) : held m ≤ 4096 := by unfold held; omega
theorem held_pos (m : Int) : 1 ≤ held m := by unfold held; omega
/-- a new one -/
theorem row_new (w : World) (T E : TypeId) (cap : Nat) (hbig : cap ≤ 4096) (N M : Nat) (hN : N = w.heap.size) (hM : M = w.heap.size + 1) :
    RowAt ((w.alloc (.chan cap #[] false 0 0 false)).alloc (.cells #[.chan (some N)] T)) M N T E cap [] [] := by
  subst hN hM
  refine ⟨?_, Nat.zero_le _, hbig, ⟨0, 0, ?_⟩, trivial⟩
  · have := heap_alloc_new (w.alloc (.chan cap #[] false 0 0 false)) (.cells #[.chan (some w.heap.size)] T)
    simpa only [World.size_alloc] using this
  · rw [Below.heap_alloc _ _ _ (by simp)]
    exact heap_alloc_new w _
/-- what a call does to a block that was not there before is no business of the caller's -/
theorem fr0_of_fr1 {w0 w w' : World} {g : Nat} (h : Fr0 w0 w) (h1 : Fr1 g w w') (hg : w0.heap.size ≤ g) : Fr0 w0 w' := h.trans h1 (fun i hi e => by have e' : i = g := e; omega)
/-- what is owned stays owned where only a channel turns -/
theorem owns_fr1 {w w' : World} {base : Nat} {e : TypeId} {size : Nat} {v : Value} {n : Nat} {xs : List Value} {c : Nat} (h : w.ownsRow base e size v n xs) (hf : Fr1 c w w') (hc : IsChan w c) : w'.ownsRow base e size v n xs := by
  refine ⟨h.1, ?_⟩
  rcases h.2 with hn | ⟨g, cap, cur, rfl, hb, hgg, rest⟩
  · exact .inl hn
  · exact .inr ⟨g, cap, cur, rfl, hb, Keeps.of_fr1 hf hc _ _ _ _ hgg, rest⟩
end Go.Proofs.Ytgmfheofhpdcfaa.Ring
