/-
  Two holds of the program's and two of the reference's, side by side on their arenas: which block is whose; their calls.
-/
import Derived.Test.YtkdpdbjefehmpaaHoldOneX
import Derived.Test.YtkdpdbjefehmpaaHoldRefDrop

namespace Go.Proofs.Ytkdpdbjefehmpaa.Hold
open Go.RowKit Base Go.Maps Arena
open Blocks (BlkR whole whole_le frees nints nvals tout took terr give gave gerr)

/-- what stays the same -/
structure Cs where
  ga : Nat
  pb : Nat
  cb : Nat
  wa : Nat
  wb : Nat
  wc : Nat
  L : List Int
  G : Nat → Nat
  V : Nat → Nat
/-- what one side's holds hold -/
structure Vs where
  b : List UInt8
  O : Nat → List Bool
  p : Nat → Nat
  es : Nat → List Ent
def upd {α : Type} (f : Nat → α) (i : Nat) (a : α) : Nat → α := fun j => if j = i then a else f j
theorem upd_self {α : Type} (f : Nat → α) (i : Nat) (a : α) : upd f i a i = a := if_pos rfl
theorem upd_ne {α : Type} (f : Nat → α) {i j : Nat} (a : α) (h : j ≠ i) : upd f i a j = f j := if_neg h
theorem upd_same {α : Type} (f : Nat → α) (i : Nat) : upd f i (f i) = f := by
  funext j
  unfold upd
  split
  · rename_i h; rw [h]
  · rfl
def strip (e : Ent) : Int × List UInt8 × List Nat := (e.id, e.x, e.T)
def outT (id : Int) (es : List Ent) : List Nat := match find id es with
  | some d => d.T
  | none => []
def getX (id : Int) (es : List Ent) : List UInt8 := match find id es with
  | some d => d.x
  | none => []
def err (id : Int) (es : List Ent) : Int := match find id es with
  | some _ => 0
  | none => 7
def pq (O : List Bool) (p n : Nat) : Int := if need n ≤ (frees O).length then (p : Int) + 1 else 0
def pe (O : List Bool) (n : Nat) : Int := if need n ≤ (frees O).length then 0 else 6
def Vs.put (L : List Int) (i : Nat) (x : List UInt8) (d : Ent) (s : Vs) : Vs :=
  if need x.length ≤ (frees (s.O i)).length then ⟨puts L i (tout (s.O i) (need x.length : Nat)) x (tout (s.O i) (need x.length : Nat)).length s.b, upd s.O i (took (s.O i) (need x.length : Nat)), upd s.p i (s.p i + 1), upd s.es i (s.es i ++ [d])⟩ else s
def Vs.drop (i : Nat) (id : Int) (s : Vs) : Vs := ⟨s.b, upd s.O i (gave (s.O i) (nints (outT id (s.es i)))), s.p, upd s.es i (Hold.drop id (s.es i))⟩
/-- both sides hold the same -/
structure Same (s t : Vs) : Prop where
  b : t.b = s.b
  O : t.O = s.O
  p : t.p = s.p
  es : ∀ i, (t.es i).map strip = (s.es i).map strip
theorem strip_find (id : Int) (es : List Ent) : (find id es).map strip = (es.map strip).find? fun q => q.1 == id := by
  unfold find
  rw [List.find?_map]
  rfl
theorem strip_drop (id : Int) (es : List Ent) : (Hold.drop id es).map strip = (es.map strip).filter fun q => !(q.1 == id) := by
  unfold Hold.drop
  rw [List.filter_map]
  rfl
section
variable {es fs : List Ent} (h : fs.map strip = es.map strip)
include h
theorem same_find (id : Int) : (find id fs).map strip = (find id es).map strip := by rw [strip_find, strip_find, h]
theorem same_outT (id : Int) : outT id fs = outT id es := by
  have := same_find h id
  unfold outT
  cases hf : find id fs <;> cases he : find id es <;> rw [hf, he] at this <;> simp [strip] at this
  exact this.2.2
theorem same_getX (id : Int) : getX id fs = getX id es := by
  have := same_find h id
  unfold getX
  cases hf : find id fs <;> cases he : find id es <;> rw [hf, he] at this <;> simp [strip] at this
  exact this.2.1
theorem same_err (id : Int) : err id fs = err id es := by
  have := same_find h id
  unfold err
  cases hf : find id fs <;> cases he : find id es <;> rw [hf, he] at this <;> simp [strip] at this <;> rfl
theorem same_ids : ids fs = ids es := by
  have h1 : (fs.map strip).map (·.1) = (es.map strip).map (·.1) := by rw [h]
  simpa [ids, strip, List.map_map, Function.comp_def] using h1
theorem same_live : live fs = live es := by
  have h1 : (fs.map strip).map (fun q => q.2.1.length) = (es.map strip).map (fun q => q.2.1.length) := by rw [h]
  unfold live
  simpa [strip, List.map_map, Function.comp_def] using congrArg List.sum h1
end
theorem Same.put {s t : Vs} (h : Same s t) {L : List Int} {i : Nat} {x : List UInt8} {d d' : Ent} (hd : strip d' = strip d) : Same (s.put L i x d) (t.put L i x d') := by
  unfold Vs.put
  rw [h.O]
  by_cases hf : need x.length ≤ (frees (s.O i)).length
  · rw [if_pos hf, if_pos hf]
    refine ⟨by simp only [h.b], rfl, by simp only [h.p], fun k => ?_⟩
    simp only [upd]
    split
    · rw [List.map_append, List.map_append, h.es]
      simp [hd]
    · exact h.es k
  · rw [if_neg hf, if_neg hf]
    exact h
theorem Same.drop {s t : Vs} (h : Same s t) (i : Nat) (id : Int) : Same (s.drop i id) (t.drop i id) := by
  refine ⟨h.b, ?_, h.p, fun k => ?_⟩
  · simp only [Vs.drop, h.O, same_outT (h.es i) id]
  · simp only [Vs.drop, upd]
    split
    · rw [strip_drop, strip_drop, h.es]
    · exact h.es k
/-- whose a block is: 2i+1 and 2i+2 the i-th hold's -/
structure TwoC (col : Nat → Nat) (nP nR : Nat) (w0 w : World) (Ex : Nat → Prop) (c : Cs) (s t : Vs) : Prop where
  hP : ∀ i, i < nP → ∃ xg ob mb, HoldP w (fun j => col j = 2 * i + 1) i c.ga (c.G i) xg ob mb (s.O i) (s.p i) (s.es i)
  hR : ∀ i, i < nR → ∃ xg ob v, HoldR w (fun j => col j = 2 * i + 2) i c.wa (c.V i) xg ob v (t.O i) (t.p i) (t.es i)
  hi : ∀ j, w.heap.size ≤ j → col j = 0
  lo : ∀ j, j < w0.heap.size → col j = 0
  ex : ∀ j, Ex j → col j = 0 ∧ j < w.heap.size ∧ (j ≠ c.ga ∧ j ≠ c.pb ∧ j ≠ c.cb) ∧ (j ≠ c.wa ∧ j ≠ c.wb ∧ j ≠ c.wc)
  arP : AreP w w0.heap.size c.ga c.pb c.cb c.L s.b
  arR : AreR w w0.heap.size c.wa c.wb c.wc c.L t.b
  c6 : (col c.ga = 0 ∧ col c.pb = 0 ∧ col c.cb = 0) ∧ (col c.wa = 0 ∧ col c.wb = 0 ∧ col c.wc = 0)
  ne : (c.wa ≠ c.pb ∧ c.wb ≠ c.pb ∧ c.wc ≠ c.pb) ∧ (c.ga ≠ c.wb ∧ c.pb ≠ c.wb ∧ c.cb ≠ c.wb)
  gP : ∀ i, i < nP → Good c.L i s.b (s.O i) (s.p i) (s.es i)
  gR : ∀ i, i < nR → Good c.L i t.b (t.O i) (t.p i) (t.es i)
  nL : nP ≤ c.L.length ∧ nR ≤ c.L.length
def Two (nP nR : Nat) (w0 w : World) (Ex : Nat → Prop) (c : Cs) (s t : Vs) : Prop := ∃ col, TwoC col nP nR w0 w Ex c s t
def paint (col : Nat → Nat) (a b k : Nat) : Nat → Nat := fun j => if a ≤ j ∧ j < b then k else col j
theorem paint_lo {col : Nat → Nat} {a b k j : Nat} (h : j < a) : paint col a b k j = col j := if_neg (by omega)
theorem paint_in {col : Nat → Nat} {a b k j : Nat} (h : a ≤ j) (h2 : j < b) : paint col a b k j = k := if_pos ⟨h, h2⟩
theorem paint_hi {col : Nat → Nat} {a b k j : Nat} (h : b ≤ j) : paint col a b k j = col j := if_neg (by omega)
namespace TwoC
variable {col : Nat → Nat} {nP nR : Nat} {w0 w w' : World} {Ex Ex' : Nat → Prop} {c : Cs} {s t : Vs}
theorem fr {S : Nat → Prop} (h : TwoC col nP nR w0 w Ex c s t) (hf : Fr S w w') (hS : ∀ j, j < w.heap.size → S j → Ex j) (hE : ∀ j, Ex' j → Ex j ∨ (w.heap.size ≤ j ∧ j < w'.heap.size)) : TwoC col nP nR w0 w' Ex' c s t := by
  have hsz := hf.size
  have hf := hf.mono hS
  have a1 := h.arP.g_lt
  have a2 := h.arP.pb_lt
  have a3 := h.arP.cb_lt
  have b1 := h.arR.g_lt
  have b2 := h.arR.pb_lt
  have b3 := h.arR.cb_lt
  refine ⟨fun i hi => ?_, fun i hi => ?_, fun j hj => h.hi j (by omega), h.lo, fun j hj => ?_, h.arP.fr hf (fun e => (h.ex _ e).2.2.1.1 rfl) (fun e => (h.ex _ e).2.2.1.2.1 rfl) (fun e => (h.ex _ e).2.2.1.2.2 rfl), h.arR.fr hf (fun e => (h.ex _ e).2.2.2.1 rfl) (fun e => (h.ex _ e).2.2.2.2.1 rfl) (fun e => (h.ex _ e).2.2.2.2.2 rfl), h.c6, h.ne, h.gP, h.gR, h.nL⟩
  · obtain ⟨xg, ob, mb, hp⟩ := h.hP i hi
    exact ⟨xg, ob, mb, hp.fr hf (fun j hj hs => by have := (h.ex j hs).1; omega)⟩
  · obtain ⟨xg, ob, v, hp⟩ := h.hR i hi
    exact ⟨xg, ob, v, hp.fr hf (fun j hj hs => by have := (h.ex j hs).1; omega)⟩
  · rcases hE j hj with hj | hj
    · obtain ⟨e1, e2, e3⟩ := h.ex j hj
      exact ⟨e1, by omega, e3⟩
    · exact ⟨h.hi j hj.1, hj.2, by omega⟩
/-- the i-th of the program's holds has turned -/
theorem stepP {i xg ob mb : Nat} {b' : List UInt8} {O' : List Bool} {p' : Nat} {es' : List Ent} (h : TwoC col nP nR w0 w Ex c s t) (hi : i < nP) (hf : Fr (fun j => col j = 2 * i + 1 ∨ j = c.pb) w w') (ho : HoldP w' (Grow (fun j => col j = 2 * i + 1) w) i c.ga (c.G i) xg ob mb O' p' es')
    (ha : AreP w' w0.heap.size c.ga c.pb c.cb c.L b') (hg : Good c.L i b' O' p' es') (hgo : ∀ k, k < nP → k ≠ i → Good c.L k b' (s.O k) (s.p k) (s.es k)) :
    Two nP nR w0 w' Ex c ⟨b', upd s.O i O', upd s.p i p', upd s.es i es'⟩ t := by
  have hsz := hf.size
  have a1 := h.arP.g_lt
  have a2 := h.arP.pb_lt
  have a3 := h.arP.cb_lt
  have b1 := h.arR.g_lt
  have b2 := h.arR.pb_lt
  have b3 := h.arR.cb_lt
  obtain ⟨⟨c1, c2, c3⟩, c4, c5, c6⟩ := h.c6
  obtain ⟨⟨n1, n2, n3⟩, n4⟩ := h.ne
  have hlt : ∀ {k j : Nat}, col j = k + 1 → j < w.heap.size := fun {k j} e => by
    by_cases hj : w.heap.size ≤ j
    · have := h.hi j hj; omega
    · omega
  have hb0 : w0.heap.size ≤ w.heap.size := by have := h.arP.gB; omega
  refine ⟨paint col w.heap.size w'.heap.size (2 * i + 1), fun k hk => ?_, fun k hk => ?_, fun j hj => (paint_hi hj).trans (h.hi j (by omega)), fun j hj => (paint_lo (by omega)).trans (h.lo j hj), fun j hj => ?_, ha, h.arR.fr hf (fun e => ?_) (fun e => ?_) (fun e => ?_),
    ⟨⟨(paint_lo a1).trans c1, (paint_lo a2).trans c2, (paint_lo a3).trans c3⟩, (paint_lo b1).trans c4, (paint_lo b2).trans c5, (paint_lo b3).trans c6⟩, h.ne, fun k hk => ?_, h.gR, h.nL⟩
  · by_cases hki : k = i
    · subst hki
      refine ⟨xg, ob, mb, ?_⟩
      simp only [upd_self]
      refine ho.mono (fun j hj hh => ?_)
      rcases hh with hh | hh
      · exact (paint_lo (hlt hh)).trans hh
      · exact paint_in hh hj
    · obtain ⟨xg', ob', mb', hp⟩ := h.hP k hk
      refine ⟨xg', ob', mb', ?_⟩
      simp only [upd_ne _ _ hki]
      refine (hp.fr hf (fun j hj hs => ?_)).mono (fun j _ hh => (paint_lo (hlt hh)).trans hh)
      rcases hs with hs | hs
      · omega
      · rw [hs] at hj; omega
  · obtain ⟨xg', ob', v', hp⟩ := h.hR k hk
    refine ⟨xg', ob', v', (hp.fr hf (fun j hj hs => ?_)).mono (fun j _ hh => (paint_lo (hlt (k := 2 * k + 1) hh)).trans hh)⟩
    rcases hs with hs | hs
    · omega
    · rw [hs] at hj; omega
  · obtain ⟨e1, e2, e3⟩ := h.ex j hj
    exact ⟨(paint_lo e2).trans e1, by omega, e3⟩
  · rcases e with e | e
    · omega
    · exact n1 e
  · rcases e with e | e
    · omega
    · exact n2 e
  · rcases e with e | e
    · omega
    · exact n3 e
  · by_cases hki : k = i
    · subst hki
      simp only [upd_self]
      exact hg
    · simp only [upd_ne _ _ hki]
      exact hgo k hk hki
/-- the i-th of the reference's holds has turned -/
theorem stepR {i xg ob : Nat} {v : Value} {b' : List UInt8} {O' : List Bool} {p' : Nat} {es' : List Ent} (h : TwoC col nP nR w0 w Ex c s t) (hi : i < nR) (hf : Fr (fun j => col j = 2 * i + 2 ∨ j = c.wb) w w') (ho : HoldR w' (Grow (fun j => col j = 2 * i + 2) w) i c.wa (c.V i) xg ob v O' p' es')
    (ha : AreR w' w0.heap.size c.wa c.wb c.wc c.L b') (hg : Good c.L i b' O' p' es') (hgo : ∀ k, k < nR → k ≠ i → Good c.L k b' (t.O k) (t.p k) (t.es k)) :
    Two nP nR w0 w' Ex c s ⟨b', upd t.O i O', upd t.p i p', upd t.es i es'⟩ := by
  have hsz := hf.size
  have a1 := h.arP.g_lt
  have a2 := h.arP.pb_lt
  have a3 := h.arP.cb_lt
  have b1 := h.arR.g_lt
  have b2 := h.arR.pb_lt
  have b3 := h.arR.cb_lt
  obtain ⟨⟨c1, c2, c3⟩, c4, c5, c6⟩ := h.c6
  obtain ⟨n0, n1, n2, n3⟩ := h.ne
  have hlt : ∀ {k j : Nat}, col j = k + 1 → j < w.heap.size := fun {k j} e => by
    by_cases hj : w.heap.size ≤ j
    · have := h.hi j hj; omega
    · omega
  have hb0 : w0.heap.size ≤ w.heap.size := by have := h.arP.gB; omega
  refine ⟨paint col w.heap.size w'.heap.size (2 * i + 2), fun k hk => ?_, fun k hk => ?_, fun j hj => (paint_hi hj).trans (h.hi j (by omega)), fun j hj => (paint_lo (by omega)).trans (h.lo j hj), fun j hj => ?_, h.arP.fr hf (fun e => ?_) (fun e => ?_) (fun e => ?_), ha,
    ⟨⟨(paint_lo a1).trans c1, (paint_lo a2).trans c2, (paint_lo a3).trans c3⟩, (paint_lo b1).trans c4, (paint_lo b2).trans c5, (paint_lo b3).trans c6⟩, h.ne, h.gP, fun k hk => ?_, h.nL⟩
  · obtain ⟨xg', ob', mb', hp⟩ := h.hP k hk
    refine ⟨xg', ob', mb', (hp.fr hf (fun j hj hs => ?_)).mono (fun j _ hh => (paint_lo (hlt (k := 2 * k) hh)).trans hh)⟩
    rcases hs with hs | hs
    · omega
    · rw [hs] at hj; omega
  · by_cases hki : k = i
    · subst hki
      refine ⟨xg, ob, v, ?_⟩
      simp only [upd_self]
      refine ho.mono (fun j hj hh => ?_)
      rcases hh with hh | hh
      · exact (paint_lo (hlt (k := 2 * k + 1) hh)).trans hh
      · exact paint_in hh hj
    · obtain ⟨xg', ob', v', hp⟩ := h.hR k hk
      refine ⟨xg', ob', v', ?_⟩
      simp only [upd_ne _ _ hki]
      refine (hp.fr hf (fun j hj hs => ?_)).mono (fun j _ hh => (paint_lo (hlt (k := 2 * k + 1) hh)).trans hh)
      rcases hs with hs | hs
      · omega
      · rw [hs] at hj; omega
  · obtain ⟨e1, e2, e3⟩ := h.ex j hj
    exact ⟨(paint_lo e2).trans e1, by omega, e3⟩
  · rcases e with e | e
    · omega
    · exact n1 e
  · rcases e with e | e
    · omega
    · exact n2 e
  · rcases e with e | e
    · omega
    · exact n3 e
  · by_cases hki : k = i
    · subst hki
      simp only [upd_self]
      exact hg
    · simp only [upd_ne _ _ hki]
      exact hgo k hk hki
end TwoC
section
variable {nP nR : Nat} {w0 w w' : World} {Ex Ex' : Nat → Prop} {c : Cs} {s t : Vs} {i : Nat}
theorem Two.fr {S : Nat → Prop} (h : Two nP nR w0 w Ex c s t) (hf : Fr S w w') (hS : ∀ j, j < w.heap.size → S j → Ex j) (hE : ∀ j, Ex' j → Ex j ∨ (w.heap.size ≤ j ∧ j < w'.heap.size)) : Two nP nR w0 w' Ex' c s t := by
  obtain ⟨col, h⟩ := h
  exact ⟨col, h.fr hf hS hE⟩
theorem Two.fr0 (h : Two nP nR w0 w Ex c s t) (hf : Fr0 w w') : Two nP nR w0 w' Ex c s t := h.fr hf (fun _ _ f => f.elim) (fun _ h => .inl h)
/-- what the holds' calls may turn -/
def FrW (w0 : World) (Ex : Nat → Prop) (w w' : World) : Prop := Fr (fun j => w0.heap.size ≤ j ∧ ¬ Ex j) w w'
theorem TwoC.frP {col : Nat → Nat} (h : TwoC col nP nR w0 w Ex c s t) (hf : Fr (fun j => col j = 2 * i + 1 ∨ j = c.pb) w w') : FrW w0 Ex w w' := hf.mono fun j _ hj => by
  have hpB := h.arP.pB
  rcases hj with hj | hj
  · refine ⟨?_, fun e => ?_⟩
    · by_cases h0 : j < w0.heap.size
      · have := h.lo j h0; omega
      · omega
    · have := (h.ex j e).1; omega
  · exact ⟨by omega, fun e => (h.ex j e).2.2.1.2.1 hj⟩
theorem TwoC.frR {col : Nat → Nat} (h : TwoC col nP nR w0 w Ex c s t) (hf : Fr (fun j => col j = 2 * i + 2 ∨ j = c.wb) w w') : FrW w0 Ex w w' := hf.mono fun j _ hj => by
  have hpB := h.arR.pB
  rcases hj with hj | hj
  · refine ⟨?_, fun e => ?_⟩
    · by_cases h0 : j < w0.heap.size
      · have := h.lo j h0; omega
      · omega
    · have := (h.ex j e).1; omega
  · exact ⟨by omega, fun e => (h.ex j e).2.2.2.2.1 hj⟩
theorem two_putP (h : Two nP nR w0 w Ex c s t) (hi : i < nP) (x : List UInt8) (vb : Value) (hx : x.length ≤ 65536) (hp : s.p i ≤ 1000000) (hb : BytesIs w vb x) (hv : x ≠ [] → ∀ a n k, vb = .slice (some a) n k → a.block < w0.heap.size) :
    Calls Try.prog 10 #[ptr (c.G i), vb] w fun e w' => ∃ d, e = .returned (.tuple #[.int .i64 (pq (s.O i) (s.p i) x.length), .int .i64 (pe (s.O i) x.length)]) ∧ strip d = ((s.p i : Int) + 1, x, tout (s.O i) (need x.length : Nat)) ∧ Two nP nR w0 w' Ex c (s.put c.L i x d) t ∧ FrW w0 Ex w w' := by
  obtain ⟨col, h⟩ := h
  obtain ⟨xg, ob, mb, hh⟩ := h.hP i hi
  have hk : i < c.L.length := by have := h.nL.1; omega
  obtain ⟨⟨c1, c2, c3⟩, _⟩ := h.c6
  refine (put_any w0.heap.size c.ga c.pb c.cb c.L s.b _ i (c.G i) xg ob mb (s.O i) (s.p i) (s.es i) x vb w hx hp hk h.arP ⟨by omega, by omega, by omega⟩ hh hb (fun hx0 a n k e => ?_)).mono ?_
  · have h1 := hv hx0 a n k e
    have h2 := h.lo _ h1
    have h3 := h.arP.pB
    exact ⟨by omega, by omega⟩
  · rintro e w' ⟨hf, hc⟩
    rcases hc with ⟨hfit, A, C, rfl, hP', hA'⟩ | ⟨hfit, rfl, hP', hA'⟩
    · refine ⟨⟨(s.p i : Int) + 1, x, tout (s.O i) (need x.length : Nat), A, C, none, 0⟩, ?_, rfl, ?_, h.frP hf⟩
      · unfold pq pe
        rw [if_pos hfit, if_pos hfit]
      · unfold Vs.put
        rw [if_pos hfit]
        exact h.stepP hi hf hP' hA' ((h.gP i hi).put h.arP.fits hk hfit rfl rfl rfl) (fun k hk' hki => (h.gP k hk').part h.arP.fits hki (by have := h.nL.1; omega) _ _ _)
    · refine ⟨⟨(s.p i : Int) + 1, x, tout (s.O i) (need x.length : Nat), none, 0, none, 0⟩, ?_, rfl, ?_, h.frP hf⟩
      · unfold pq pe
        rw [if_neg hfit, if_neg hfit]
      · unfold Vs.put
        rw [if_neg hfit]
        have := h.stepP hi hf hP' hA' (h.gP i hi) (fun k hk' _ => h.gP k hk')
        rwa [upd_same, upd_same, upd_same] at this
theorem good_len {L : List Int} {k : Nat} {bs : List UInt8} {O : List Bool} {p : Nat} {es : List Ent} (h : Good L k bs O p es) (hr : (ids es).Pairwise (· < ·)) (ht : ∀ e ∈ es, e.id ≤ (p : Int)) (hp : p ≤ 1000000) : es.length ≤ 1000000 := by
  have := ids_length hr h.pos ht
  omega
theorem two_putR (h : Two nP nR w0 w Ex c s t) (hi : i < nR) (x : List UInt8) (vb : Value) (hx : x.length ≤ 65536) (hp : t.p i ≤ 1000000) (hb : BytesIs w vb x) (hv : x ≠ [] → ∀ a n k, vb = .slice (some a) n k → a.block < w0.heap.size) :
    Calls Try.prog 20 #[ptr (c.V i), vb] w fun e w' => ∃ d, e = .returned (.tuple #[.int .i64 (pq (t.O i) (t.p i) x.length), .int .i64 (pe (t.O i) x.length)]) ∧ strip d = ((t.p i : Int) + 1, x, tout (t.O i) (need x.length : Nat)) ∧ Two nP nR w0 w' Ex c s (t.put c.L i x d) ∧ FrW w0 Ex w w' := by
  obtain ⟨col, h⟩ := h
  obtain ⟨xg, ob, v, hh⟩ := h.hR i hi
  have hk : i < c.L.length := by have := h.nL.2; omega
  obtain ⟨_, c1, c2, c3⟩ := h.c6
  refine (rput_any w0.heap.size c.wa c.wb c.wc c.L t.b _ i (c.V i) xg ob v (t.O i) (t.p i) (t.es i) x vb w hx hp (good_len (h.gR i hi) hh.rise hh.top hp) hk h.arR ⟨by omega, by omega, by omega⟩ hh hb (fun hx0 a n k e => ?_)).mono ?_
  · have h1 := hv hx0 a n k e
    have h2 := h.lo _ h1
    have h3 := h.arR.pB
    exact ⟨by omega, by omega⟩
  · rintro e w' ⟨hf, hc⟩
    rcases hc with ⟨hfit, v', d, rfl, h1, h2, h3, hP', hA'⟩ | ⟨hfit, rfl, hP', hA'⟩
    · refine ⟨d, ?_, ?_, ?_, h.frR hf⟩
      · unfold pq pe
        rw [if_pos hfit, if_pos hfit]
      · unfold strip
        rw [h1, h2, h3]
      · unfold Vs.put
        rw [if_pos hfit]
        exact h.stepR hi hf hP' hA' ((h.gR i hi).put h.arR.fits hk hfit h1 h2 h3) (fun k hk' hki => (h.gR k hk').part h.arR.fits hki (by have := h.nL.2; omega) _ _ _)
    · refine ⟨⟨(t.p i : Int) + 1, x, tout (t.O i) (need x.length : Nat), none, 0, none, 0⟩, ?_, rfl, ?_, h.frR hf⟩
      · unfold pq pe
        rw [if_neg hfit, if_neg hfit]
      · unfold Vs.put
        rw [if_neg hfit]
        have := h.stepR hi hf hP' hA' (h.gR i hi) (fun k hk' _ => h.gR k hk')
        rwa [upd_same, upd_same, upd_same] at this
theorem good_T {L : List Int} {k : Nat} {bs : List UInt8} {O : List Bool} {p : Nat} {es : List Ent} (h : Good L k bs O p es) (hlen : O.length ≤ 2048) {d : Ent} (hd : d ∈ es) : d.T.length ≤ 2048 ∧ (∀ i ∈ d.T, i ≤ 2048) ∧ d.x.length ≤ 65536 := by
  have h1 : d.T.length ≤ 2048 := by
    have := List.Nodup.length_le_of_subset (l₂ := List.range O.length) (h.once d hd) (fun i hi => List.mem_range.2 (h.out d hd i hi).1)
    rw [List.length_range] at this
    omega
  have h2 := h.wide d hd
  refine ⟨h1, fun i hi => by have := (h.out d hd i hi).1; omega, by unfold need at h2; omega⟩
theorem gave_nil (O : List Bool) : gave O (nints []) = O := rfl
theorem Vs.drop_none {id : Int} (hf : find id (s.es i) = none) : s.drop i id = s := by
  have h1 : outT id (s.es i) = [] := by unfold outT; rw [hf]
  unfold Vs.drop
  rw [h1, gave_nil, drop_of_none hf, upd_same, upd_same]
theorem two_dropP (h : Two nP nR w0 w Ex c s t) (hi : i < nP) (id : Int) (hid : -9223372036854775808 ≤ id ∧ id ≤ 9223372036854775807) :
    Calls Try.prog 11 #[ptr (c.G i), .int .i64 id] w fun e w' => e = .returned (.int .i64 (err id (s.es i))) ∧ Two nP nR w0 w' Ex c (s.drop i id) t ∧ FrW w0 Ex w w' := by
  cases hf : find id (s.es i) with
  | none =>
    rw [Vs.drop_none hf]
    have h0 := h
    obtain ⟨col, h⟩ := h
    obtain ⟨xg, ob, mb, hh⟩ := h.hP i hi
    refine (drop_none _ i c.ga (c.G i) xg ob mb (s.O i) (s.p i) (s.es i) id hid hf w hh).mono ?_
    rintro e w' ⟨rfl, hf0⟩
    refine ⟨?_, h0.fr0 hf0, hf0.zero⟩
    unfold err
    rw [hf]
  | some d =>
    obtain ⟨col, h⟩ := h
    obtain ⟨xg, ob, mb, hh⟩ := h.hP i hi
    obtain ⟨t1, t2, t3⟩ := good_T (h.gP i hi) hh.blk.len (find_mem hf).1
    obtain ⟨e1, e2, e3⟩ := (h.gP i hi).drop hf hh.rise
    refine (drop_some _ i c.ga (c.G i) xg ob mb (s.O i) (s.p i) (s.es i) id hid d hf t1 t2 w hh).mono ?_
    rintro e w' ⟨rfl, q, hq, hf2⟩
    have hf3 : Fr (fun j => col j = 2 * i + 1 ∨ j = c.pb) w w' := hf2.mono fun j _ h => .inl h
    have ho : outT id (s.es i) = d.T := by unfold outT; rw [hf]
    obtain ⟨⟨c1, c2, c3⟩, _⟩ := h.c6
    refine ⟨?_, ?_, h.frP hf3⟩
    · unfold err
      rw [hf, e1]
    · have := h.stepP hi hf3 hq (h.arP.fr hf2 (by omega) (by omega) (by omega)) e2 (fun k hk' _ => h.gP k hk')
      rw [upd_same] at this
      unfold Vs.drop
      rw [ho]
      exact this
theorem two_dropR (h : Two nP nR w0 w Ex c s t) (hi : i < nR) (hp : t.p i ≤ 1000000) (id : Int) (hid : -9223372036854775808 ≤ id ∧ id ≤ 9223372036854775807) :
    Calls Try.prog 21 #[ptr (c.V i), .int .i64 id] w fun e w' => e = .returned (.int .i64 (err id (t.es i))) ∧ Two nP nR w0 w' Ex c s (t.drop i id) ∧ FrW w0 Ex w w' := by
  cases hf : find id (t.es i) with
  | none =>
    rw [Vs.drop_none hf]
    have h0 := h
    obtain ⟨col, h⟩ := h
    obtain ⟨xg, ob, v, hh⟩ := h.hR i hi
    refine (rdrop_none _ i c.wa (c.V i) xg ob v (t.O i) (t.p i) (t.es i) id hid (good_len (h.gR i hi) hh.rise hh.top hp) hf w hh).mono ?_
    rintro e w' ⟨rfl, rfl⟩
    refine ⟨?_, h0, Fr.refl _ _⟩
    unfold err
    rw [hf]
  | some d =>
    obtain ⟨col, h⟩ := h
    obtain ⟨xg, ob, v, hh⟩ := h.hR i hi
    obtain ⟨t1, t2, t3⟩ := good_T (h.gR i hi) hh.blk.len (find_mem hf).1
    obtain ⟨e1, e2, e3⟩ := (h.gR i hi).drop hf hh.rise
    refine (rdrop_some _ i c.wa (c.V i) xg ob v (t.O i) (t.p i) (t.es i) id hid (good_len (h.gR i hi) hh.rise hh.top hp) d hf t1 t2 w hh).mono ?_
    rintro e w' ⟨rfl, v', hq, hf2⟩
    have hf3 : Fr (fun j => col j = 2 * i + 2 ∨ j = c.wb) w w' := hf2.mono fun j _ h => .inl h
    have ho : outT id (t.es i) = d.T := by unfold outT; rw [hf]
    obtain ⟨_, c1, c2, c3⟩ := h.c6
    refine ⟨?_, ?_, h.frR hf3⟩
    · unfold err
      rw [hf]
    · have := h.stepR hi hf3 hq (h.arR.fr hf2 (by omega) (by omega) (by omega)) e2 (fun k hk' _ => h.gR k hk')
      rw [upd_same] at this
      unfold Vs.drop
      rw [ho]
      exact this
theorem two_getP (h : Two nP nR w0 w Ex c s t) (hi : i < nP) (id : Int) (hid : -9223372036854775808 ≤ id ∧ id ≤ 9223372036854775807) :
    Calls Try.prog 12 #[ptr (c.G i), .int .i64 id] w fun e w' => ∃ v, e = .returned (.tuple #[v, .int .i64 (err id (s.es i))]) ∧ BytesIs w' v (getX id (s.es i)) ∧ Fr0 w w' := by
  obtain ⟨col, h⟩ := h
  obtain ⟨xg, ob, mb, hh⟩ := h.hP i hi
  unfold err getX
  cases hf : find id (s.es i) with
  | none =>
    refine (get_none _ i c.ga (c.G i) xg ob mb (s.O i) (s.p i) (s.es i) id hid hf w hh).mono ?_
    rintro e w' ⟨rfl, hf0⟩
    exact ⟨_, rfl, BytesIs.nil _, hf0⟩
  | some d =>
    have hd := (find_mem hf).1
    obtain ⟨t1, t2, t3⟩ := good_T (h.gP i hi) hh.blk.len hd
    have hk : i < c.L.length := by have := h.nL.1; omega
    refine (get_some w0.heap.size c.ga c.pb c.cb c.L s.b _ i (c.G i) xg ob mb (s.O i) (s.p i) (s.es i) id hid d hf t3 ((h.gP i hi).wide d hd) t2 hk w h.arP hh).mono ?_
    rintro e w' ⟨v, rfl, hb, hf0, _⟩
    rw [(h.gP i hi).told d hd] at hb
    exact ⟨v, rfl, hb, hf0⟩
theorem two_getR (h : Two nP nR w0 w Ex c s t) (hi : i < nR) (hp : t.p i ≤ 1000000) (id : Int) (hid : -9223372036854775808 ≤ id ∧ id ≤ 9223372036854775807) :
    Calls Try.prog 22 #[ptr (c.V i), .int .i64 id] w fun e w' => ∃ v, e = .returned (.tuple #[v, .int .i64 (err id (t.es i))]) ∧ BytesIs w' v (getX id (t.es i)) ∧ Fr0 w w' := by
  obtain ⟨col, h⟩ := h
  obtain ⟨xg, ob, v, hh⟩ := h.hR i hi
  have hlen := good_len (h.gR i hi) hh.rise hh.top hp
  unfold err getX
  cases hf : find id (t.es i) with
  | none =>
    refine (rget_none _ i c.wa (c.V i) xg ob v (t.O i) (t.p i) (t.es i) id hid hlen hf w hh).mono ?_
    rintro e w' ⟨rfl, rfl⟩
    exact ⟨_, rfl, BytesIs.nil _, Fr.refl _ _⟩
  | some d =>
    have hd := (find_mem hf).1
    obtain ⟨t1, t2, t3⟩ := good_T (h.gR i hi) hh.blk.len hd
    refine (rget_some _ i c.wa (c.V i) xg ob v (t.O i) (t.p i) (t.es i) id hid hlen d hf t3 w hh).mono ?_
    rintro e w' ⟨v, rfl, hb, hf0, _⟩
    exact ⟨v, rfl, hb, hf0⟩
end
end Go.Proofs.Ytkdpdbjefehmpaa.Hold
