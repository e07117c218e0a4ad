/-
  Pieces of several Feeds of one cutter, gathered in a row.
-/
import Derived.Test.YtggdpmfghbnhcaaDoorFrameAwake
import Derived.Test.YtggdpmfghbnhcaaDoorAppAny
namespace Go.Proofs.YtggdpmfghbnhcaaDoor.Frame
open Go.RowKit Base Pack Crc

/-- w0: the gathering's start; cutter g was there, its bytes lie in q; the row's value vl -/
structure Gath (w0 wr : World) (g : Nat) (q : Option Nat) (vl : Value) (acc : List Pc) (X : List (Value × Int)) : Prop where
  row : wr.ownsRow w0.heap.size 33 2 vl acc.length (kcells X)
  lie : Lie wr (fun k => k < w0.heap.size ∨ V g q k ∨ vl.ownBlock = some k) X acc
  g0 : g < w0.heap.size
  q0 : ∀ k, q = some k → w0.heap.size ≤ k
  fr : Fr (fun k => k = g) w0 wr
theorem Gath.start (w0 : World) (g : Nat) (hg : g < w0.heap.size) : Gath w0 w0 g none (.slice none 0 0) [] [] :=
  ⟨World.ownsRow_nil _ _ _ _, Lie.nil _ _, hg, (fun k h => by cases h), Fr.refl _ _⟩
theorem Gath.fr0 {w0 w w1 : World} {g : Nat} {q : Option Nat} {vl : Value} {acc : List Pc} {X : List (Value × Int)} (h : Gath w0 w g q vl acc X) (hf : Fr0 w w1) : Gath w0 w1 g q vl acc X :=
  ⟨owns_fr hf h.row (fun _ _ f => f), h.lie.keep hf (fun _ _ f => f.elim) (fun _ _ e => e), h.g0, h.q0, h.fr.trans hf (fun _ _ f => f.elim)⟩
theorem gath_ne {w0 wr : World} {g : Nat} {q : Option Nat} {wt : List UInt8} {dd : Bool} {vl : Value} {n : Nat} {xs : List Value} (hc : CutAt wr g q wt dd) (ho : wr.ownsRow w0.heap.size 33 2 vl n xs) : ∀ k, vl.ownBlock = some k → q ≠ some k := fun k hk e => by
  obtain ⟨sv, rfl, _, hs⟩ := hc
  obtain ⟨cs, h1⟩ := owns_heap ho hk
  obtain ⟨cs2, h2⟩ := owns_heap hs e
  rw [h1] at h2
  simp only [Option.some.injEq, Obj.cells.injEq] at h2
  exact absurd h2.2.1 (by decide)
theorem Gath.fed {w0 w w1 : World} {g : Nat} {q q' : Option Nat} {wt : List UInt8} {dd : Bool} {vl : Value} {acc : List Pc} {X : List (Value × Int)} (h : Gath w0 w g q vl acc X) (hc : CutAt w g q wt dd) (hf : Fr (V g q) w w1) (hn : NewQ w q q') : Gath w0 w1 g q' vl acc X := by
  have hlt : ∀ k, vl.ownBlock = some k → w0.heap.size ≤ k := fun k hk => (h.row.lt k hk).1
  refine ⟨owns_fr hf h.row (fun k hk e => ?_), h.lie.keep hf (fun k _ e => .inr (.inl e)) (fun k hk e => ?_), h.g0, fun k hk => ?_, h.fr.trans hf (fun k hk e => ?_)⟩
  · rcases e with rfl | e
    · have := hlt _ hk; have := h.g0; omega
    · exact gath_ne hc h.row k hk e
  · rcases e with e | (e | e) | e
    · exact .inl e
    · exact .inr (.inl (.inl e))
    · rcases hn with rfl | hn
      · exact .inr (.inl (.inr e))
      · have := hn k e; omega
    · exact .inr (.inr e)
  · rcases hn with rfl | hn
    · exact h.q0 k hk
    · have := hn k hk; have := h.fr.size; omega
  · rcases e with e | e
    · exact e
    · have := h.q0 k e; omega
/-- further pieces, told in world w, that a Feed made which began in world wb -/
theorem Gath.more {w0 wb w w1 : World} {g : Nat} {q : Option Nat} {vl vl' : Value} {acc L : List Pc} {X Y : List (Value × Int)} (h : Gath w0 w g q vl acc X) (hL : Lie w (fun k => k < wb.heap.size ∨ q = some k) Y L) (hb : w0.heap.size ≤ wb.heap.size) (hvb : ∀ k, vl.ownBlock = some k → k < wb.heap.size)
    (hrow : w1.ownsRow w0.heap.size 33 2 vl' (acc.length + L.length) (kcells X ++ kcells Y)) (hg : w.grownBy w1 vl.ownBlock) (hnr : NewRow w vl vl') : Gath w0 w1 g q vl' (acc ++ L) (X ++ Y) := by
  have hlt : ∀ k, vl.ownBlock = some k → w0.heap.size ≤ k := fun k hk => (h.row.lt k hk).1
  have hf : Fr (fun k => vl.ownBlock = some k) w w1 := Fr.of_grown hg (fun k hk e => e)
  have hL' : Lie w (fun k => k < w0.heap.size ∨ V g q k ∨ vl.ownBlock = some k) Y L := hL.keep (Fr.refl (fun _ => False) w) (fun _ _ f => f.elim) (fun k hk e => by
    rcases e with e | (e | e) | e
    · exact .inl (by omega)
    · have := h.g0; exact .inl (by omega)
    · exact .inr e
    · exact .inl (hvb k e))
  refine ⟨?_, (h.lie.append hL').keep hf (fun k _ e => .inr (.inr e)) (fun k hk e => ?_), h.g0, h.q0, h.fr.trans hf (fun k hk e => ?_)⟩
  · rw [kcells_append, List.length_append]
    exact hrow
  · rcases e with e | e | e
    · exact .inl e
    · exact .inr (.inl e)
    · rcases hnr with hnr | hnr
      · exact .inr (.inr (by rw [← hnr]; exact e))
      · have := hnr k e; omega
  · have := hlt k e; omega
theorem Gath.pieces {w0 wr : World} {g : Nat} {q : Option Nat} {vl : Value} {acc : List Pc} {X : List (Value × Int)} (h : Gath w0 wr g q vl acc X) : Pieces wr (fun k => k < w0.heap.size) vl acc := by
  refine ⟨X, h.lie.keep (Fr.refl (fun _ => False) wr) (fun _ _ f => f.elim) (fun k _ e => .inl e), ?_, fun a n c hv hl e => ?_⟩
  · have hkl := kcells_length X
    have hxl := h.lie.1
    rcases h.row.2 with ⟨rfl, h0⟩ | ⟨b, cap, cur, rfl, hb, hg, hnc, hcm, hcs, ht⟩
    · rw [h0]
      have : X = [] := List.eq_nil_of_length_eq_zero (by omega)
      subst this
      exact ValsIs.nil wr
    · refine ⟨_, cap, b, 0, rfl, hnc, fun _ => rfl, fun j hj => ?_⟩
      rw [Nat.zero_add, h.row.cellAt j (by omega), List.getD_eq_getElem?_getD, List.getElem?_eq_getElem hj]
      rfl
  · have ho : vl.ownBlock = some a.block := by rw [hv]; rfl
    have := (h.row.lt _ ho).1; omega
end Go.Proofs.YtggdpmfghbnhcaaDoor.Frame
