/-
  HoldPlays' own state: its two lists of holds, both sides.
-/
import Derived.Test.YtkdpdbjefehmpaaHoldTwoNew
namespace Go.Proofs.Ytkdpdbjefehmpaa.Hold
open Go.RowKit Base Go.Maps Arena
open Blocks (BlkR whole whole_le frees nints nvals tout took terr give gave gerr)

/-- the blocks of the law's own two lists -/
def Both (v u : Value) (j : Nat) : Prop := v.ownBlock = some j ∨ u.ownBlock = some j
/-- so many holds of each side have been made -/
structure Made (w0 w : World) (n : Nat) (c : Cs) (s t : Vs) (v u : Value) : Prop where
  two : Two n n w0 w (Both v u) c s t
  hv : w.ownsRow w0.heap.size 27 1 v n ((List.range n).map fun k => ptr (c.G k))
  hu : w.ownsRow w0.heap.size 47 1 u n ((List.range n).map fun k => ptr (c.V k))
  ne : ∀ j, v.ownBlock = some j → u.ownBlock ≠ some j
  fr : Fr0 w0 w
theorem infoH : (Try.prog.info? 27).map (fun i => (i.zero, i.size, i.bytes)) = some (some (.pointer none), 1, 8) := by kernel_rfl
theorem infoV : (Try.prog.info? 47).map (fun i => (i.zero, i.size, i.bytes)) = some (some (.pointer none), 1, 8) := by kernel_rfl
theorem owns_fr {S : Nat → Prop} {w w' : World} {base : Nat} {e : TypeId} {size n : Nat} {v : Value} {xs : List Value} (h : w.ownsRow base e size v n xs) (hf : Fr S w w') (hs : ∀ j, v.ownBlock = some j → ¬ S j) : w'.ownsRow base e size v n xs := by
  refine ⟨h.1, ?_⟩
  rcases h.2 with h0 | ⟨g, cap, cur, rfl, hb, hg, h3⟩
  · exact .inl h0
  · exact .inr ⟨g, cap, cur, rfl, hb, hf.heap hg (hs g rfl), h3⟩
theorem map_upd {α β : Type} (f : α → β) (G : Nat → α) (n : Nat) (g : α) : ((List.range (n + 1)).map fun k => f (upd G n g k)) = ((List.range n).map fun k => f (G k)) ++ [f g] := by
  rw [List.range_succ, List.map_append]
  congr 1
  · refine List.map_congr_left fun k hk => ?_
    rw [upd_ne _ _ (by have := List.mem_range.1 hk; omega)]
  · simp [upd_self]
theorem Made.push {w0 w w2 w3 w4 w5 w6 : World} {n g h : Nat} {c c' : Cs} {s t s' t' : Vs} {v u v' u' : Value} (hm : Made w0 w n c s t v u) (hf : Fr0 w w2) (h2 : Two (n + 1) (n + 1) w0 w2 (Both v u) c' s' t') (hG : c'.G = upd c.G n g) (hV : c'.V = upd c.V n h)
    (f3 : Fr0 w2 w3) (o4 : w4.ownsRow w0.heap.size 27 1 v' (n + 1) (((List.range n).map fun k => ptr (c.G k)) ++ [ptr g])) (g4 : w3.grownBy w4 v.ownBlock) (N4 : NewRow w3 v v')
    (f5 : Fr0 w4 w5) (o6 : w6.ownsRow w0.heap.size 47 1 u' (n + 1) (((List.range n).map fun k => ptr (c.V k)) ++ [ptr h])) (g6 : w5.grownBy w6 u.ownBlock) (N6 : NewRow w5 u u') : Made w0 w6 (n + 1) c' s' t' v' u' := by
  have k4 : Fr (fun j => v.ownBlock = some j) w3 w4 := Fr.of_grown g4 (fun _ _ e => e)
  have k6 : Fr (fun j => u.ownBlock = some j) w5 w6 := Fr.of_grown g6 (fun _ _ e => e)
  have z1 := hf.size
  have z2 := f3.size
  have z3 := k4.size
  have z4 := f5.size
  have z5 := k6.size
  have lv := fun j (e : v.ownBlock = some j) => hm.hv.lt j e
  have lu := fun j (e : u.ownBlock = some j) => hm.hu.lt j e
  have hE4 : ∀ j, v'.ownBlock = some j → (v.ownBlock = some j) ∨ (w3.heap.size ≤ j ∧ j < w4.heap.size) := fun j e => by
    rcases N4 with h | h
    · exact .inl (by rw [← h]; exact e)
    · exact .inr ⟨h j e, (o4.lt j e).2⟩
  have hE6 : ∀ j, u'.ownBlock = some j → (u.ownBlock = some j) ∨ (w5.heap.size ≤ j ∧ j < w6.heap.size) := fun j e => by
    rcases N6 with h | h
    · exact .inl (by rw [← h]; exact e)
    · exact .inr ⟨h j e, (o6.lt j e).2⟩
  have hne : ∀ j, v'.ownBlock = some j → u'.ownBlock ≠ some j := fun j e e' => by
    rcases hE4 j e with h1 | h1 <;> rcases hE6 j e' with h3 | h3
    · exact hm.ne j h1 h3
    · have := (lv j h1).2; omega
    · have := (lu j h3).2; omega
    · omega
  refine ⟨?_, ?_, ?_, hne, ?_⟩
  · have a3 := h2.fr0 f3
    have a4 : Two (n + 1) (n + 1) w0 w4 (Both v' u) c' s' t' := a3.fr k4 (fun _ _ e => .inl e) (fun j e => by
      rcases e with e | e
      · rcases hE4 j e with h | h
        · exact .inl (.inl h)
        · exact .inr h
      · exact .inl (.inr e))
    have a5 := a4.fr0 f5
    exact a5.fr k6 (fun _ _ e => .inr e) (fun j e => by
      rcases e with e | e
      · exact .inl (.inl e)
      · rcases hE6 j e with h | h
        · exact .inl (.inr h)
        · exact .inr h)
  · rw [hG, map_upd]
    refine owns_fr (owns_fr o4 f5 (fun _ _ f => f)) k6 (fun j e e' => ?_)
    rcases hE4 j e with h | h
    · exact hm.ne j h e'
    · have := (lu j e').2; omega
  · rw [hV, map_upd]
    exact o6
  · refine ((hm.fr.trans' hf).trans' f3).trans (k4) (fun i hi e => ?_) |>.trans' f5 |>.trans k6 (fun i hi e => ?_)
    · have := (lv i e).1; omega
    · have := (lu i e).1; omega
/-- the law's state while it plays -/
structure Play (w0 w : World) (c : Cs) (hb ub : Nat) (s t : Vs) : Prop where
  two : Two 2 2 w0 w (fun j => j = hb ∨ j = ub) c s t
  hv : ∀ i, i < 2 → w.cell? ⟨hb, i, none⟩ = some (ptr (c.G i))
  hu : ∀ i, i < 2 → w.cell? ⟨ub, i, none⟩ = some (ptr (c.V i))
  fr : Fr0 w0 w
theorem Made.play {w0 w : World} {c : Cs} {s t : Vs} {v u : Value} (h : Made w0 w 2 c s t v u) : ∃ hb C ub D, v = .slice (some ⟨hb, 0, none⟩) 2 C ∧ u = .slice (some ⟨ub, 0, none⟩) 2 D ∧ Play w0 w c hb ub s t := by
  have h1 := h.hv
  have h2 := h.hu
  rcases h1.2 with ⟨_, h0⟩ | ⟨hb, C, cur, rfl, _⟩
  · cases h0
  rcases h2.2 with ⟨_, h0⟩ | ⟨ub, D, cur, rfl, _⟩
  · cases h0
  refine ⟨hb, C, ub, D, rfl, rfl, ?_, fun i hi => ?_, fun i hi => ?_, h.fr⟩
  · refine h.two.fr (S := fun _ => False) (Fr.refl _ _) (fun _ _ f => f.elim) (fun j e => .inl ?_)
    rcases e with rfl | rfl
    · exact .inl rfl
    · exact .inr rfl
  · rw [h1.cellAt i (by simpa using hi)]
    simp [hi]
  · rw [h2.cellAt i (by simpa using hi)]
    simp [hi]
namespace Play
variable {w0 w w' : World} {c : Cs} {hb ub : Nat} {s t s' t' : Vs}
theorem step (h : Play w0 w c hb ub s t) (h2 : Two 2 2 w0 w' (fun j => j = hb ∨ j = ub) c s' t') (hf : FrW w0 (fun j => j = hb ∨ j = ub) w w') : Play w0 w' c hb ub s' t' := by
  have a1 := two_ex h.two (j := hb) (.inl rfl)
  have a2 := two_ex h.two (j := ub) (.inr rfl)
  exact ⟨h2, fun i hi => (Fr.cell hf (p := ⟨hb, i, none⟩) a1 (fun e => e.2 (.inl rfl))).trans (h.hv i hi), fun i hi => (Fr.cell hf (p := ⟨ub, i, none⟩) a2 (fun e => e.2 (.inr rfl))).trans (h.hu i hi), h.fr.trans hf (fun i hi e => by have := e.1; omega)⟩
theorem fr0 (h : Play w0 w c hb ub s t) (hf : Fr0 w w') : Play w0 w' c hb ub s t := h.step (h.two.fr0 hf) hf.zero
end Play
theorem Vs.put_p {L : List Int} {i : Nat} {x : List UInt8} {d : Ent} {s : Vs} {n : Nat} (h : ∀ k, s.p k ≤ n) (k : Nat) : (s.put L i x d).p k ≤ n + 1 := by
  have := h k
  have := h i
  unfold Vs.put
  split
  · simp only [upd]
    split <;> omega
  · omega
theorem Vs.start_same (L : List Int) (b : List UInt8) : Same (Vs.start L b) (Vs.start L b) := ⟨rfl, rfl, rfl, fun _ => rfl⟩
theorem fits_two {x y : Int} (h1 : 0 ≤ x ∧ x ≤ 600) (h2 : 0 ≤ y ∧ y ≤ 600) : Fits (x + y + 9) [x, y] := ⟨by omega, by omega, by simp, fun k hk => by
  match k, hk with
  | 0, _ => exact h1.1
  | 1, _ => exact h2.1, by simp [cut]; omega⟩
end Go.Proofs.Ytkdpdbjefehmpaa.Hold
