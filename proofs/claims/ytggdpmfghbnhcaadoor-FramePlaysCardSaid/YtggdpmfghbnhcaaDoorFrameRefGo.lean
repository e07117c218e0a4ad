/-
  What stays while the reference's Feed goes round.
-/
import Derived.Test.YtggdpmfghbnhcaaDoorFrameGo
namespace Go.Proofs.YtggdpmfghbnhcaaDoor.Frame
open Go.RowKit Base Pack Crc

theorem infoRPc : (Tryd.prog.info? 60).map (fun i => (i.zero, i.size, i.bytes)) = some (some (.agg #[.slice none 0 0, .int .i64 0]), 2, 32) := by kernel_rfl
/-- the reference's cutter: its object at g, its bytes in block q -/
def RefAt (w : World) (g : Nat) (q : Option Nat) (l : List UInt8) (d : Bool) : Prop := ∃ sv, sv.ownBlock = q ∧ w.rowIs g 37 2 (fun i => if i = 0 then sv else .bool d) ∧ BytesIs w sv l
theorem RefAt.lt {w : World} {g : Nat} {q : Option Nat} {l : List UInt8} {d : Bool} (h : RefAt w g q l d) : g < w.heap.size := by
  obtain ⟨sv, _, hr, _⟩ := h
  exact hr.lt
theorem RefAt.fr {S : Nat → Prop} {w w' : World} {g : Nat} {q : Option Nat} {l : List UInt8} {d : Bool} (h : RefAt w g q l d) (hf : Fr S w w') (hg : ¬ S g) (hq : ∀ k, q = some k → k < w.heap.size → ¬ S k) : RefAt w' g q l d := by
  obtain ⟨sv, rfl, hr, hb⟩ := h
  exact ⟨sv, rfl, hf.row hr hg, bytes_keep hb hf (fun a n c hv hl => hq _ (by rw [hv]; rfl) (bytes_lt hb a n c hv hl))⟩
theorem RefAt.fr0 {w w' : World} {g : Nat} {q : Option Nat} {l : List UInt8} {d : Bool} (h : RefAt w g q l d) (hf : Fr0 w w') : RefAt w' g q l d := h.fr hf (fun f => f) (fun _ _ _ f => f)
/-- the pieces so far -/
structure CarryR (w : World) (g : Nat) (vl : Value) (acc : List Pc) (X : List (Value × Int)) (wr : World) : Prop where
  row : wr.ownsRow w.heap.size 60 2 vl acc.length (kcells X)
  lie : Lie wr (fun k => k < w.heap.size ∨ vl.ownBlock = some k) X acc
  fr : Fr (fun k => k = g) w wr
  old : g < w.heap.size
theorem CarryR.step {w wr w1 : World} {g : Nat} {vl : Value} {acc : List Pc} {X : List (Value × Int)} (h : CarryR w g vl acc X wr) (hf : Fr (fun k => k = g) wr w1) : CarryR w g vl acc X w1 := by
  have hlt : ∀ k, vl.ownBlock = some k → w.heap.size ≤ k := fun k hk => (h.row.lt k hk).1
  exact ⟨owns_fr hf h.row (fun k hk e => by have := hlt k hk; have := h.old; omega), h.lie.keep hf (fun k _ e => .inl (by have := h.old; omega)) (fun _ _ e => e), h.fr.trans' hf, h.old⟩
theorem CarryR.fr0 {w wr w1 : World} {g : Nat} {vl : Value} {acc : List Pc} {X : List (Value × Int)} (h : CarryR w g vl acc X wr) (hf : Fr0 wr w1) : CarryR w g vl acc X w1 := h.step (hf.mono (fun _ _ f => f.elim))
theorem CarryR.snoc {w wr w1 : World} {g : Nat} {vl vl' : Value} {acc : List Pc} {X : List (Value × Int)} (h : CarryR w g vl acc X wr) (pv : Value) (p : Pc) (hpB : BytesIs wr pv p.b) (hpC : Clear (fun k => k < w.heap.size ∨ vl.ownBlock = some k) pv p.b) (hp1 : pv.oneCell' = true)
    (hf : Fr (fun k => vl.ownBlock = some k) wr w1) (hrow : w1.ownsRow w.heap.size 60 2 vl' (acc.length + 1) (kcells X ++ [pv, .int .i64 p.e])) (hnr : NewRow wr vl vl') : CarryR w g vl' (acc ++ [p]) (X ++ [(pv, p.e)]) w1 := by
  have hlt : ∀ k, vl.ownBlock = some k → w.heap.size ≤ k := fun k hk => (h.row.lt k hk).1
  refine ⟨?_, (h.lie.snoc (pv, p.e) p rfl hpB hpC hp1).keep hf (fun k _ e => .inr e) (fun k hk e => ?_), h.fr.trans hf (fun k hk e => ?_), h.old⟩
  · rw [kcells_append, List.length_append]
    exact hrow
  · rcases e with e | e
    · exact .inl e
    · rcases hnr with hnr | hnr
      · exact .inr (by rw [← hnr]; exact e)
      · have := hnr k e; omega
  · have := hlt k e; omega
theorem CarryR.pieces {w wr : World} {g : Nat} {vl : Value} {acc : List Pc} {X : List (Value × Int)} (h : CarryR w g vl acc X wr) : Pieces wr (fun k => k < w.heap.size) vl acc := by
  refine ⟨X, h.lie.keep (Fr.refl (fun _ => False) wr) (fun _ _ f => f.elim) (fun k _ e => .inl e), ?_, fun a n c hv hl e => ?_⟩
  · have hkl := kcells_length X
    have hxl := h.lie.1
    rcases h.row.2 with ⟨rfl, h0⟩ | ⟨b, cap, cur, rfl, hb, hg, hnc, hcm, hcs, ht⟩
    · rw [h0]
      have : X = [] := List.eq_nil_of_length_eq_zero (by omega)
      subst this
      exact ValsIs.nil wr
    · refine ⟨_, cap, b, 0, rfl, hnc, fun _ => rfl, fun j hj => ?_⟩
      rw [Nat.zero_add, h.row.cellAt j (by omega), List.getD_eq_getElem?_getD, List.getElem?_eq_getElem hj]
      rfl
  · have ho : vl.ownBlock = some a.block := by rw [hv]; rfl
    have := (h.row.lt _ ho).1; omega
/-- the bytes at hand: in a block of their own -/
def RefIn (w : World) (g : Nat) (vl : Value) (A : Option Addr) (C : Nat) (W : List UInt8) (wr : World) : Prop := wr.rowIs g 37 2 (fun i => if i = 0 then .slice A W.length C else .bool false) ∧ BytesIs wr (.slice A W.length C) W ∧ ∀ p, A = some p → w.heap.size ≤ p.block ∧ vl.ownBlock ≠ some p.block
theorem RefIn.fr0 {w w1 wr : World} {g : Nat} {vl : Value} {A : Option Addr} {C : Nat} {W : List UInt8} (h : RefIn w g vl A C W wr) (hf : Fr0 wr w1) : RefIn w g vl A C W w1 := ⟨hf.row h.1 (fun f => f), h.2.1.fr0 hf, h.2.2⟩
theorem RefIn.snoc {w w1 wr : World} {g : Nat} {vl vl' : Value} {acc : List Pc} {X : List (Value × Int)} {A : Option Addr} {C : Nat} {W : List UInt8} (h : RefIn w g vl A C W wr) (hk : CarryR w g vl acc X wr) (hf : Fr (fun k => vl.ownBlock = some k) wr w1) (hnr : NewRow wr vl vl') (hA : ∀ p, A = some p → p.block < wr.heap.size) : RefIn w g vl' A C W w1 := by
  obtain ⟨h1, h2, h3⟩ := h
  refine ⟨hf.row h1 (fun e => ?_), bytes_keep h2 hf (fun a n c hv hl e => ?_), fun p hp => ⟨(h3 p hp).1, fun e => ?_⟩⟩
  · have := (hk.row.lt _ e).1; have := hk.old; omega
  · simp only [Value.slice.injEq] at hv
    exact (h3 a hv.1).2 e
  · rcases hnr with hnr | hnr
    · exact (h3 p hp).2 (by rw [← hnr]; exact e)
    · have := hnr _ e; have := hA p hp; omega
/-- what is left stays at hand -/
theorem RefIn.cut {w wr : World} {g : Nat} {vl : Value} {A A' : Option Addr} {C C' n : Nat} {W : List UInt8} (h : RefIn w g vl A C W wr) (hg : g < w.heap.size) (hn : n ≤ W.length) (hb : BytesIs wr (.slice A' (W.length - n) C') (W.drop n)) (ha : ∀ q, A' = some q → ∃ p, A = some p ∧ q.block = p.block) :
    RefIn w g vl A' C' (W.drop n) (wr.setCell ⟨g, 0, none⟩ (.slice A' (W.length - n) C')) := by
  obtain ⟨h1, h2, h3⟩ := h
  have hl : (W.drop n).length = W.length - n := List.length_drop
  refine ⟨(h1.set 0 _).congr (fun i hi => ?_), ?_, fun p hp => ?_⟩
  · match i, hi with
    | 0, _ => rw [hl]; rfl
    | 1, _ => rfl
  · rw [hl]
    refine bytes_keep hb (Fr.setCell (S := fun k => k = g) (p := ⟨g, 0, none⟩) (Fr.refl _ _) (fun _ => rfl) _) (fun a m c hv _ e => ?_)
    simp only [Value.slice.injEq] at hv
    obtain ⟨p, hp, hpb⟩ := ha a hv.1
    have := (h3 p hp).1
    omega
  · obtain ⟨p', hp', hpb⟩ := ha p hp
    rw [hpb]
    exact h3 p' hp'
theorem len2_eq {W : List UInt8} (h : 2 ≤ W.length) : len2 W = (W.getD 0 0).toNat * 256 + (W.getD 1 0).toNat := by
  match W, h with
  | a :: b :: W, _ => simp [len2, num]
def RFeedPost (g : Nat) (q : Option Nat) (l : List UInt8) (d : Bool) (b : List UInt8) (w : World) (e : Ending) (w' : World) : Prop := ∃ v q', e = .returned v ∧ RefAt w' g q' (feed l d b).w (feed l d b).d ∧ ((feed l d b).w = [] ∨ ∀ k, q' = some k → w.heap.size ≤ k) ∧ Pieces w' (fun k => k < w.heap.size) v (feed l d b).l ∧ Fr (fun k => k = g) w w'
end Go.Proofs.YtggdpmfghbnhcaaDoor.Frame
