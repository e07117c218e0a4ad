/-
  What stays while Feed goes round: a cutter, what is left to feed, the pieces so far.
-/
import Derived.Test.YtggdpmfghbnhcaaDoorFrameMem
namespace Go.Proofs.YtggdpmfghbnhcaaDoor.Frame
open Go.RowKit Base Pack Crc

theorem infoPc : (Tryd.prog.info? 33).map (fun i => (i.zero, i.size, i.bytes)) = some (some (.agg #[.slice none 0 0, .int .i64 0]), 2, 32) := by kernel_rfl
/-- where the pieces' bytes don't lie -/
def Off (w : World) (q' : Option Nat) (vl : Value) (k : Nat) : Prop := k < w.heap.size ∨ q' = some k ∨ vl.ownBlock = some k
/-- the pieces so far -/
structure Carry (w : World) (g : Nat) (q q' : Option Nat) (vl : Value) (acc : List Pc) (X : List (Value × Int)) (wr : World) : Prop where
  nq : NewQ w q q'
  row : wr.ownsRow w.heap.size 33 2 vl acc.length (kcells X)
  lie : Lie wr (Off w q' vl) X acc
  fr : Fr (V g q) w wr
  old : g < w.heap.size
theorem row_ne {w wr : World} {g : Nat} {q' : Option Nat} {wt : List UInt8} {dd : Bool} {vl : Value} {n : Nat} {xs : List Value} (hc : CutAt wr g q' wt dd) (ho : wr.ownsRow w.heap.size 33 2 vl n xs) : ∀ k, vl.ownBlock = some k → q' ≠ some k := fun k hk e => by
  obtain ⟨sv, rfl, _, hs⟩ := hc
  obtain ⟨cs, h1⟩ := owns_heap ho hk
  obtain ⟨cs2, h2⟩ := owns_heap hs e
  rw [h1] at h2
  simp only [Option.some.injEq, Obj.cells.injEq] at h2
  exact absurd h2.2.1 (by decide)
theorem Carry.step {w wr w1 : World} {g : Nat} {q q' q1 : Option Nat} {vl : Value} {acc : List Pc} {X : List (Value × Int)} {wt : List UInt8} {dd : Bool} (h : Carry w g q q' vl acc X wr) (hc : CutAt wr g q' wt dd) (hf : Fr (V g q') wr w1) (hn : NewQ wr q' q1) : Carry w g q q1 vl acc X w1 := by
  have hlt : ∀ k, vl.ownBlock = some k → w.heap.size ≤ k := fun k hk => (h.row.lt k hk).1
  refine ⟨h.nq.trans hn h.fr.size, owns_fr hf h.row (fun k hk e => ?_), h.lie.keep hf (fun k _ e => ?_) (fun k hk e => ?_), h.fr.trans hf (fun k hk e => ?_), h.old⟩
  · rcases e with rfl | e
    · have := hlt _ hk; have := h.old; omega
    · exact row_ne hc h.row k hk e
  · rcases e with rfl | e
    · exact .inl h.old
    · exact .inr (.inl e)
  · rcases e with e | e | e
    · exact .inl e
    · rcases hn with rfl | hn
      · exact .inr (.inl e)
      · have := hn k e; omega
    · exact .inr (.inr e)
  · rcases e with rfl | e
    · exact .inl rfl
    · rcases h.nq with rfl | hq
      · exact .inr e
      · have := hq k e; omega
theorem Carry.fr0 {w wr w1 : World} {g : Nat} {q q' : Option Nat} {vl : Value} {acc : List Pc} {X : List (Value × Int)} (h : Carry w g q q' vl acc X wr) (hf : Fr0 wr w1) : Carry w g q q' vl acc X w1 :=
  ⟨h.nq, owns_fr hf h.row (fun _ _ f => f), h.lie.keep hf (fun _ _ f => f.elim) (fun _ _ e => e), h.fr.trans hf (fun _ _ f => f.elim), h.old⟩
/-- a piece more -/
theorem Carry.snoc {w wr w1 : World} {g : Nat} {q q' : Option Nat} {vl vl' : Value} {acc : List Pc} {X : List (Value × Int)} {wt : List UInt8} {dd : Bool} (h : Carry w g q q' vl acc X wr) (hc : CutAt wr g q' wt dd) (pv : Value) (p : Pc) (hpB : BytesIs wr pv p.b) (hpC : Clear (Off w q' vl) pv p.b) (hp1 : pv.oneCell' = true)
    (hf : Fr (fun k => vl.ownBlock = some k) wr w1) (hrow : w1.ownsRow w.heap.size 33 2 vl' (acc.length + 1) (kcells X ++ [pv, .int .i64 p.e])) (hnr : NewRow wr vl vl') : Carry w g q q' vl' (acc ++ [p]) (X ++ [(pv, p.e)]) w1 := by
  have hlt : ∀ k, vl.ownBlock = some k → w.heap.size ≤ k := fun k hk => (h.row.lt k hk).1
  refine ⟨h.nq, ?_, (h.lie.snoc (pv, p.e) p rfl hpB hpC hp1).keep hf (fun k _ e => .inr (.inr e)) (fun k hk e => ?_), h.fr.trans hf (fun k hk e => ?_), h.old⟩
  · rw [kcells_append, List.length_append]
    exact hrow
  · rcases e with e | e | e
    · exact .inl e
    · exact .inr (.inl e)
    · rcases hnr with hnr | hnr
      · exact .inr (.inr (by rw [← hnr]; exact e))
      · have := hnr k e; omega
  · have := hlt k e; omega
theorem Carry.cut_fr {w wr w1 : World} {g : Nat} {q q' : Option Nat} {vl : Value} {acc : List Pc} {X : List (Value × Int)} {wt : List UInt8} {dd : Bool} (h : Carry w g q q' vl acc X wr) (hc : CutAt wr g q' wt dd) (hf : Fr (fun k => vl.ownBlock = some k) wr w1) : CutAt w1 g q' wt dd := by
  refine hc.fr hf (fun k hk e => ?_)
  rcases hk with rfl | hk
  · have := (h.row.lt _ e).1; have := h.old; omega
  · exact row_ne hc h.row k e hk
/-- what is left to feed lies aside -/
def Aside (w : World) (g : Nat) (q : Option Nat) (vb : Value) (bk : List UInt8) : Prop := ∀ A m c, vb = .slice (some A) m c → 0 < bk.length → A.block < w.heap.size ∧ ¬ V g q A.block
theorem Aside.clear {w : World} {g : Nat} {q q' : Option Nat} {vb : Value} {bk : List UInt8} (h : Aside w g q vb bk) (hn : NewQ w q q') : Clear (V g q') vb bk := fun A m c hv hl e => by
  obtain ⟨h1, h2⟩ := h A m c hv hl
  rcases e with e | e
  · exact h2 (.inl e)
  · rcases hn with rfl | hn
    · exact h2 (.inr e)
    · have := hn _ e; omega
def FeedPost (g : Nat) (q : Option Nat) (l : List UInt8) (d : Bool) (b : List UInt8) (w : World) (e : Ending) (w' : World) : Prop := ∃ v q', e = .returned v ∧ CutAt w' g q' (feed l d b).w (feed l d b).d ∧ NewQ w q q' ∧ Pieces w' (fun k => k < w.heap.size ∨ q' = some k) v (feed l d b).l ∧ Fr (V g q) w w'
theorem Carry.pieces {w wr : World} {g : Nat} {q q' : Option Nat} {vl : Value} {acc : List Pc} {X : List (Value × Int)} {wt : List UInt8} {dd : Bool} (h : Carry w g q q' vl acc X wr) (hc : CutAt wr g q' wt dd) : Pieces wr (fun k => k < w.heap.size ∨ q' = some k) vl acc := by
  refine ⟨X, h.lie.keep (Fr.refl (fun _ => False) wr) (fun _ _ f => f.elim) (fun k _ e => ?_), ?_, fun a n c hv hl e => ?_⟩
  · rcases e with e | e
    · exact .inl e
    · exact .inr (.inl e)
  · have hkl := kcells_length X
    have hxl := h.lie.1
    rcases h.row.2 with ⟨rfl, h0⟩ | ⟨b, cap, cur, rfl, hb, hg, hnc, hcm, hcs, ht⟩
    · rw [h0]
      have : X = [] := List.eq_nil_of_length_eq_zero (by omega)
      subst this
      exact ValsIs.nil wr
    · refine ⟨_, cap, b, 0, rfl, hnc, fun _ => rfl, fun j hj => ?_⟩
      rw [Nat.zero_add, h.row.cellAt j (by omega), List.getD_eq_getElem?_getD, List.getElem?_eq_getElem hj]
      rfl
  · have ho : vl.ownBlock = some a.block := by rw [hv]; rfl
    rcases e with e | e
    · have := (h.row.lt _ ho).1; omega
    · exact row_ne hc h.row _ ho e
/-- the mathematics of a round -/
theorem go_more {wt bk : List UInt8} {n : Nat} {F : St} {acc : List Pc} (hF : F = ⟨acc ++ (cut (wt ++ bk)).l, (cut (wt ++ bk)).w, (cut (wt ++ bk)).d⟩) : F = ⟨acc ++ (cut (wt ++ bk.take n ++ bk.drop n)).l, (cut (wt ++ bk.take n ++ bk.drop n)).w, (cut (wt ++ bk.take n ++ bk.drop n)).d⟩ := by
  rw [List.append_assoc, List.take_append_drop]; exact hF
theorem go_dies {wt bk : List UInt8} {n : Nat} {F : St} {acc : List Pc} (hF : F = ⟨acc ++ (cut (wt ++ bk)).l, (cut (wt ++ bk)).w, (cut (wt ++ bk)).d⟩) (he : errOf (wt ++ bk.take n) = 2) : F = ⟨acc ++ [⟨[], 2⟩], [], true⟩ := by
  rw [go_more (n := n) hF, round_dead _ he]
theorem go_whole {wt bk : List UInt8} {n : Nat} {F : St} {acc : List Pc} (hf : Fro wt) (hn : n = min (needOf wt - wt.length) bk.length) (hF : F = ⟨acc ++ (cut (wt ++ bk)).l, (cut (wt ++ bk)).w, (cut (wt ++ bk)).d⟩) (he : errOf (wt ++ bk.take n) = 0) :
    F = ⟨(acc ++ [judge (wt ++ bk.take n)]) ++ (cut ([] ++ bk.drop n)).l, (cut ([] ++ bk.drop n)).w, (cut ([] ++ bk.drop n)).d⟩ := by
  rw [go_more (n := n) hF, round_whole hf (by omega) he, List.nil_append]
  simp
end Go.Proofs.YtggdpmfghbnhcaaDoor.Frame
