/-
  Slices of answers, and what they keep while other blocks turn. No program stands here.
-/
import Derived.Test.YtjefddliebokaaaReplyMem
import Derived.Test.YtjefddliebokaaaAppNew
import Derived.Test.YtjefddliebokaaaOwns
namespace Go.Proofs.Ytjefddliebokaaa.Reply
open Go.RowKit Base Pack

/-- v lies nowhere in S -/
def Clear (S : Nat → Prop) (v : Value) (l : List UInt8) : Prop := ∀ a n c, v = .slice (some a) n c → 0 < l.length → ¬ S a.block
theorem bytes_keep {S : Nat → Prop} {w w' : World} {v : Value} {l : List UInt8} (h : BytesIs w v l) (hf : Fr S w w') (hc : Clear S v l) : BytesIs w' v l := by
  obtain ⟨a, cap, pb, po, hv, hle, ha, hcell⟩ := h
  refine ⟨a, cap, pb, po, hv, hle, ha, fun j hj => ?_⟩
  have h1 := hcell j hj
  have h2 := ha (by omega)
  subst h2
  rw [hf.cell (p := ⟨pb, po + j, none⟩) (World.block_lt_of_cell? w _ h1) (by have := hc ⟨pb, po, none⟩ _ _ hv (by omega); exact this)]
  exact h1
theorem bytes_lt {w : World} {v : Value} {l : List UInt8} (h : BytesIs w v l) : ∀ a n c, v = .slice (some a) n c → 0 < l.length → a.block < w.heap.size := by
  obtain ⟨a, cap, pb, po, rfl, hle, ha, hcell⟩ := h
  intro a' n c hv hl
  obtain rfl := ha hl
  cases hv
  exact World.block_lt_of_cell? w _ (hcell 0 hl)
/-- an answer with where its body lies -/
abbrev At := Value × Rp
def acells (X : List At) : List Value := X.flatMap fun p => [.int .i64 p.2.st, .bool p.2.hit, .int .u32 (p.2.slot : Int), p.1]
theorem acells_length (X : List At) : (acells X).length = X.length * 4 := by
  induction X with
  | nil => rfl
  | cons p X ih => simp only [acells, List.flatMap_cons, List.length_append, List.length_cons, List.length_nil] at *; omega
theorem acells_append (X Y : List At) : acells (X ++ Y) = acells X ++ acells Y := by simp [acells]
theorem acells_get (X : List At) (i : Nat) (h : i < X.length) (k : Nat) (hk : k < 4) : (acells X)[i * 4 + k]? = some (r4 (X[i]'h).1 (X[i]'h).2 k) := by
  induction X generalizing i with
  | nil => simp at h
  | cons p X ih =>
    have e : acells (p :: X) = [.int .i64 p.2.st, .bool p.2.hit, .int .u32 (p.2.slot : Int), p.1] ++ acells X := by simp [acells]
    cases i with
    | zero =>
      rw [e]
      match k, hk with
      | 0, _ => rfl
      | 1, _ => rfl
      | 2, _ => rfl
      | 3, _ => rfl
    | succ i =>
      have := ih i (by simpa using h)
      rw [e, List.getElem?_append_right (by simp; omega)]
      simp only [List.length_cons, List.length_nil, List.getElem_cons_succ]
      rw [show (i + 1) * 4 + k - (0 + 1 + 1 + 1 + 1) = i * 4 + k by omega]
      exact this
/-- the bodies read as they should; they lie nowhere in S -/
def Bods (w : World) (S : Nat → Prop) (X : List At) : Prop := ∀ p ∈ X, BytesIs w p.1 p.2.body ∧ Clear S p.1 p.2.body ∧ p.1.oneCell' = true
theorem Bods.nil (w : World) (S : Nat → Prop) : Bods w S [] := fun p hp => by simp at hp
theorem Bods.keep {S T U : Nat → Prop} {w w' : World} {X : List At} (h : Bods w S X) (hf : Fr T w w') (hT : ∀ k, k < w.heap.size → T k → S k) (hU : ∀ k, k < w.heap.size → U k → S k) : Bods w' U X := fun p hp => by
  obtain ⟨e2, e3, e4⟩ := h p hp
  exact ⟨bytes_keep e2 hf (fun a n c hv hl t => e3 a n c hv hl (hT _ (bytes_lt e2 a n c hv hl) t)), fun a n c hv hl t => e3 a n c hv hl (hU _ (bytes_lt e2 a n c hv hl) t), e4⟩
theorem Bods.fr0 {S : Nat → Prop} {w w' : World} {X : List At} (h : Bods w S X) (hf : Fr0 w w') : Bods w' S X := h.keep hf (fun _ _ f => f.elim) (fun _ _ e => e)
theorem Bods.append {S : Nat → Prop} {w : World} {X Y : List At} (h : Bods w S X) (k : Bods w S Y) : Bods w S (X ++ Y) := fun p hp => by
  rcases List.mem_append.1 hp with hp | hp
  · exact h p hp
  · exact k p hp
theorem acells_one {w : World} {S : Nat → Prop} {X : List At} (h : Bods w S X) : ∀ u ∈ acells X, u.oneCell' = true := by
  intro u hu
  simp only [acells, List.mem_flatMap, List.mem_cons, List.not_mem_nil, or_false] at hu
  obtain ⟨p, hp, rfl | rfl | rfl | rfl⟩ := hu
  · rfl
  · rfl
  · rfl
  · exact (h p hp).2.2
/-- a slice of answers that reads as L; nothing of it lies in S -/
def Reps (w : World) (S : Nat → Prop) (v : Value) (L : List Rp) : Prop := ∃ X : List At, X.map (·.2) = L ∧ Bods w S X ∧ ValsIs w v X.length (acells X) ∧ ∀ a n c, v = .slice (some a) n c → 0 < X.length → ¬ S a.block
theorem Reps.nil (w : World) (S : Nat → Prop) : Reps w S (.slice none 0 0) [] := ⟨[], rfl, Bods.nil w S, ValsIs.nil w, fun a n c h => by cases h⟩
theorem Reps.keep {S T U : Nat → Prop} {w w' : World} {v : Value} {L : List Rp} (h : Reps w S v L) (hf : Fr T w w') (hT : ∀ k, k < w.heap.size → T k → S k) (hU : ∀ k, k < w.heap.size → U k → S k) : Reps w' U v L := by
  obtain ⟨X, hL, hx, hv, hc⟩ := h
  obtain ⟨a, cap, pb, po, rfl, hle, ha, hcell⟩ := hv
  have hkl := acells_length X
  have hlt : 0 < X.length → pb < w.heap.size := fun hl => World.block_lt_of_cell? w _ (hcell 0 (by omega))
  have hS : 0 < X.length → ¬ S pb := fun hl => by
    obtain rfl := ha hl
    exact hc _ _ _ rfl hl
  refine ⟨X, hL, hx.keep hf hT hU, ⟨a, cap, pb, po, rfl, hle, ha, fun j hj => ?_⟩, fun a' n c hv hl hu => ?_⟩
  · have hl : 0 < X.length := by omega
    rw [hf.cell (p := ⟨pb, po + j, none⟩) (hlt hl) (fun t => hS hl (hT _ (hlt hl) t))]
    exact hcell j hj
  · obtain rfl := ha hl
    cases hv
    exact hS hl (hU _ (hlt hl) hu)
theorem Reps.fr0 {S : Nat → Prop} {w w' : World} {v : Value} {L : List Rp} (h : Reps w S v L) (hf : Fr0 w w') : Reps w' S v L := h.keep hf (fun _ _ f => f.elim) (fun _ _ h => h)
theorem Reps.form {S : Nat → Prop} {w : World} {v : Value} {L : List Rp} (h : Reps w S v L) : ∃ a c, v = .slice a L.length c := by
  obtain ⟨X, rfl, _, ⟨a, c, _, _, hv, _⟩, _⟩ := h
  exact ⟨a, c, by rw [List.length_map]; exact hv⟩
/-- the cells of answer i, and its body -/
theorem Reps.at {S : Nat → Prop} {w : World} {a : Option Addr} {n cap : Nat} {L : List Rp} (h : Reps w S (.slice a n cap) L) (i : Nat) (hi : i < L.length) :
    ∃ pb po sv, a = some ⟨pb, po, none⟩ ∧ (∀ k, k < 4 → w.cell? ⟨pb, po + i * 4 + k, none⟩ = some (r4 sv (L[i]'hi) k)) ∧ BytesIs w sv (L[i]'hi).body ∧ Clear S sv (L[i]'hi).body ∧ ¬ S pb := by
  obtain ⟨X, rfl, hx, ⟨a', cap', pb, po, hv, hle, ha, hcell⟩, hc⟩ := h
  rw [List.length_map] at hi
  simp only [Value.slice.injEq] at hv
  have ha' := ha (by omega)
  rw [← hv.1] at ha'
  subst ha'
  have hm := hx (X[i]) (List.getElem_mem hi)
  have hkl := acells_length X
  refine ⟨pb, po, (X[i]).1, rfl, fun k hk => ?_, ?_, ?_, hc _ _ _ rfl (by omega)⟩
  · rw [Nat.add_assoc, hcell (i * 4 + k) (by omega), List.getD_eq_getElem?_getD, acells_get X i hi k hk, List.getElem_map]
    rfl
  · rw [List.getElem_map]; exact hm.1
  · rw [List.getElem_map]; exact hm.2.1
/-- a row of one's own that reads so -/
theorem reps_own {S : Nat → Prop} {w : World} {base : Nat} {e : TypeId} {v : Value} {X : List At} (ho : w.ownsRow base e 4 v X.length (acells X)) (hb : Bods w S X) (hS : ∀ k, v.ownBlock = some k → ¬ S k) : Reps w S v (X.map (·.2)) := by
  refine ⟨X, rfl, hb, ?_, fun a n c hv hl e => hS a.block (by rw [hv]; rfl) e⟩
  have hkl := acells_length X
  rcases ho.2 with ⟨rfl, h0⟩ | ⟨b, cap, cur, rfl, hbb, hg, hnc, hcm, hcs, ht⟩
  · rw [h0]
    have : X = [] := List.eq_nil_of_length_eq_zero h0
    subst this
    exact ValsIs.nil w
  · refine ⟨_, cap, b, 0, rfl, hnc, fun _ => rfl, fun j hj => ?_⟩
    rw [Nat.zero_add, ho.cellAt j (by omega), List.getD_eq_getElem?_getD, List.getElem?_eq_getElem hj]
    rfl
theorem quad_lit (w : World) (c0 c1 c2 c3 : Value) (t : TypeId) : ValsIs (w.alloc (.cells #[c0, c1, c2, c3] t)) (.slice (some ⟨w.heap.size, 0, none⟩) 1 1) 1 [c0, c1, c2, c3] := by
  refine ⟨_, 1, w.heap.size, 0, rfl, Nat.le_refl _, fun _ => rfl, fun j hj => ?_⟩
  rw [cell_of_row _ _ _ _ _ _ (heap_alloc_new w _)]
  match j, hj with
  | 0, _ => rfl
  | 1, _ => rfl
  | 2, _ => rfl
  | 3, _ => rfl
/-- answers gathered in a row of one's own that began at w0 -/
structure Gath (t : TypeId) (w0 wr : World) (vl : Value) (X : List At) : Prop where
  row : wr.ownsRow w0.heap.size t 4 vl X.length (acells X)
  bods : Bods wr (fun k => k < w0.heap.size ∨ vl.ownBlock = some k) X
  fr : Fr0 w0 wr
theorem Gath.start (t : TypeId) (w0 : World) : Gath t w0 w0 (.slice none 0 0) [] := ⟨World.ownsRow_nil _ _ _ _, Bods.nil _ _, Fr.refl _ _⟩
theorem Gath.fr0 {t : TypeId} {w0 w w1 : World} {vl : Value} {X : List At} (h : Gath t w0 w vl X) (hf : Fr0 w w1) : Gath t w0 w1 vl X :=
  ⟨ownsFr hf h.row (fun _ _ f => f), h.bods.fr0 hf, h.fr.trans' hf⟩
/-- one more, whose body was made behind the row's own block -/
theorem Gath.more {t : TypeId} {w0 w w1 : World} {vl vl' : Value} {X : List At} {p : At} (h : Gath t w0 w vl X) (hb : BytesIs w p.1 p.2.body) (hy : Clear (fun k => k < w0.heap.size ∨ vl.ownBlock = some k) p.1 p.2.body) (h1 : p.1.oneCell' = true)
    (hrow : w1.ownsRow w0.heap.size t 4 vl' (X.length + 1) (acells X ++ acells [p])) (hg : w.grownBy w1 vl.ownBlock) (hnr : NewRow w vl vl') : Gath t w0 w1 vl' (X ++ [p]) := by
  have hlt : ∀ k, vl.ownBlock = some k → w0.heap.size ≤ k := fun k hk => (h.row.lt k hk).1
  have hf : Fr (fun k => vl.ownBlock = some k) w w1 := Fr.of_grown hg (fun k hk e => e)
  have hP : Bods w (fun k => k < w0.heap.size ∨ vl.ownBlock = some k) [p] := fun q hq => by
    simp only [List.mem_singleton] at hq
    subst hq
    exact ⟨hb, hy, h1⟩
  refine ⟨?_, (h.bods.append hP).keep hf (fun k _ e => .inr e) (fun k hk e => ?_), h.fr.trans hf (fun k hk e => ?_)⟩
  · rw [acells_append, List.length_append]
    exact hrow
  · rcases e with e | e
    · exact .inl e
    · rcases hnr with hnr | hnr
      · exact .inr (by rw [← hnr]; exact e)
      · have := hnr k e; omega
  · have := hlt k e; omega
theorem Gath.reps {t : TypeId} {w0 wr : World} {vl : Value} {X : List At} (h : Gath t w0 wr vl X) : Reps wr (fun k => k < w0.heap.size) vl (X.map (·.2)) :=
  reps_own h.row (h.bods.keep (Fr.refl (fun _ => False) wr) (fun _ _ f => f.elim) (fun k _ e => .inl e)) (fun k hk e => by have := (h.row.lt k hk).1; omega)
def LogPost (b : List UInt8) (w : World) (e : Ending) (w' : World) : Prop := ∃ v, e = .returned (.tuple #[v, .int .i64 (log b).e]) ∧ Reps w' (fun k => k < w.heap.size) v (log b).l ∧ Fr0 w w'
end Go.Proofs.Ytjefddliebokaaa.Reply
