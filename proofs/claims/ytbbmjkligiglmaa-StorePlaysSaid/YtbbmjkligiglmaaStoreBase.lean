/-
  A store: all series of one tenant, by their names. No program stands here.
  How a store lies in memory: names beside slices of samples; the reference's own row of them. No program stands here.
  Both sides of a place in a row of elements of two cells; one cell of a store's row written over. No program stands here.
  The reference's store, its blocks told: all lie in O, and a call turns no other. No program stands here.
-/
import Derived.Test.YtbbmjkligiglmaaOrdAll
import Derived.Test.YtbbmjkligiglmaaSerAll
import Derived.Test.YtbbmjkligiglmaaAggSpec
namespace Go.Proofs.Ytbbmjkligiglmaa.Store
open Go.RowKit Base _root_.Go.Proofs.Ytbbmjkligiglmaa.Tenant _root_.Go.Proofs.Ytbbmjkligiglmaa.Series _root_.Go.Proofs.Ytbbmjkligiglmaa.Agg
open _root_.Go.Proofs.Ytbbmjkligiglmaa.Ord (Ent place has put Sorted)

/-- a name and its samples -/
abbrev SE := ByteArray × List Sm
/-- the names alone -/
def nms (ss : List SE) : List Ent := ss.map fun s => (s.1, Value.bool false)
theorem nms_length (ss : List SE) : (nms ss).length = ss.length := List.length_map _
theorem nms_names (ss : List SE) : (nms ss).map (·.1) = ss.map (·.1) := by unfold nms; rw [List.map_map]; rfl
theorem place_names (nm : ByteArray) : ∀ {es fs : List Ent}, es.map (·.1) = fs.map (·.1) → place nm es = place nm fs
  | [], [], _ => rfl
  | [], _ :: _, h => by simp at h
  | _ :: _, [], h => by simp at h
  | e :: es, f :: fs, h => by
    simp only [List.map_cons, List.cons.injEq] at h
    unfold place
    rw [h.1, place_names nm h.2]
theorem has_names (nm : ByteArray) {es fs : List Ent} (h : es.map (·.1) = fs.map (·.1)) : has nm es = has nm fs := by
  unfold has
  rw [place_names nm h]
  have hg : (es[place nm fs]?).map (·.1) = (fs[place nm fs]?).map (·.1) := by
    rw [← List.getElem?_map, ← List.getElem?_map, h]
  cases h1 : es[place nm fs]? with
  | none =>
    rw [h1] at hg
    cases h2 : fs[place nm fs]? with
    | none => rfl
    | some f => rw [h2] at hg; simp at hg
  | some e =>
    rw [h1] at hg
    cases h2 : fs[place nm fs]? with
    | none => rw [h2] at hg; simp at hg
    | some f => rw [h2] at hg; simp at hg; simp [hg]
def placeS (nm : ByteArray) (ss : List SE) : Nat := place nm (nms ss)
def hasS (nm : ByteArray) (ss : List SE) : Bool := has nm (nms ss)
def putS (nm : ByteArray) (v : List Sm) (ss : List SE) : List SE := if hasS nm ss then ss.set (placeS nm ss) (nm, v) else ss.take (placeS nm ss) ++ (nm, v) :: ss.drop (placeS nm ss)
def SortedS (ss : List SE) : Prop := Sorted (nms ss)
/-- what is kept of a name -/
def wasS (nm : ByteArray) (ss : List SE) : List Sm := if hasS nm ss = true then (ss.getD (placeS nm ss) (nm, [])).2 else []
theorem was_none {nm : ByteArray} {ss : List SE} (h : hasS nm ss = false) : wasS nm ss = [] := by unfold wasS; rw [h]; rfl
theorem hasS_lt {nm : ByteArray} {ss : List SE} (h : hasS nm ss = true) : placeS nm ss < ss.length := by
  have := Ord.has_lt h
  rwa [nms_length] at this
theorem was_some {nm : ByteArray} {ss : List SE} (h : hasS nm ss = true) : ss[placeS nm ss]? = some (nm, wasS nm ss) := by
  have hlt := hasS_lt h
  obtain ⟨v, hv⟩ := Ord.has_iff.1 h
  unfold wasS
  rw [if_pos h, List.getD_eq_getElem?_getD, List.getElem?_eq_getElem hlt]
  have h2 : ((nms ss)[place nm (nms ss)]?).map (·.1) = some nm := by rw [hv]; rfl
  unfold nms at h2
  rw [List.getElem?_map, Option.map_map] at h2
  have h3 : (ss[placeS nm ss]?).map (·.1) = some nm := h2
  rw [List.getElem?_eq_getElem hlt] at h3
  simp only [Option.map_some, Option.some.injEq] at h3
  simp only [Option.getD_some]
  exact congrArg some (Prod.ext h3 rfl)
theorem put_nms (nm : ByteArray) (v : List Sm) (ss : List SE) : nms (putS nm v ss) = put nm (Value.bool false) (nms ss) := by
  unfold putS Ord.put
  show nms (if has nm (nms ss) = true then ss.set (place nm (nms ss)) (nm, v) else ss.take (place nm (nms ss)) ++ (nm, v) :: ss.drop (place nm (nms ss))) = _
  split
  · unfold nms
    rw [List.map_set]
  · unfold nms
    rw [List.map_append, List.map_cons, List.map_take, List.map_drop]
theorem sorted_putS {nm : ByteArray} {v : List Sm} {ss : List SE} (h : SortedS ss) : SortedS (putS nm v ss) := by
  unfold SortedS
  rw [put_nms]
  exact Ord.sorted_put h
theorem putS_length {nm : ByteArray} {v : List Sm} {ss : List SE} : (putS nm v ss).length = if hasS nm ss = true then ss.length else ss.length + 1 := by
  rw [← nms_length, put_nms, Ord.put_length, nms_length]
  rfl
/-- what a push is told -/
def pushErr (most retain : Int) (nm : ByteArray) (l : List Sm) (ss : List SE) : Int := if hasS nm ss = false ∧ most ≤ (ss.length : Int) then 6 else if addErr (wasS nm ss) l retain ≠ 0 then 5 else 0
/-- .. and does -/
def pushSt (most retain : Int) (nm : ByteArray) (l : List Sm) (ss : List SE) : List SE := if pushErr most retain nm l ss = 0 then putS nm (addOut (wasS nm ss) l retain) ss else ss
def queryErr (nm : ByteArray) (ss : List SE) : Int := if hasS nm ss = true then 0 else 8
def queryOut (nm : ByteArray) (f t : Int) (ss : List SE) : Ag := if hasS nm ss = true then agOf (rangeOf (wasS nm ss) f t) else zeroA
def lenS : List SE → Nat
  | [] => 0
  | s :: ss => s.2.length + lenS ss
/-- a store that may be -/
structure OkS (most retain : Int) (ss : List SE) : Prop where
  hm : 1 ≤ most ∧ most ≤ 16
  hr : 1 ≤ retain ∧ retain ≤ 64
  srt : SortedS ss
  le : (ss.length : Int) ≤ most
  each : ∀ s ∈ ss, (s.2.length : Int) ≤ retain ∧ SizedS s.2 ∧ Ris s.2
theorem okS_nil {most retain : Int} (h1 : 1 ≤ most ∧ most ≤ 16) (h2 : 1 ≤ retain ∧ retain ≤ 64) : OkS most retain [] := ⟨h1, h2, Ord.sorted_nil, by simp; omega, fun s h => by cases h⟩
theorem OkS.was {most retain : Int} {ss : List SE} (h : OkS most retain ss) (nm : ByteArray) : ((wasS nm ss).length : Int) ≤ retain ∧ SizedS (wasS nm ss) ∧ Ris (wasS nm ss) := by
  cases hh : hasS nm ss with
  | false =>
    rw [was_none hh]
    exact ⟨by simp; have := h.hr; omega, sized_nil, ris_short (by simp)⟩
  | true => exact h.each _ (List.mem_of_getElem? (was_some hh))
theorem mem_putS {nm : ByteArray} {v : List Sm} {ss : List SE} {s : SE} (h : s ∈ putS nm v ss) : s = (nm, v) ∨ s ∈ ss := by
  unfold putS at h
  split at h
  · rcases List.mem_or_eq_of_mem_set h with h | h
    · exact .inr h
    · exact .inl h
  · rcases List.mem_append.1 h with h | h
    · exact .inr (List.mem_of_mem_take h)
    · rcases List.mem_cons.1 h with h | h
      · exact .inl h
      · exact .inr (List.mem_of_mem_drop h)
theorem addOut_ok {l m : List Sm} {r : Int} (hl : SizedS l) (hm : SizedS m) (hr : 1 ≤ r) (h : addErr l m r = 0) : ((addOut l m r).length : Int) ≤ r ∧ SizedS (addOut l m r) ∧ Ris (addOut l m r) := by
  obtain ⟨_, _, h3, h4⟩ := add_zero h
  rw [h4]
  unfold lastN
  refine ⟨by rw [List.length_drop]; omega, sized_sub (sized_app hl hm) (fun q hq => List.mem_of_mem_drop hq), ?_⟩
  exact List.Pairwise.sublist (List.drop_sublist _ _) h3
theorem OkS.push {most retain : Int} {ss : List SE} (h : OkS most retain ss) (nm : ByteArray) (l : List Sm) (hl : SizedS l) : OkS most retain (pushSt most retain nm l ss) := by
  unfold pushSt
  split
  · rename_i h0
    unfold pushErr at h0
    split at h0
    · exact absurd h0 (by decide)
    · rename_i h1
      split at h0
      · exact absurd h0 (by decide)
      · rename_i h2
        have h2 : addErr (wasS nm ss) l retain = 0 := Decidable.not_not.1 h2
        refine ⟨h.hm, h.hr, sorted_putS h.srt, ?_, fun s hs => ?_⟩
        · rw [putS_length]
          split
          · exact h.le
          · rename_i h3
            have h3 : hasS nm ss = false := by simpa using h3
            have : ¬ most ≤ (ss.length : Int) := fun hx => h1 ⟨h3, hx⟩
            omega
        · rcases mem_putS hs with rfl | hs
          · exact addOut_ok (h.was nm).2.1 hl h.hr.1 h2
          · exact h.each s hs
  · exact h
end Go.Proofs.Ytbbmjkligiglmaa.Store
namespace Go.Proofs.Ytbbmjkligiglmaa.Store
open Go.RowKit Base _root_.Go.Proofs.Ytbbmjkligiglmaa.Tenant _root_.Go.Proofs.Ytbbmjkligiglmaa.Series _root_.Go.Proofs.Ytbbmjkligiglmaa.Agg
open _root_.Go.Proofs.Ytbbmjkligiglmaa.Ord (Ent place has put Sorted ptr)

/-- a slice that reads as l, in a block of samples -/
structure PairsT (w : World) (t : TypeId) (v : Value) (l : List Sm) : Prop where
  is : PairsIs w v l
  typ : Typ w t v l
theorem PairsT.fr {S : Nat → Prop} {w w' : World} {t : TypeId} {v : Value} {l : List Sm} (h : PairsT w t v l) (hf : Fr S w w') (hS : ∀ k cs fr, w.heap[k]? = some (.cells cs t fr) → ¬ S k) : PairsT w' t v l := by
  refine ⟨pairs_fr h.is hf (fun a n c hv h0 => ?_), fun a n c hv h0 => ?_⟩
  · obtain ⟨cs, fr, hh⟩ := h.typ a n c hv h0
    exact hS _ _ _ hh
  · obtain ⟨cs, fr, hh⟩ := h.typ a n c hv h0
    exact ⟨cs, fr, hf.heap hh (hS _ _ _ hh)⟩
theorem PairsT.fr0 {w w' : World} {t : TypeId} {v : Value} {l : List Sm} (h : PairsT w t v l) (hf : Fr0 w w') : PairsT w' t v l := h.fr hf (fun _ _ _ _ f => f)
theorem pairsT_nil (w : World) (t : TypeId) : PairsT w t (.slice none 0 0) [] := ⟨pairs_nil w, typ_nil _ _ _ _ _⟩
/-- each name's slice reads as what is kept of it -/
structure Kept (w : World) (t : TypeId) (es : List Ent) (ss : List SE) : Prop where
  names : es.map (·.1) = ss.map (·.1)
  each : ∀ (i : Nat) (e : Ent) (s : SE), es[i]? = some e → ss[i]? = some s → PairsT w t e.2 s.2
theorem Kept.nil (w : World) (t : TypeId) : Kept w t [] [] := ⟨rfl, fun i e s h _ => by simp at h⟩
theorem Kept.length {w : World} {t : TypeId} {es : List Ent} {ss : List SE} (h : Kept w t es ss) : es.length = ss.length := by
  have := congrArg List.length h.names
  simpa using this
theorem Kept.fr {S : Nat → Prop} {w w' : World} {t : TypeId} {es : List Ent} {ss : List SE} (h : Kept w t es ss) (hf : Fr S w w') (hS : ∀ k cs fr, w.heap[k]? = some (.cells cs t fr) → ¬ S k) : Kept w' t es ss := ⟨h.names, fun i e s he hs => (h.each i e s he hs).fr hf hS⟩
theorem Kept.fr0 {w w' : World} {t : TypeId} {es : List Ent} {ss : List SE} (h : Kept w t es ss) (hf : Fr0 w w') : Kept w' t es ss := h.fr hf (fun _ _ _ _ f => f)
theorem Kept.same {w : World} {t : TypeId} {es : List Ent} {ss : List SE} (h : Kept w t es ss) : es.map (·.1) = (nms ss).map (·.1) := by rw [nms_names]; exact h.names
theorem Kept.place {w : World} {t : TypeId} {es : List Ent} {ss : List SE} (h : Kept w t es ss) (nm : ByteArray) : place nm es = placeS nm ss := place_names nm h.same
theorem Kept.has {w : World} {t : TypeId} {es : List Ent} {ss : List SE} (h : Kept w t es ss) (nm : ByteArray) : has nm es = hasS nm ss := has_names nm h.same
theorem Kept.sorted {w : World} {t : TypeId} {es : List Ent} {ss : List SE} (h : Kept w t es ss) (hs : SortedS ss) : Sorted es := by
  rw [Ord.sorted_iff, h.same]
  exact Ord.sorted_iff.1 hs
theorem Kept.get {w : World} {t : TypeId} {es : List Ent} {ss : List SE} (h : Kept w t es ss) {nm : ByteArray} (hh : hasS nm ss = true) : ∃ v, es[Ord.place nm es]? = some (nm, v) ∧ PairsT w t v (wasS nm ss) := by
  obtain ⟨v, hv⟩ := Ord.has_iff.1 ((h.has nm).trans hh)
  exact ⟨v, hv, h.each _ (nm, v) (nm, wasS nm ss) hv (by rw [h.place nm]; exact was_some hh)⟩
theorem Kept.put {w : World} {t : TypeId} {es : List Ent} {ss : List SE} (h : Kept w t es ss) (nm : ByteArray) {v : Value} {l : List Sm} (hv : PairsT w t v l) : Kept w t (Ord.put nm v es) (putS nm l ss) := by
  have hp := h.place nm
  have hh := h.has nm
  have hl := h.length
  unfold Ord.put putS
  rw [hp, hh]
  split
  · rename_i hx
    have hlt := hasS_lt hx
    refine ⟨?_, fun i e s he hs => ?_⟩
    · rw [List.map_set, List.map_set, h.names]
    · rw [List.getElem?_set] at he hs
      by_cases hi : placeS nm ss = i
      · rw [if_pos hi, if_pos (by omega)] at he hs
        cases he; cases hs
        exact hv
      · rw [if_neg hi] at he hs
        exact h.each i e s he hs
  · refine ⟨?_, fun i e s he hs => ?_⟩
    · rw [List.map_append, List.map_append, List.map_cons, List.map_cons, List.map_take, List.map_take, List.map_drop, List.map_drop, h.names]
    · have hle : placeS nm ss ≤ ss.length := by
        have := Ord.place_le nm es
        omega
      by_cases h1 : i < placeS nm ss
      · rw [List.getElem?_append_left (by rw [List.length_take]; omega), List.getElem?_take_of_lt h1] at he hs
        exact h.each i e s he hs
      · rw [List.getElem?_append_right (by rw [List.length_take]; omega), List.length_take] at he hs
        by_cases h2 : i = placeS nm ss
        · subst h2
          rw [show placeS nm ss - min (placeS nm ss) es.length = 0 by omega] at he
          rw [show placeS nm ss - min (placeS nm ss) ss.length = 0 by omega] at hs
          simp at he hs
          subst he hs
          exact hv
        · rw [show i - min (placeS nm ss) es.length = (i - 1 - placeS nm ss) + 1 by omega] at he
          rw [show i - min (placeS nm ss) ss.length = (i - 1 - placeS nm ss) + 1 by omega] at hs
          simp only [List.getElem?_cons_succ, List.getElem?_drop] at he hs
          rw [show placeS nm ss + (i - 1 - placeS nm ss) = i - 1 by omega] at he hs
          exact h.each (i - 1) e s he hs
/-- two cells each -/
def ecells (es : List Ent) : List Value := es.flatMap fun e => [.string e.1, e.2]
theorem ecells_length (es : List Ent) : (ecells es).length = es.length * 2 := by
  induction es with
  | nil => rfl
  | cons e es ih => simp only [ecells, List.flatMap_cons, List.length_append, List.length_cons, List.length_nil] at *; omega
theorem ecells_append (es fs : List Ent) : ecells (es ++ fs) = ecells es ++ ecells fs := by simp [ecells]
theorem ecells_get (es : List Ent) (i : Nat) (e : Ent) (h : es[i]? = some e) : (ecells es)[i * 2]? = some (.string e.1) ∧ (ecells es)[i * 2 + 1]? = some e.2 := by
  induction es generalizing i with
  | nil => simp at h
  | cons x es ih =>
    cases i with
    | zero => simp at h; subst h; simp [ecells]
    | succ i =>
      have := ih i (by simpa using h)
      have e0 : ecells (x :: es) = [.string x.1, x.2] ++ ecells es := by simp [ecells]
      rw [e0, List.getElem?_append_right (by simp; omega), List.getElem?_append_right (by simp; omega)]
      simp only [List.length_cons, List.length_nil]
      rw [show (i + 1) * 2 - (0 + 1 + 1) = i * 2 by omega, show (i + 1) * 2 + 1 - (0 + 1 + 1) = i * 2 + 1 by omega]
      exact this
/-- the reference's store lies at g -/
structure RStAt (w : World) (B : Nat) (T E : TypeId) (g : Nat) (most retain : Int) (es : List Ent) : Prop where
  hB : B ≤ g
  row : ∃ A C, w.heap[g]? = some (.cells #[.int .i64 most, .int .i64 retain, .slice A es.length C] T (0, 0)) ∧ w.ownsRow B E 2 (.slice A es.length C) es.length (ecells es)
theorem RStAt.at {w : World} {B : Nat} {T E : TypeId} {g : Nat} {most retain : Int} {es : List Ent} (h : RStAt w B T E g most retain es) : ∃ A C, w.heap[g]? = some (.cells #[.int .i64 most, .int .i64 retain, .slice A es.length C] T (0, 0)) ∧ w.ownsRow B E 2 (.slice A es.length C) es.length (ecells es) ∧
    ∀ (i : Nat) (e : Ent), es[i]? = some e → ∃ b, A = some ⟨b, 0, none⟩ ∧ w.cell? ⟨b, i * 2, none⟩ = some (.string e.1) ∧ w.cell? ⟨b, i * 2 + 1, none⟩ = some e.2 := by
  obtain ⟨A, C, h1, h2⟩ := h.row
  refine ⟨A, C, h1, h2, fun i e he => ?_⟩
  have hi := (List.getElem?_eq_some_iff.1 he).1
  rcases h2.2 with ⟨hv, h0⟩ | ⟨b, cap, cur, hv, hb, hg, hnc, hcm, hcs, ht⟩
  · omega
  · cases hv
    obtain ⟨k1, k2⟩ := ecells_get es i e he
    refine ⟨b, rfl, ?_, ?_⟩
    · rw [h2.cellAt (i * 2) (by omega), k1]
    · rw [h2.cellAt (i * 2 + 1) (by omega), k2]
/-- the blocks of a store's two kinds that were made since B -/
abbrev FrS (B : Nat) (T E : TypeId) (w w' : World) : Prop := Ord.FrO B T E E w w'
theorem RStAt.fr {S : Nat → Prop} {w w' : World} {B : Nat} {T E : TypeId} {g : Nat} {most retain : Int} {es : List Ent} (h : RStAt w B T E g most retain es) (hf : Fr S w w') (hS : ∀ k, Ord.Mine w B T E E k → ¬ S k) : RStAt w' B T E g most retain es := by
  obtain ⟨A, C, h1, h2⟩ := h.row
  refine ⟨h.hB, A, C, hf.heap h1 (hS g ⟨h.hB, _, _, _, h1, .inl rfl⟩), Ord.owns_fr hf h2 (fun q hq => ?_)⟩
  obtain ⟨hb, cs, hc⟩ := Ord.owns_heap h2 hq
  exact hS q ⟨hb, _, _, _, hc, .inr (.inl rfl)⟩
theorem RStAt.fr0 {w w' : World} {B : Nat} {T E : TypeId} {g : Nat} {most retain : Int} {es : List Ent} (h : RStAt w B T E g most retain es) (hf : Fr0 w w') : RStAt w' B T E g most retain es := h.fr hf fun _ _ f => f
/-- where the name is, or -1 -/
def idx (nm : ByteArray) (es : List Ent) : Int := if has nm es = true then (place nm es : Int) else -1
theorem idx_at {nm : ByteArray} {es : List Ent} (hs : Sorted es) {i : Nat} {e : Ent} (he : es[i]? = some e) (h : e.1 = nm) : idx nm es = (i : Int) := by
  subst h
  have hp := hs.named he
  unfold idx
  rw [if_pos (Ord.has_iff.2 ⟨e.2, by rw [hp]; exact he⟩), hp]
theorem idx_no {nm : ByteArray} {es : List Ent} (h : ∀ (i : Nat) (e : Ent), es[i]? = some e → e.1 ≠ nm) : idx nm es = -1 := by
  unfold idx
  rw [if_neg (fun hh => ?_)]
  obtain ⟨v, hv⟩ := Ord.has_iff.1 hh
  exact h _ _ hv rfl
end Go.Proofs.Ytbbmjkligiglmaa.Store
namespace Go.Proofs.Ytbbmjkligiglmaa.Store
open Go.RowKit Base _root_.Go.Proofs.Ytbbmjkligiglmaa.Tenant _root_.Go.Proofs.Ytbbmjkligiglmaa.Series _root_.Go.Proofs.Ytbbmjkligiglmaa.Agg
open _root_.Go.Proofs.Ytbbmjkligiglmaa.Ord (Ent place has put Sorted ptr Mine FrO)

section
variable {P : Program}
theorem cut_hi2 (t e : TypeId) (ht : P.underlying t = some (.slice e)) (hs : (P.info? e).map (·.size) = some 2) (a : Option Addr) (n cap hi : Nat) (h2 : hi ≤ cap) (wx : World) :
    (Instr.sliceAt t (.slice a n cap) none (some (.int .i64 (hi : Int))) none).run P wx = .ok (.slice a hi cap) wx := by
  obtain ⟨i, hi', hz⟩ : ∃ i, P.info? e = some i ∧ i.size = 2 := by
    cases hq : P.info? e with
    | none => simp [hq] at hs
    | some i => exact ⟨i, rfl, by simpa [hq] using hs⟩
  have hE : P.elem t = e := by simp [Program.elem, ht]
  rw [run_sliceAt_slice wx t _ _ _ _ (by rw [hE]; exact ht), run_slice_h wx t a n cap (by rw [hE]; exact ht) .i64 (hi : Int) (by omega) (by omega), hE]
  simp [sizeOf, typeInfo, hi', hz, sliced, Sem.run_bind]
  intro _
  cases a with
  | none => rfl
  | some x => simp [Addr.add]
theorem cut_lo2 (t e : TypeId) (ht : P.underlying t = some (.slice e)) (hs : (P.info? e).map (·.size) = some 2) (a : Option Addr) (n cap lo : Nat) (l : Int) (hl : l = (lo : Int)) (h1 : lo ≤ n) (h2 : n ≤ cap) (wx : World) :
    (Instr.sliceAt t (.slice a n cap) (some (.int .i64 l)) none none).run P wx = .ok (.slice (if cap = lo then a else a.map (·.add (lo * 2))) (n - lo) (cap - lo)) wx := by
  subst hl
  obtain ⟨i, hi', hz⟩ : ∃ i, P.info? e = some i ∧ i.size = 2 := by
    cases hq : P.info? e with
    | none => simp [hq] at hs
    | some i => exact ⟨i, rfl, by simpa [hq] using hs⟩
  have hE : P.elem t = e := by simp [Program.elem, ht]
  rw [run_sliceAt_slice wx t _ _ _ _ (by rw [hE]; exact ht), run_slice_l wx t a n cap (by rw [hE]; exact ht) .i64 (lo : Int) (by omega) (by omega), hE]
  simp [sizeOf, typeInfo, hi', hz, sliced, Sem.run_bind]
/-- both sides of a place in an own row of elements of two cells -/
theorem row_cuts2 {w : World} {base : Nat} {t e : TypeId} {A : Option Addr} {C n : Nat} {xs : List Value} (ht : P.underlying t = some (.slice e)) (hs : (P.info? e).map (·.size) = some 2) (h : w.ownsRow base e 2 (.slice A n C) n xs) (k : Nat) (hk : k ≤ n) :
    ((∀ wx, (Instr.sliceAt t (.slice A n C) none (some (.int .i64 (k : Int))) none).run P wx = .ok (.slice A k C) wx) ∧ ValsIs w (.slice A k C) k (xs.take (k * 2))) ∧
      (∃ A2, (∀ (l : Int), l = (k : Int) → ∀ wx, (Instr.sliceAt t (.slice A n C) (some (.int .i64 l)) none none).run P wx = .ok (.slice A2 (n - k) (C - k)) wx) ∧ ValsIs w (.slice A2 (n - k) (C - k)) (n - k) (xs.drop (k * 2))) := by
  have hl := h.1
  rcases h.2 with ⟨hv, h0⟩ | ⟨b, cap, cur, hv, _, hg, hnc, _, hcs, hcur⟩
  · cases hv
    obtain rfl : k = 0 := by omega
    obtain rfl : xs = [] := List.eq_nil_of_length_eq_zero (by omega)
    exact ⟨⟨fun wx => cut_hi2 t e ht hs none 0 0 0 (Nat.le_refl _) wx, none, 0, 0, 0, rfl, Nat.zero_le _, fun h => absurd h (Nat.lt_irrefl _), fun j hj => absurd hj (Nat.not_lt_zero _)⟩,
      ⟨_, fun l hl wx => cut_lo2 t e ht hs none 0 0 0 l hl (Nat.le_refl _) (Nat.le_refl _) wx, none, 0, 0, 0, rfl, Nat.zero_le _, fun h => absurd h (Nat.lt_irrefl _), fun j hj => absurd hj (Nat.not_lt_zero _)⟩⟩
  · cases hv
    have hget : ∀ i, i < xs.length → w.cell? ⟨b, i, none⟩ = some (xs.getD i undef) := fun i hi => by
      obtain ⟨u, hu⟩ : ∃ u, xs[i]? = some u := ⟨_, List.getElem?_eq_getElem hi⟩
      rw [cell_of_row _ _ _ _ _ _ hg, List.getD_eq_getElem?_getD, hu]
      rw [← hcur, List.getElem?_take] at hu
      split at hu
      · simpa using hu
      · cases hu
    have hmul : k * 2 ≤ n * 2 := Nat.mul_le_mul_right 2 hk
    refine ⟨⟨fun wx => cut_hi2 t e ht hs _ n C k (by omega) wx, _, C, b, 0, rfl, by omega, fun _ => rfl, fun j hj => ?_⟩, ?_⟩
    · rw [List.length_take] at hj
      rw [Nat.zero_add, hget j (by omega)]
      simp only [List.getD_eq_getElem?_getD, List.getElem?_take]
      rw [if_pos (by omega)]
    · by_cases hc : C = k
      · have hz : n - k = 0 := by omega
        refine ⟨some ⟨b, 0, none⟩, fun l hl wx => ?_, ?_⟩
        · have := cut_lo2 t e ht hs (some ⟨b, 0, none⟩) n C k l hl hk hnc wx
          rwa [if_pos hc] at this
        · refine ⟨_, C - k, b, 0, rfl, by omega, fun _ => rfl, fun j hj => ?_⟩
          rw [List.length_drop] at hj
          omega
      · refine ⟨some ⟨b, k * 2, none⟩, fun l hl wx => ?_, ?_⟩
        · have := cut_lo2 t e ht hs (some ⟨b, 0, none⟩) n C k l hl hk hnc wx
          rw [if_neg hc] at this
          rw [this]
          simp [Addr.add_mid]
        · refine ⟨_, C - k, b, k * 2, rfl, by omega, fun _ => rfl, fun j hj => ?_⟩
          rw [List.length_drop] at hj
          rw [hget (k * 2 + j) (by omega)]
          simp only [List.getD_eq_getElem?_getD, List.getElem?_drop]
end
theorem ecells_take (es : List Ent) (k : Nat) : ecells (es.take k) = (ecells es).take (k * 2) := by
  induction es generalizing k with
  | nil => simp [ecells]
  | cons e es ih =>
    cases k with
    | zero => simp [ecells]
    | succ k =>
      have e0 : ∀ l : List Ent, ecells (e :: l) = .string e.1 :: e.2 :: ecells l := fun l => by simp [ecells]
      rw [List.take_succ_cons, e0, e0, ih, show (k + 1) * 2 = k * 2 + 1 + 1 by omega, List.take_succ_cons, List.take_succ_cons]
theorem ecells_drop (es : List Ent) (k : Nat) : ecells (es.drop k) = (ecells es).drop (k * 2) := by
  induction es generalizing k with
  | nil => simp [ecells]
  | cons e es ih =>
    cases k with
    | zero => simp [ecells]
    | succ k =>
      have e0 : ∀ l : List Ent, ecells (e :: l) = .string e.1 :: e.2 :: ecells l := fun l => by simp [ecells]
      rw [List.drop_succ_cons, e0, ih, show (k + 1) * 2 = k * 2 + 1 + 1 by omega, List.drop_succ_cons, List.drop_succ_cons]
theorem ecells_set (es : List Ent) (k : Nat) (nm : ByteArray) (v u : Value) (h : es[k]? = some (nm, u)) : ecells (es.set k (nm, v)) = (ecells es).set (k * 2 + 1) v := by
  induction es generalizing k with
  | nil => simp at h
  | cons e es ih =>
    have e0 : ∀ (e : Ent) (l : List Ent), ecells (e :: l) = .string e.1 :: e.2 :: ecells l := fun e l => by simp [ecells]
    cases k with
    | zero =>
      simp at h
      subst h
      simp [e0]
    | succ k =>
      rw [List.set_cons_succ, e0, e0, ih k (by simpa using h), show (k + 1) * 2 + 1 = k * 2 + 1 + 1 + 1 by omega, List.set_cons_succ, List.set_cons_succ]
theorem ecells_one (es : List Ent) (h : ∀ e ∈ es, e.2.oneCell' = true) : ∀ u ∈ ecells es, u.oneCell' = true := by
  intro u hu
  unfold ecells at hu
  obtain ⟨e, he, hx⟩ := List.mem_flatMap.1 hu
  simp only [List.mem_cons, List.not_mem_nil, or_false] at hx
  rcases hx with rfl | rfl
  · rfl
  · exact h e he
/-- a cell of an own row of two cells an element is written over -/
theorem owns_set {w : World} {base : Nat} {E : TypeId} {A : Option Addr} {C n : Nat} {xs : List Value} (h : w.ownsRow base E 2 (.slice A n C) n xs) (b : Nat) (hA : A = some ⟨b, 0, none⟩) (j : Nat) (hj : j < n * 2) (v : Value) : (w.setCell ⟨b, j, none⟩ v).ownsRow base E 2 (.slice A n C) n (xs.set j v) := by
  subst hA
  refine ⟨by rw [List.length_set]; exact h.1, ?_⟩
  rcases h.2 with ⟨hv, _⟩ | ⟨b', cap, cur, hv, hb, hg, hnc, hcm, hcs, ht⟩
  · cases hv
  · cases hv
    refine .inr ⟨b, C, cur.setIfInBounds j v, rfl, hb, Ord.heap_setCell hg v, hnc, hcm, by simpa using hcs, ?_⟩
    rw [Array.toList_setIfInBounds, List.take_set, ht]
/-- .. of a store's row -/
theorem RStAt.set {w : World} {B : Nat} {T E : TypeId} {g : Nat} {most retain : Int} {es : List Ent} (hT : T ≠ E) {A : Option Addr} {C b : Nat} (hB : B ≤ g) (hrow : w.heap[g]? = some (.cells #[.int .i64 most, .int .i64 retain, .slice A es.length C] T (0, 0))) (hown : w.ownsRow B E 2 (.slice A es.length C) es.length (ecells es))
    (hA : A = some ⟨b, 0, none⟩) {k : Nat} {nm : ByteArray} {u : Value} (hk : es[k]? = some (nm, u)) (v : Value) :
    RStAt (w.setCell ⟨b, k * 2 + 1, none⟩ v) B T E g most retain (es.set k (nm, v)) ∧ FrO B T E E w (w.setCell ⟨b, k * 2 + 1, none⟩ v) := by
  have hlt := (List.getElem?_eq_some_iff.1 hk).1
  have hbb : ∃ cur fr, w.heap[b]? = some (.cells cur E fr) ∧ B ≤ b := by
    rcases hown.2 with ⟨hv, _⟩ | ⟨b', cap, cur, hv, hb, hg, _⟩
    · rw [hA] at hv; simp at hv
    · rw [hA] at hv; simp only [Value.slice.injEq, Option.some.injEq, Addr.mk.injEq] at hv; obtain ⟨⟨rfl, -⟩, -⟩ := hv; exact ⟨_, _, hg, hb⟩
  obtain ⟨cur, fr, hg, hb⟩ := hbb
  have hne : g ≠ b := fun e => by
    subst e
    rw [hrow] at hg
    cases hg
    exact hT rfl
  refine ⟨⟨hB, A, C, ?_, ?_⟩, ?_⟩
  · rw [List.length_set]
    have hf : Fr (fun i => i = b) w (w.setCell ⟨b, k * 2 + 1, none⟩ v) := Fr.setCell (S := fun i => i = b) (p := ⟨b, k * 2 + 1, none⟩) (Fr.refl _ _) (fun _ => rfl) v
    exact hf.heap hrow hne
  · rw [List.length_set, ecells_set es k nm v u hk]
    exact owns_set hown b hA _ (by omega) v
  · exact Fr.setCell (p := ⟨b, k * 2 + 1, none⟩) (Fr.refl _ _) (fun _ => ⟨hb, cur, E, fr, hg, .inr (.inl rfl)⟩) v
theorem Kept.frS {B : Nat} {T E : TypeId} {w w' : World} {t : TypeId} {es : List Ent} {ss : List SE} (h : Kept w t es ss) (hf : FrO B T E E w w') (ht : t ≠ T ∧ t ≠ E) : Kept w' t es ss := h.fr hf (fun k cs fr hg ⟨_, cs', t', fr', hx, hk⟩ => by
  rw [hg] at hx
  cases hx
  rcases hk with rfl | rfl | rfl
  · exact ht.1 rfl
  · exact ht.2 rfl
  · exact ht.2 rfl)
theorem PairsT.frS {B : Nat} {T E : TypeId} {w w' : World} {t : TypeId} {v : Value} {l : List Sm} (h : PairsT w t v l) (hf : FrO B T E E w w') (ht : t ≠ T ∧ t ≠ E) : PairsT w' t v l := h.fr hf (fun k cs fr hg ⟨_, cs', t', fr', hx, hk⟩ => by
  rw [hg] at hx
  cases hx
  rcases hk with rfl | rfl | rfl
  · exact ht.1 rfl
  · exact ht.2 rfl
  · exact ht.2 rfl)
/-- each kept slice is one cell -/
theorem Kept.one {w : World} {t : TypeId} {es : List Ent} {ss : List SE} (h : Kept w t es ss) : ∀ e ∈ es, e.2.oneCell' = true := fun e he => by
  obtain ⟨i, hi⟩ := List.mem_iff_getElem?.1 he
  have hlt := (List.getElem?_eq_some_iff.1 hi).1
  have h2 : i < ss.length := by rw [← h.length]; exact hlt
  obtain ⟨a, c, hv⟩ := pairs_form (h.each i e _ hi (List.getElem?_eq_getElem h2)).is
  rw [hv]
  rfl
end Go.Proofs.Ytbbmjkligiglmaa.Store
namespace Go.Proofs.Ytbbmjkligiglmaa.Store
open Go.RowKit Base _root_.Go.Proofs.Ytbbmjkligiglmaa.Tenant _root_.Go.Proofs.Ytbbmjkligiglmaa.Series _root_.Go.Proofs.Ytbbmjkligiglmaa.Agg
open _root_.Go.Proofs.Ytbbmjkligiglmaa.Ord (Ent place has put Sorted ptr Mine FrO Grown)

theorem PairsT.frB {S : Nat → Prop} {w w' : World} {t : TypeId} {v : Value} {l : List Sm} (h : PairsT w t v l) (hf : Fr S w w') (hc : ∀ a n c, v = .slice (some a) n c → 0 < l.length → ¬ S a.block) : PairsT w' t v l :=
  ⟨pairs_fr h.is hf hc, fun a n c hv h0 => by
    obtain ⟨cs, fr, hh⟩ := h.typ a n c hv h0
    exact ⟨cs, fr, hf.heap hh (hc a n c hv h0)⟩⟩
theorem PairsT.lt {w : World} {t : TypeId} {v : Value} {l : List Sm} (h : PairsT w t v l) : ∀ a n c, v = .slice (some a) n c → 0 < l.length → a.block < w.heap.size := fun a n c hv h0 => by
  obtain ⟨cs, fr, hh⟩ := h.typ a n c hv h0
  exact (Array.getElem?_eq_some_iff.1 hh).1
theorem owns_base {w : World} {base b2 : Nat} {e : TypeId} {size : Nat} {v : Value} {n : Nat} {xs : List Value} (h : w.ownsRow base e size v n xs) (hb : b2 ≤ base) : w.ownsRow b2 e size v n xs := by
  refine ⟨h.1, ?_⟩
  rcases h.2 with h | ⟨g, cap, cur, hv, hx, r⟩
  · exact .inl h
  · exact .inr ⟨g, cap, cur, hv, Nat.le_trans hb hx, r⟩
/-- where the kept slices lie -/
def Lies (O : Nat → Prop) (es : List Ent) : Prop := ∀ e ∈ es, ∀ a n c, e.2 = .slice (some a) n c → 0 < n → O a.block
theorem Kept.frB {O S : Nat → Prop} {w w' : World} {t : TypeId} {es : List Ent} {ss : List SE} (h : Kept w t es ss) (hl : Lies O es) (hf : Fr S w w') (hS : ∀ k, k < w.heap.size → O k → ¬ S k) : Kept w' t es ss :=
  ⟨h.names, fun i e s he hs => (h.each i e s he hs).frB hf (fun a n c hv h0 => hS _ ((h.each i e s he hs).lt a n c hv h0) (by
    obtain ⟨a', c', hv'⟩ := pairs_form (h.each i e s he hs).is
    rw [hv] at hv'
    simp only [Value.slice.injEq] at hv'
    exact hl e (List.mem_of_getElem? he) a n c hv (by omega)))⟩
structure RIn (O : Nat → Prop) (w : World) (T E t : TypeId) (g : Nat) (most retain : Int) (es : List Ent) (ss : List SE) : Prop where
  row : ∃ A C, w.heap[g]? = some (.cells #[.int .i64 most, .int .i64 retain, .slice A es.length C] T (0, 0)) ∧ w.ownsRow 0 E 2 (.slice A es.length C) es.length (ecells es) ∧ ∀ b, (Value.slice A es.length C).ownBlock = some b → O b
  hg : O g
  kept : Kept w t es ss
  lies : Lies O es
theorem RIn.at {O : Nat → Prop} {w : World} {T E t : TypeId} {g : Nat} {most retain : Int} {es : List Ent} {ss : List SE} (h : RIn O w T E t g most retain es ss) : RStAt w 0 T E g most retain es := by
  obtain ⟨A, C, h1, h2, _⟩ := h.row
  exact ⟨Nat.zero_le _, A, C, h1, h2⟩
theorem RIn.parts {O : Nat → Prop} {w : World} {T E t : TypeId} {g : Nat} {most retain : Int} {es : List Ent} {ss : List SE} (h : RIn O w T E t g most retain es ss) : ∃ A C, w.heap[g]? = some (.cells #[.int .i64 most, .int .i64 retain, .slice A es.length C] T (0, 0)) ∧ w.ownsRow 0 E 2 (.slice A es.length C) es.length (ecells es) ∧
    (∀ (i : Nat) (e : Ent), es[i]? = some e → ∃ b, A = some ⟨b, 0, none⟩ ∧ w.cell? ⟨b, i * 2, none⟩ = some (.string e.1) ∧ w.cell? ⟨b, i * 2 + 1, none⟩ = some e.2) ∧ ∀ b, (Value.slice A es.length C).ownBlock = some b → O b := by
  obtain ⟨A, C, h1, h2, h3⟩ := h.row
  obtain ⟨A', C', k1, _, k3⟩ := h.at.at
  rw [h1] at k1
  simp only [Option.some.injEq, Obj.cells.injEq, Array.mk.injEq, List.cons.injEq, Value.slice.injEq, true_and, and_true] at k1
  obtain ⟨rfl, rfl⟩ := k1
  exact ⟨A, C, h1, h2, k3, h3⟩
theorem RIn.g_lt {O : Nat → Prop} {w : World} {T E t : TypeId} {g : Nat} {most retain : Int} {es : List Ent} {ss : List SE} (h : RIn O w T E t g most retain es ss) : g < w.heap.size := by
  obtain ⟨A, C, h1, _⟩ := h.row
  exact (Array.getElem?_eq_some_iff.1 h1).1
theorem RIn.mono {O O' : Nat → Prop} {w : World} {T E t : TypeId} {g : Nat} {most retain : Int} {es : List Ent} {ss : List SE} (h : RIn O w T E t g most retain es ss) (ho : ∀ k, O k → O' k) : RIn O' w T E t g most retain es ss := by
  obtain ⟨A, C, h1, h2, h3⟩ := h.row
  exact ⟨⟨A, C, h1, h2, fun b hb => ho _ (h3 b hb)⟩, ho _ h.hg, h.kept, fun e he a n c hv h0 => ho _ (h.lies e he a n c hv h0)⟩
theorem RIn.fr {O S : Nat → Prop} {w w' : World} {T E t : TypeId} {g : Nat} {most retain : Int} {es : List Ent} {ss : List SE} (h : RIn O w T E t g most retain es ss) (hf : Fr S w w') (hS : ∀ k, k < w.heap.size → O k → ¬ S k) : RIn O w' T E t g most retain es ss := by
  obtain ⟨A, C, h1, h2, h3⟩ := h.row
  exact ⟨⟨A, C, hf.heap h1 (hS g h.g_lt h.hg), Ord.owns_fr hf h2 (fun q hq => hS q (World.ownsRow.lt h2 q hq).2 (h3 q hq)), h3⟩, h.hg, h.kept.frB h.lies hf hS, h.lies⟩
theorem RIn.fr0 {O : Nat → Prop} {w w' : World} {T E t : TypeId} {g : Nat} {most retain : Int} {es : List Ent} {ss : List SE} (h : RIn O w T E t g most retain es ss) (hf : Fr0 w w') : RIn O w' T E t g most retain es ss := h.fr hf fun _ _ _ f => f
/-- a new one -/
theorem rin_new (w : World) (T E t : TypeId) (most retain : Int) : RIn (fun k => k = w.heap.size) (w.alloc (.cells #[.int .i64 most, .int .i64 retain, .slice none 0 0] T)) T E t w.heap.size most retain [] [] :=
  ⟨⟨none, 0, heap_alloc_new w _, World.ownsRow_nil _ _ _ _, fun _ h => by simp [Value.ownBlock] at h⟩, rfl, Kept.nil _ _, fun e he => by cases he⟩
/-- a name's slice is another now -/
theorem rin_set {O : Nat → Prop} {w w3 : World} {T E t : TypeId} {g : Nat} {most retain : Int} {es : List Ent} {ss : List SE} {nm : ByteArray} {l : List Sm} {v : Value} {b C : Nat} (hT : T ≠ E) (ht : t ≠ T ∧ t ≠ E) (h : RIn O w T E t g most retain es ss)
    (hrow : w.heap[g]? = some (.cells #[.int .i64 most, .int .i64 retain, .slice (some ⟨b, 0, none⟩) es.length C] T (0, 0))) (hown : w.ownsRow 0 E 2 (.slice (some ⟨b, 0, none⟩) es.length C) es.length (ecells es)) (hO : O b)
    (hh : hasS nm ss = true) (hf : Fr0 w w3) (hv : PairsT w3 t v l) (hn : ∀ a n c, v = .slice (some a) n c → 0 < l.length → w.heap.size ≤ a.block) :
    RIn (Grown O w (w3.setCell ⟨b, placeS nm ss * 2 + 1, none⟩ v)) (w3.setCell ⟨b, placeS nm ss * 2 + 1, none⟩ v) T E t g most retain (es.set (placeS nm ss) (nm, v)) (putS nm l ss) ∧ Fr O w (w3.setCell ⟨b, placeS nm ss * 2 + 1, none⟩ v) ∧ w3.frozen? ⟨b, placeS nm ss * 2 + 1, none⟩ = false := by
  obtain ⟨u0, hgot, _⟩ := h.kept.get hh
  rw [h.kept.place nm] at hgot
  have hpl := (List.getElem?_eq_some_iff.1 hgot).1
  have hown3 := Ord.owns_fr hf hown (fun _ _ f => f)
  have hrow3 := hf.heap hrow (fun f => f)
  obtain ⟨_, hfo⟩ := RStAt.set (B := 0) hT (Nat.zero_le g) hrow3 hown3 rfl hgot v
  have hsz : (w3.setCell ⟨b, placeS nm ss * 2 + 1, none⟩ v).heap.size = w3.heap.size := by simp [World.setCell]
  have hbt : ∃ cur fr, w3.heap[b]? = some (.cells cur E fr) ∧ w3.frozen? ⟨b, placeS nm ss * 2 + 1, none⟩ = false := by
    rcases hown3.2 with ⟨hv, _⟩ | ⟨b', cap, cur, hv, hb, hg, _⟩
    · simp at hv
    · simp only [Value.slice.injEq, Option.some.injEq, Addr.mk.injEq] at hv
      obtain ⟨⟨rfl, -⟩, -⟩ := hv
      exact ⟨_, _, hg, by simp [World.frozen?, hg]⟩
  obtain ⟨cur, fr, hbt, hfz⟩ := hbt
  have hne : g ≠ b := fun e => by
    subst e
    rw [hrow3] at hbt
    cases hbt
    exact hT rfl
  have hfb : Fr (fun i => i = b) w3 (w3.setCell ⟨b, placeS nm ss * 2 + 1, none⟩ v) := Fr.setCell (S := fun i => i = b) (p := ⟨b, placeS nm ss * 2 + 1, none⟩) (Fr.refl _ _) (fun _ => rfl) v
  refine ⟨⟨⟨some ⟨b, 0, none⟩, C, ?_, ?_, fun q hq => ?_⟩, .inl h.hg, ?_, fun e he a n c hev h0 => ?_⟩, Fr.setCell (p := ⟨b, placeS nm ss * 2 + 1, none⟩) (hf.zero) (fun _ => hO) v, hfz⟩
  · rw [List.length_set]
    exact hfb.heap hrow3 hne
  · rw [List.length_set, ecells_set es _ nm v _ hgot]
    exact owns_set hown3 b rfl _ (by omega) v
  · simp [Value.ownBlock] at hq
    subst hq
    exact .inl hO
  · have h4 := ((h.kept.fr0 hf).frS hfo ht).put nm (hv.frS hfo ht)
    unfold Ord.put at h4
    rw [if_pos ((h.kept.has nm).trans hh), h.kept.place nm] at h4
    exact h4
  · rcases List.mem_or_eq_of_mem_set he with he | he
    · exact .inl (h.lies e he a n c hev h0)
    · subst he
      obtain ⟨a', c', hv'⟩ := pairs_form hv.is
      have hev' : v = .slice (some a) n c := hev
      have hl : 0 < l.length := by
        rw [hev'] at hv'
        simp only [Value.slice.injEq] at hv'
        omega
      exact .inr ⟨hn a n c hev' hl, by rw [hsz]; exact hv.lt a n c hev' hl⟩
/-- a new name's -/
theorem rin_swap {O : Nat → Prop} {w W0 w8 : World} {T E t : TypeId} {g : Nat} {most retain : Int} {es : List Ent} {ss : List SE} {nm : ByteArray} {l : List Sm} {v V : Value} {A8 : Option Addr} {C8 k : Nat} (ht : t ≠ T ∧ t ≠ E) (h : RIn O w T E t g most retain es ss)
    (hrow : w.heap[g]? = some (.cells #[.int .i64 most, .int .i64 retain, V] T (0, 0))) (hk : place nm es = k) (hh : hasS nm ss = false) (hf : Fr0 w W0) (hf8 : Fr0 W0 w8) (hv : PairsT W0 t v l) (hn : ∀ a n c, v = .slice (some a) n c → 0 < l.length → w.heap.size ≤ a.block)
    (hO : w8.ownsRow W0.heap.size E 2 (.slice A8 (k + 1 + (es.length - k)) C8) (k + 1 + (es.length - k)) (ecells (es.take k) ++ [Value.string nm, v] ++ ecells (es.drop k))) :
    RIn (Grown O w (w8.setCell ⟨g, 2, none⟩ (.slice A8 (k + 1 + (es.length - k)) C8))) (w8.setCell ⟨g, 2, none⟩ (.slice A8 (k + 1 + (es.length - k)) C8)) T E t g most retain (es.take k ++ (nm, v) :: es.drop k) (putS nm l ss) ∧ Fr O w (w8.setCell ⟨g, 2, none⟩ (.slice A8 (k + 1 + (es.length - k)) C8)) := by
  have e1 : ecells (es.take k) ++ [Value.string nm, v] ++ ecells (es.drop k) = ecells (es.take k ++ (nm, v) :: es.drop k) := by
    rw [ecells_append, show (nm, v) :: es.drop k = [(nm, v)] ++ es.drop k from rfl, ecells_append, List.append_assoc]
    rfl
  rw [e1] at hO
  have hkl : k ≤ es.length := by rw [← hk]; exact Ord.place_le nm es
  have hm : (es.take k ++ (nm, v) :: es.drop k).length = k + 1 + (es.length - k) := by rw [List.length_append, List.length_cons, List.length_take, List.length_drop]; omega
  have hgl := h.g_lt
  have hf08 : Fr0 w w8 := hf.trans' hf8
  have h8 := hf08.heap hrow (fun f => f)
  have hs : Fr (fun i => i = g) w8 (w8.setCell ⟨g, 2, none⟩ (.slice A8 (k + 1 + (es.length - k)) C8)) := Fr.setCell (S := fun i => i = g) (p := ⟨g, 2, none⟩) (Fr.refl _ _) (fun _ => rfl) _
  have hfo : FrO 0 T E E w (w8.setCell ⟨g, 2, none⟩ (.slice A8 (k + 1 + (es.length - k)) C8)) := Fr.setCell (p := ⟨g, 2, none⟩) (FrO.of0 hf08) (fun _ => ⟨Nat.zero_le _, _, T, _, hrow, .inl rfl⟩) _
  have hfo8 : FrO 0 T E E w8 (w8.setCell ⟨g, 2, none⟩ (.slice A8 (k + 1 + (es.length - k)) C8)) := hs.mono fun i _ e => by
    have e' : i = g := e
    subst e'
    exact ⟨Nat.zero_le _, _, T, _, h8, .inl rfl⟩
  have hsz : (w8.setCell ⟨g, 2, none⟩ (.slice A8 (k + 1 + (es.length - k)) C8)).heap.size = w8.heap.size := by simp [World.setCell]
  refine ⟨⟨⟨A8, C8, ?_, ?_, fun q hq => ?_⟩, .inl h.hg, ?_, fun e he a n c hev h0 => ?_⟩, Fr.setCell (p := ⟨g, 2, none⟩) (hf08.zero) (fun _ => h.hg) _⟩
  · rw [hm, Ord.heap_setCell h8]
    rfl
  · rw [hm]
    have hW := hf.size
    exact owns_base (Ord.owns_fr hs hO (fun b hb e => by have := (hO.lt b hb).1; have e' : b = g := e; omega)) (Nat.zero_le _)
  · rw [hm] at hq
    have h5 := hO.lt q hq
    have hW := hf.size
    exact .inr ⟨by omega, by rw [hsz]; exact h5.2⟩
  · have h4 := (h.kept.frS hfo ht).put nm ((hv.fr0 hf8).frS hfo8 ht)
    unfold Ord.put at h4
    rw [if_neg (by rw [h.kept.has nm, hh]; decide), hk] at h4
    exact h4
  · have hnew : ∀ e : Ent, e = (nm, v) → e.2 = .slice (some a) n c → Grown O w (w8.setCell ⟨g, 2, none⟩ (.slice A8 (k + 1 + (es.length - k)) C8)) a.block := fun e he hev => by
      subst he
      obtain ⟨a', c', hv'⟩ := pairs_form hv.is
      have hev' : v = .slice (some a) n c := hev
      have hl : 0 < l.length := by
        rw [hev'] at hv'
        simp only [Value.slice.injEq] at hv'
        omega
      exact .inr ⟨hn a n c hev' hl, by rw [hsz]; exact Nat.lt_of_lt_of_le (hv.lt a n c hev' hl) hf8.size⟩
    rcases List.mem_append.1 he with he | he
    · exact .inl (h.lies e (List.mem_of_mem_take he) a n c hev h0)
    · rcases List.mem_cons.1 he with he | he
      · exact hnew e he hev
      · exact .inl (h.lies e (List.mem_of_mem_drop he) a n c hev h0)
end Go.Proofs.Ytbbmjkligiglmaa.Store
