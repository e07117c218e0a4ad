/-
  What a push does to one name, and to others: what StoreApart says. No program stands here.
-/
import Derived.Test.YtbbmjkligiglmaaStoreBase
namespace Go.Proofs.Ytbbmjkligiglmaa.Store
open Go.RowKit Base _root_.Go.Proofs.Ytbbmjkligiglmaa.Tenant _root_.Go.Proofs.Ytbbmjkligiglmaa.Series _root_.Go.Proofs.Ytbbmjkligiglmaa.Agg
open _root_.Go.Proofs.Ytbbmjkligiglmaa.Ord (Ent place has put Sorted)

theorem mem_was {nm : ByteArray} {v : List Sm} {ss : List SE} (h : SortedS ss) : (nm, v) ∈ ss ↔ hasS nm ss = true ∧ wasS nm ss = v := by
  constructor
  · intro hm
    obtain ⟨i, hi⟩ := List.mem_iff_getElem?.1 hm
    have hn : (nms ss)[i]? = some (nm, Value.bool false) := by
      unfold nms
      rw [List.getElem?_map, hi]
      rfl
    have hp : place nm (nms ss) = i := Ord.Sorted.named h hn
    have hh : hasS nm ss = true := Ord.has_iff.2 ⟨_, by rw [hp]; exact hn⟩
    refine ⟨hh, ?_⟩
    have hw := was_some hh
    have hp' : placeS nm ss = i := hp
    rw [hp', hi] at hw
    simp only [Option.some.injEq, Prod.mk.injEq, true_and] at hw
    exact hw.symm
  · rintro ⟨hh, rfl⟩
    exact List.mem_of_getElem? (was_some hh)
theorem mem_put_self {nm : ByteArray} {v : List Sm} {ss : List SE} : (nm, v) ∈ putS nm v ss := by
  unfold putS
  split
  · rename_i hh
    exact List.mem_iff_getElem?.2 ⟨placeS nm ss, by rw [List.getElem?_set_self (hasS_lt hh)]⟩
  · exact List.mem_append.2 (.inr List.mem_cons_self)
theorem mem_put_old {nm : ByteArray} {v : List Sm} {ss : List SE} {e : SE} (he : e ∈ ss) (hne : e.1 ≠ nm) : e ∈ putS nm v ss := by
  unfold putS
  split
  · rename_i hh
    obtain ⟨i, hi⟩ := List.mem_iff_getElem?.1 he
    have hni : placeS nm ss ≠ i := fun h => by
      rw [← h, was_some hh] at hi
      simp only [Option.some.injEq] at hi
      exact hne (by rw [← hi])
    exact List.mem_iff_getElem?.2 ⟨i, by rw [List.getElem?_set_ne hni]; exact hi⟩
  · rw [List.mem_append, List.mem_cons]
    rw [← List.take_append_drop (placeS nm ss) ss, List.mem_append] at he
    rcases he with he | he
    · exact .inl he
    · exact .inr (.inr he)
theorem was_put {nm : ByteArray} {v : List Sm} {ss : List SE} (h : SortedS ss) : hasS nm (putS nm v ss) = true ∧ wasS nm (putS nm v ss) = v := (mem_was (sorted_putS h)).1 mem_put_self
theorem was_other {nm name : ByteArray} {v : List Sm} {ss : List SE} (h : SortedS ss) (hne : name ≠ nm) : hasS name (putS nm v ss) = hasS name ss ∧ wasS name (putS nm v ss) = wasS name ss := by
  cases hh : hasS name ss with
  | true => exact (mem_was (sorted_putS h)).1 (mem_put_old ((mem_was h).2 ⟨hh, rfl⟩) hne)
  | false =>
    have h2 : hasS name (putS nm v ss) = false := by
      cases h3 : hasS name (putS nm v ss) with
      | false => rfl
      | true =>
        have hm := (mem_was (sorted_putS h)).2 ⟨h3, rfl⟩
        rcases mem_putS hm with e | hm
        · exact absurd (Prod.ext_iff.1 e).1 hne
        · have := ((mem_was h).1 hm).1
          rw [hh] at this
          cases this
    exact ⟨h2, by rw [was_none h2, was_none hh]⟩
/-- one name's part of a store, and a store of that name alone -/
structure Apart (name : ByteArray) (ss tt : List SE) : Prop where
  has : hasS name ss = hasS name tt
  was : wasS name ss = wasS name tt
  only : hasS name tt = false → tt = []
  le : tt.length ≤ 1
theorem apart_nil (name : ByteArray) : Apart name [] [] := ⟨rfl, rfl, fun _ => rfl, Nat.zero_le _⟩
theorem apart_other {most retain : Int} {name nm : ByteArray} {l : List Sm} {ss tt : List SE} (h : Apart name ss tt) (hs : SortedS ss) (hne : nm ≠ name) : Apart name (pushSt most retain nm l ss) tt := by
  unfold pushSt
  split
  · obtain ⟨h1, h2⟩ := was_other (v := addOut (wasS nm ss) l retain) hs (fun e => hne e.symm)
    exact ⟨h1.trans h.has, h2.trans h.was, h.only, h.le⟩
  · exact h
theorem apart_full {most retain : Int} {name nm : ByteArray} {l : List Sm} {ss tt : List SE} (h : Apart name ss tt) (hf : pushErr most retain nm l ss = 6) : Apart name (pushSt most retain nm l ss) tt := by
  unfold pushSt
  rw [hf]
  exact h
theorem apart_same {most retain : Int} {name : ByteArray} {l : List Sm} {ss tt : List SE} (h : Apart name ss tt) (hs : SortedS ss) (ht : SortedS tt) (hf : pushErr most retain name l ss ≠ 6) :
    pushErr 1 retain name l tt = pushErr most retain name l ss ∧ Apart name (pushSt most retain name l ss) (pushSt 1 retain name l tt) := by
  have h1 : ¬ (hasS name ss = false ∧ most ≤ (ss.length : Int)) := fun hx => hf (by unfold pushErr; rw [if_pos hx])
  have h2 : ¬ (hasS name tt = false ∧ (1 : Int) ≤ (tt.length : Int)) := fun hx => by
    have := h.only hx.1
    have h3 := hx.2
    rw [this] at h3
    simp at h3
  have e : pushErr 1 retain name l tt = pushErr most retain name l ss := by
    unfold pushErr
    rw [if_neg h1, if_neg h2, h.was]
  refine ⟨e, ?_⟩
  unfold pushSt
  rw [e]
  split
  · obtain ⟨a1, a2⟩ := was_put (nm := name) (v := addOut (wasS name ss) l retain) hs
    obtain ⟨b1, b2⟩ := was_put (nm := name) (v := addOut (wasS name tt) l retain) ht
    refine ⟨a1.trans b1.symm, by rw [a2, b2, h.was], fun hx => by (rw [b1] at hx; cases hx), ?_⟩
    rw [putS_length]
    split
    · exact h.le
    · rename_i hh
      have : tt = [] := h.only (by simpa using hh)
      subst this
      simp
  · exact h
end Go.Proofs.Ytbbmjkligiglmaa.Store
