/-
  A row of ints of one's own, read and written over; what Next tells. No program stands here.
-/
import Derived.Test.YtilddigiljappaaClockSpec
import Derived.Test.YtilddigiljappaaWays
namespace Go.Proofs.Ytilddigiljappaa.Clock
open Go.RowKit Base

abbrev I64 (n : Int) : Prop := -9223372036854775808 ≤ n ∧ n ≤ 9223372036854775807
def icells (l : List Int) : List Value := l.map fun x => .int .i64 x
theorem icells_length (l : List Int) : (icells l).length = l.length := List.length_map _
theorem icells_get (l : List Int) (j : Nat) (h : j < l.length) : (icells l)[j]? = some (.int .i64 (l.getD j 0)) := by
  unfold icells
  rw [List.getElem?_map, List.getElem?_eq_getElem h, List.getD_eq_getElem?_getD, List.getElem?_eq_getElem h]
  rfl
theorem icells_one (l : List Int) : ∀ u ∈ icells l, u.oneCell' = true := fun u hu => by
  obtain ⟨x, _, rfl⟩ := List.mem_map.1 hu
  rfl
theorem icells_set (l : List Int) (j : Nat) (x : Int) : (icells l).set j (.int .i64 x) = icells (l.set j x) := by unfold icells; rw [List.map_set]
theorem icells_app (l m : List Int) : icells (l ++ m) = icells l ++ icells m := List.map_append
theorem vals_of_ints {w : World} {v : Value} {l : List Int} (h : IntsIs w v l) : ValsIs w v l.length (icells l) := by
  obtain ⟨a, cap, pb, po, hv, hle, ha, hc⟩ := h
  refine ⟨a, cap, pb, po, hv, hle, ha, fun j hj => ?_⟩
  rw [icells_length] at hj
  rw [hc j hj]
  simp only [List.getD_eq_getElem?_getD, icells_get l j hj, Option.getD_some]
theorem ints_form {w : World} {v : Value} {l : List Int} (h : IntsIs w v l) : ∃ A C, v = .slice A l.length C := by
  obtain ⟨a, cap, pb, po, hv, _⟩ := h
  exact ⟨a, cap, hv⟩
/-- the cells of one that reads so -/
theorem ints_cells {w : World} {A : Option Addr} {C : Nat} {l : List Int} (h : IntsIs w (.slice A l.length C) l) : ∃ pb po, (0 < l.length → A = some ⟨pb, po, none⟩) ∧ ∀ j, j < l.length → pb < w.heap.size ∧ w.cell? ⟨pb, po + j, none⟩ = some (.int .i64 (l.getD j 0)) := by
  obtain ⟨a, cap, pb, po, hv, _, ha, hc⟩ := h
  cases hv
  exact ⟨pb, po, ha, fun j hj => ⟨World.block_lt_of_cell? w _ (hc j hj), hc j hj⟩⟩
/-- a row of one's own from B on -/
def Own (w : World) (B : Nat) (e : TypeId) (v : Value) (l : List Int) : Prop := w.ownsRow B e 1 v l.length (icells l)
section
variable {w : World} {B : Nat} {e : TypeId} {v : Value} {l : List Int}
theorem Own.fresh (w : World) (e : TypeId) (hb : B ≤ w.heap.size) : Own (w.alloc (.cells #[] e)) B e (.slice (some ⟨w.heap.size, 0, none⟩) 0 0) [] :=
  ⟨rfl, .inr ⟨w.heap.size, 0, #[], rfl, hb, heap_alloc_new w _, Nat.le_refl _, by unfold maxLen; omega, rfl, rfl⟩⟩
theorem Own.nil (w : World) (e : TypeId) : Own w B e (.slice none 0 0) [] := ⟨rfl, .inl ⟨rfl, rfl⟩⟩
theorem Own.ints (h : Own w B e v l) : IntsIs w v l := by
  rcases h.2 with ⟨rfl, h0⟩ | ⟨g, cap, cur, rfl, hb, hg, hnc, hcm, hcs, ht⟩
  · have : l = [] := List.eq_nil_of_length_eq_zero h0
    subst this
    exact IntsIs.nil w
  · refine ⟨_, cap, g, 0, rfl, hnc, fun _ => rfl, fun j hj => ?_⟩
    have h' : w.ownsRow B e 1 (.slice (some ⟨g, 0, Option.none⟩) l.length cap) l.length (icells l) := h
    rw [Nat.zero_add, h'.cellAt j (by omega), icells_get l j hj]
theorem Own.form (h : Own w B e v l) : ∃ A C, v = .slice A l.length C ∧ ∀ a, A = some a → B ≤ a.block ∧ a.block < w.heap.size := owns_form h
theorem Own.block (h : Own w B e v l) (h0 : 0 < l.length) : ∃ g C, v = .slice (some ⟨g, 0, Option.none⟩) l.length C ∧ B ≤ g ∧ g < w.heap.size := by
  rcases h.2 with ⟨_, h1⟩ | ⟨g, cap, cur, hv, hb, hg, _⟩
  · omega
  · exact ⟨g, cap, hv, hb, lt_of_heap hg⟩
theorem Own.cell {g C : Nat} (h : Own w B e (.slice (some ⟨g, 0, Option.none⟩) l.length C) l) (j : Nat) (hj : j < l.length) : w.cell? ⟨g, j, Option.none⟩ = some (.int .i64 (l.getD j 0)) ∧ w.frozen? ⟨g, j, Option.none⟩ = false := by
  refine ⟨by rw [World.ownsRow.cellAt h j (by omega), icells_get l j hj], ?_⟩
  rcases h.2 with ⟨hv, h1⟩ | ⟨g', cap, cur, hv, hb, hg, _⟩
  · omega
  · cases hv
    simp [World.frozen?, hg]
theorem Own.set {g C : Nat} (h : Own w B e (.slice (some ⟨g, 0, Option.none⟩) l.length C) l) (j : Nat) (x : Int) : Own (w.setCell ⟨g, j, Option.none⟩ (.int .i64 x)) B e (.slice (some ⟨g, 0, Option.none⟩) l.length C) (l.set j x) := by
  unfold Own at h ⊢
  rw [List.length_set, ← icells_set]
  refine ⟨by rw [List.length_set]; exact h.1, ?_⟩
  rcases h.2 with ⟨hv, h1⟩ | ⟨g', cap, cur, hv, hb, hg, hnc, hcm, hcs, ht⟩
  · simp at hv
  · cases hv
    refine .inr ⟨g, C, cur.setIfInBounds j (.int .i64 x), rfl, hb, ?_, hnc, hcm, by simpa using hcs, ?_⟩
    · rw [setCell_eq_setRow w g j cur e (0, 0) (.int .i64 x) hg]
      exact setRow_heap w g cur _ e (0, 0) hg
    · rw [Array.toList_setIfInBounds]
      rw [← ht]
      apply List.ext_getElem?
      intro i
      simp only [List.getElem?_take, List.getElem?_set, List.length_take]
      by_cases h1 : i < l.length * 1
      · rw [if_pos h1]
        by_cases h2 : j = i
        · subst h2
          rw [if_pos rfl, if_pos rfl]
          by_cases h3 : j < cur.toList.length
          · rw [if_pos h3, if_pos (by omega)]
          · rw [if_neg h3, if_neg (by omega)]
        · rw [if_neg h2, if_neg h2, if_pos h1]
      · rw [if_neg h1]
        by_cases h2 : j = i
        · rw [if_pos h2, if_neg (by omega)]
        · rw [if_neg h2, if_neg h1]
theorem Own.fr {S : Nat → Prop} {w' : World} (h : Own w B e v l) (hf : Fr S w w') (hs : ∀ g, v.ownBlock = some g → ¬ S g) : Own w' B e v l := ownsFr hf h hs
theorem Own.fr0 {w' : World} (h : Own w B e v l) (hf : Fr0 w w') : Own w' B e v l := h.fr hf (fun _ _ f => f)
end
theorem res4 {fn : Func} {t u v x : Tmp} (h : fn.results = #[.tmp t, .tmp u, .tmp v, .tmp x]) (tmps : Array Value) (P : Program) (w : World) :
    (results fn tmps).run P w = .ok (.tuple #[tmps.getD t undef, tmps.getD u undef, tmps.getD v undef, tmps.getD x undef]) w := by
  simp [results, h]
/-- append([]int{}, d...) has made it -/
theorem Own.cloned {w w2 : World} {e : TypeId} {v1 : Value} {d : List Int} {n : Nat} (hn : d.length = n) (h0 : 0 < n) (hO : w2.ownsRow w.heap.size e 1 v1 (0 + n) ([] ++ icells d)) (hG : (w.alloc (.cells #[] e)).grownBy w2 (Value.slice (some ⟨w.heap.size, 0, Option.none⟩) 0 0).ownBlock) :
    ∃ b C, v1 = .slice (some ⟨b, 0, Option.none⟩) n C ∧ Own w2 w.heap.size e (.slice (some ⟨b, 0, Option.none⟩) n C) d ∧ w.heap.size ≤ b ∧ Fr0 w w2 := by
  rw [Nat.zero_add, List.nil_append] at hO
  have h1 : Own w2 w.heap.size e v1 d := by unfold Own; rw [hn]; exact hO
  obtain ⟨b, C, hv, hb1, _⟩ := h1.block (by omega)
  rw [hn] at hv
  subst hv
  refine ⟨b, C, rfl, h1, hb1, ((Fr.refl (fun _ => False) w).alloc _).trans (Fr.of_grown (S := fun j => (Value.slice (some ⟨w.heap.size, 0, Option.none⟩) 0 0).ownBlock = some j) hG (fun k _ e => e)) (fun j hj e => ?_)⟩
  have e' : some w.heap.size = some j := e
  cases e'
  omega
/-- what Next tells -/
def NextPost (d : List Int) (h : Int) (w : World) (e : Ending) (w' : World) : Prop :=
  ∃ mv, e = .returned (.tuple #[.int .i64 ((nextS d h).1 : Int), mv, .int .i64 ((nextS d h).2.2 : Int), .bool (okD d h)]) ∧ IntsIs w' mv (nextS d h).2.1 ∧ Fr0 w w' ∧ ∀ a n c, mv = .slice (some a) n c → w.heap.size ≤ a.block
theorem next_no {d : List Int} {h : Int} {w w' : World} (ho : okD d h = false) (hf : Fr0 w w') : NextPost d h w (.returned (.tuple #[.int .i64 0, .slice none 0 0, .int .i64 0, .bool false])) w' := by
  refine ⟨.slice none 0 0, ?_, ?_, hf, fun a n c hv => by cases hv⟩
  · rw [next_none ho, ho]; rfl
  · rw [next_none ho]; exact IntsIs.nil w'
theorem some_take (d : List Int) (i : Nat) (hi : i < d.length) : someD (d.take (i + 1)) = (someD (d.take i) || decide (0 < d.getD i 0)) := by
  unfold someD
  rw [List.take_add_one, List.getElem?_eq_getElem hi, List.any_append, List.getD_eq_getElem?_getD, List.getElem?_eq_getElem hi]
  simp
theorem some_all (d : List Int) : someD (d.take d.length) = someD d := by rw [List.take_length]
theorem good_is {d : List Int} {h : Int} (hd : ∀ j, j < d.length → 0 ≤ d.getD j 0 ∧ d.getD j 0 ≤ 2) : goodD d h = (decide (0 ≤ h) && decide (h ≤ (d.length : Int))) := by
  unfold goodD
  have : d.all (fun x => decide (0 ≤ x) && decide (x ≤ 2)) = true := by
    rw [List.all_eq_true]
    intro x hx
    obtain ⟨j, hj, rfl⟩ := List.mem_iff_getElem.1 hx
    have := hd j hj
    rw [List.getD_eq_getElem?_getD, List.getElem?_eq_getElem hj] at this
    simpa using this
  rw [this, Bool.true_and]
theorem good_bad {d : List Int} {h : Int} {j : Nat} (hj : j < d.length) (hd : d.getD j 0 < 0 ∨ 2 < d.getD j 0) : goodD d h = false := by
  cases hg : goodD d h with
  | false => rfl
  | true =>
    have := (good_each hg).1 j
    omega
end Go.Proofs.Ytilddigiljappaa.Clock
