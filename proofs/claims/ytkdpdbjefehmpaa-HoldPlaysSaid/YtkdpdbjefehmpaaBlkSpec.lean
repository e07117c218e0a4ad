/-
  Blocks: which are given out, what Take and Give do to that, how they lie in memory. No program stands here.
-/
import Derived.Test.YtkdpdbjefehmpaaBaseC
import Derived.Test.YtkdpdbjefehmpaaLaw
import Derived.Test.YtkdpdbjefehmpaaAppend
import Derived.Test.YtkdpdbjefehmpaaAreSpec
namespace Go.Proofs.Ytkdpdbjefehmpaa.Blocks
open Go.RowKit Base Arena

/-- of the first k places those that read b, rising -/
def those (b : Bool) (O : List Bool) (k : Nat) : List Nat := (List.range k).filter fun i => O.getD i false == b
def outs (O : List Bool) : List Nat := those true O O.length
def frees (O : List Bool) : List Nat := those false O O.length
theorem those_zero (b : Bool) (O : List Bool) : those b O 0 = [] := rfl
theorem those_in {b : Bool} {O : List Bool} {k : Nat} (h : O.getD k false = b) : those b O (k + 1) = those b O k ++ [k] := by
  simp only [those, List.range_succ, List.filter_append, List.filter_cons, List.filter_nil, h, beq_self_eq_true, if_true]
theorem those_out {b : Bool} {O : List Bool} {k : Nat} (h : O.getD k false ≠ b) : those b O (k + 1) = those b O k := by
  have h' : (O.getD k false == b) = false := by rw [beq_eq_false_iff_ne]; exact h
  simp only [those, List.range_succ, List.filter_append, List.filter_cons, List.filter_nil, h', Bool.false_eq_true, if_false, List.append_nil]
theorem those_length (b : Bool) (O : List Bool) (k : Nat) : (those b O k).length ≤ k := by
  have := List.length_filter_le (fun i => O.getD i false == b) (List.range k)
  rwa [List.length_range] at this
theorem those_mem {b : Bool} {O : List Bool} {k i : Nat} : i ∈ those b O k ↔ i < k ∧ O.getD i false = b := by
  simp only [those, List.mem_filter, List.mem_range, beq_iff_eq]
theorem those_rising (b : Bool) (O : List Bool) (k : Nat) : (those b O k).Pairwise (· < ·) := List.Pairwise.filter _ List.pairwise_lt_range
theorem those_nodup (b : Bool) (O : List Bool) (k : Nat) : (those b O k).Nodup := (those_rising b O k).imp fun h => Nat.ne_of_lt h
theorem those_add (b : Bool) (O : List Bool) (k d : Nat) : ∃ r, those b O (k + d) = those b O k ++ r := by
  induction d with
  | zero => exact ⟨[], by simp⟩
  | succ d ih =>
    obtain ⟨r, hr⟩ := ih
    by_cases h : O.getD (k + d) false = b
    · exact ⟨r ++ [k + d], by rw [← Nat.add_assoc, those_in h, hr, List.append_assoc]⟩
    · exact ⟨r, by rw [← Nat.add_assoc, those_out h, hr]⟩
/-- the first of those are those of the first places -/
theorem those_take {b : Bool} {O : List Bool} {k m : Nat} (h : k ≤ m) : (those b O m).take (those b O k).length = those b O k := by
  obtain ⟨r, hr⟩ := those_add b O k (m - k)
  rw [show k + (m - k) = m by omega] at hr
  rw [hr, List.take_left']
  rfl
theorem those_both (O : List Bool) (k : Nat) : (those true O k).length + (those false O k).length = k := by
  induction k with
  | zero => rfl
  | succ k ih =>
    cases h : O.getD k false with
    | true =>
      rw [those_in h, those_out (b := false) (by rw [h]; decide), List.length_append, List.length_singleton]
      omega
    | false =>
      rw [those_in h, those_out (b := true) (by rw [h]; decide), List.length_append, List.length_singleton]
      omega
theorem frees_length (O : List Bool) : (frees O).length ≤ O.length := those_length _ _ _
theorem outs_length (O : List Bool) : (outs O).length ≤ O.length := those_length _ _ _
theorem both_length (O : List Bool) : (outs O).length + (frees O).length = O.length := those_both O O.length
theorem frees_mem {O : List Bool} {i : Nat} : i ∈ frees O ↔ i < O.length ∧ O.getD i false = false := those_mem
theorem outs_mem {O : List Bool} {i : Nat} : i ∈ outs O ↔ i < O.length ∧ O.getD i false = true := those_mem
theorem frees_at {O : List Bool} {j : Nat} (h : j < (frees O).length) : (frees O).getD j 0 < O.length ∧ O.getD ((frees O).getD j 0) false = false := frees_mem.1 (by
  rw [List.getD_eq_getElem?_getD, List.getElem?_eq_getElem h]
  exact List.getElem_mem _)
/-- places set -/
def mark (b : Bool) (O : List Bool) (l : List Nat) : List Bool := l.foldl (fun O i => O.set i b) O
theorem mark_nil (b : Bool) (O : List Bool) : mark b O [] = O := rfl
theorem mark_snoc (b : Bool) (O : List Bool) (l : List Nat) (i : Nat) : mark b O (l ++ [i]) = (mark b O l).set i b := by simp [mark]
theorem mark_length (b : Bool) (l : List Nat) : ∀ O : List Bool, (mark b O l).length = O.length := by
  induction l with
  | nil => intro O; rfl
  | cons i l ih => intro O; exact (ih (O.set i b)).trans (List.length_set ..)
theorem set_getD (O : List Bool) (i j : Nat) (b : Bool) (hi : i < O.length) : (O.set i b).getD j false = if j = i then b else O.getD j false := by
  by_cases h : j = i
  · subst h; rw [if_pos rfl]; simp [hi]
  · rw [if_neg h]; simp [List.getElem?_set_ne (Ne.symm h)]
theorem mark_get (b : Bool) (l : List Nat) (j : Nat) : ∀ O : List Bool, (∀ i ∈ l, i < O.length) → (mark b O l).getD j false = if j ∈ l then b else O.getD j false := by
  induction l with
  | nil => intro O _; simp [mark]
  | cons i l ih =>
    intro O h
    have h0 := h i (by simp)
    rw [show mark b O (i :: l) = mark b (O.set i b) l from rfl, ih (O.set i b) (fun k hk => by rw [List.length_set]; exact h k (by simp [hk])), set_getD _ _ _ _ h0]
    by_cases h1 : j ∈ l
    · rw [if_pos h1, if_pos (by simp [h1])]
    · rw [if_neg h1]
      by_cases h2 : j = i
      · rw [if_pos h2, if_pos (by simp [h2])]
      · rw [if_neg h2, if_neg (by simp [h1, h2])]
theorem same_of_get {O P : List Bool} (hl : O.length = P.length) (h : ∀ j, j < O.length → O.getD j false = P.getD j false) : O = P := by
  apply List.ext_getElem?
  intro j
  by_cases hj : j < O.length
  · have := h j hj
    simp only [List.getD_eq_getElem?_getD, List.getElem?_eq_getElem hj, List.getElem?_eq_getElem (hl ▸ hj), Option.getD_some] at this
    rw [List.getElem?_eq_getElem hj, List.getElem?_eq_getElem (hl ▸ hj), this]
  · rw [List.getElem?_eq_none (by omega), List.getElem?_eq_none (by omega)]
/-! Take -/
def terr (O : List Bool) (n : Int) : Int := if n < 0 then 1 else if ((frees O).length : Int) < n then 6 else 0
def tout (O : List Bool) (n : Int) : List Nat := if terr O n = 0 then (frees O).take n.toNat else []
def took (O : List Bool) (n : Int) : List Bool := mark true O (tout O n)
theorem terr_neg {O : List Bool} {n : Int} (h : n < 0) : terr O n = 1 := if_pos h
theorem terr_full {O : List Bool} {n : Int} (h0 : ¬ n < 0) (h : ((frees O).length : Int) < n) : terr O n = 6 := by unfold terr; rw [if_neg h0, if_pos h]
theorem terr_ok {O : List Bool} {n : Nat} (h : n ≤ (frees O).length) : terr O (n : Int) = 0 := by unfold terr; rw [if_neg (by omega), if_neg (by omega)]
theorem terr_iff {O : List Bool} {n : Int} (h : terr O n = 0) : ∃ m : Nat, n = (m : Int) ∧ m ≤ (frees O).length := by
  unfold terr at h
  split at h
  · cases h
  · split at h
    · cases h
    · rename_i h1 h2
      have h3 : n ≤ ((frees O).length : Int) := Int.not_lt.1 h2
      exact ⟨n.toNat, (Int.toNat_of_nonneg (Int.not_lt.1 h1)).symm, Int.toNat_le.2 h3⟩
theorem tout_bad {O : List Bool} {n : Int} (h : terr O n ≠ 0) : tout O n = [] := if_neg h
theorem tout_ok {O : List Bool} {n : Nat} (h : n ≤ (frees O).length) : tout O (n : Int) = (frees O).take n := by unfold tout; rw [if_pos (terr_ok h), Int.toNat_natCast]
theorem took_bad {O : List Bool} {n : Int} (h : terr O n ≠ 0) : took O n = O := by unfold took; rw [tout_bad h]; rfl
theorem took_length (O : List Bool) (n : Int) : (took O n).length = O.length := mark_length _ _ _
theorem tout_length (O : List Bool) (n : Int) : (tout O n).length ≤ O.length := by
  unfold tout
  split
  · rw [List.length_take]; exact Nat.le_trans (Nat.min_le_right _ _) (frees_length O)
  · exact Nat.zero_le _
theorem tout_free {O : List Bool} {n : Int} {i : Nat} (h : i ∈ tout O n) : i < O.length ∧ O.getD i false = false := by
  unfold tout at h
  split at h
  · exact frees_mem.1 (List.mem_of_mem_take h)
  · cases h
/-! Give -/
def give (O : List Bool) : List Int → Option (List Bool)
  | [] => some O
  | x :: l => if 0 ≤ x ∧ x < (O.length : Int) ∧ O.getD x.toNat false = true then give (O.set x.toNat false) l else none
def gave (O : List Bool) (l : List Int) : List Bool := (give O l).getD O
def gerr (O : List Bool) (l : List Int) : Int := if (give O l).isSome then 0 else 1
theorem give_bad {O : List Bool} {x : Int} {l : List Int} (h : ¬ (0 ≤ x ∧ x < (O.length : Int) ∧ O.getD x.toNat false = true)) : give O (x :: l) = none := by simp only [give, if_neg h]
theorem give_ok {O : List Bool} {k : Nat} {l : List Int} (h : k < O.length) (h1 : O.getD k false = true) : give O ((k : Int) :: l) = give (O.set k false) l := by
  simp only [give, Int.toNat_natCast]
  rw [if_pos ⟨by omega, by omega, h1⟩]
theorem give_append (a b : List Int) : ∀ O : List Bool, give O (a ++ b) = (give O a).bind (give · b) := by
  induction a with
  | nil => intro O; rfl
  | cons x a ih =>
    intro O
    by_cases h : 0 ≤ x ∧ x < (O.length : Int) ∧ O.getD x.toNat false = true
    · simp only [List.cons_append, give, if_pos h, ih]
    · simp only [List.cons_append, give, if_neg h, Option.bind_none]
theorem give_length (l : List Int) : ∀ O L : List Bool, give O l = some L → L.length = O.length := by
  induction l with
  | nil => intro O L h; cases h; rfl
  | cons x l ih =>
    intro O L h
    by_cases hc : 0 ≤ x ∧ x < (O.length : Int) ∧ O.getD x.toNat false = true
    · simp only [give, if_pos hc] at h
      rw [ih _ _ h, List.length_set]
    · rw [give_bad hc] at h; cases h
theorem give_mark (l : List Int) : ∀ O L : List Bool, give O l = some L → L = mark false O (l.map Int.toNat) ∧ ∀ x ∈ l, 0 ≤ x ∧ x < (O.length : Int) := by
  induction l with
  | nil => intro O L h; cases h; exact ⟨rfl, fun x hx => by cases hx⟩
  | cons x l ih =>
    intro O L h
    by_cases hc : 0 ≤ x ∧ x < (O.length : Int) ∧ O.getD x.toNat false = true
    · simp only [give, if_pos hc] at h
      obtain ⟨h1, h2⟩ := ih _ _ h
      refine ⟨h1, fun y hy => ?_⟩
      rcases List.mem_cons.1 hy with rfl | hy
      · exact ⟨hc.1, hc.2.1⟩
      · have := h2 y hy
        rwa [List.length_set] at this
    · rw [give_bad hc] at h; cases h
theorem gave_length (O : List Bool) (l : List Int) : (gave O l).length = O.length := by
  unfold gave
  cases h : give O l with
  | none => rfl
  | some L => exact give_length l O L h
theorem gave_none {O : List Bool} {l : List Int} (h : give O l = none) : gave O l = O ∧ gerr O l = 1 := by simp [gave, gerr, h]
theorem gave_some {O L : List Bool} {l : List Int} (h : give O l = some L) : gave O l = L ∧ gerr O l = 0 := by simp [gave, gerr, h]
theorem give_snoc {O L : List Bool} {l : List Int} {y : Nat} (h : give O l = some L) (hy : y < L.length) (ht : L.getD y false = true) : give O (l ++ [(y : Int)]) = some (L.set y false) := by
  rw [give_append, h, Option.bind_some, give_ok hy ht]
  rfl
theorem give_fail {O L : List Bool} {l r : List Int} {x : Int} (h : give O l = some L) (hb : ¬ (0 ≤ x ∧ x < (L.length : Int) ∧ L.getD x.toNat false = true)) : give O (l ++ x :: r) = none := by
  rw [give_append, h, Option.bind_some, give_bad hb]
/-- what is left of a place behind some that were given back -/
theorem give_get {O L : List Bool} {l : List Int} (h : give O l = some L) (y : Nat) : L.getD y false = if (y : Int) ∈ l then false else O.getD y false := by
  obtain ⟨rfl, hl⟩ := give_mark l O L h
  rw [mark_get _ _ _ _ (fun i hi => by
    obtain ⟨x, hx, rfl⟩ := List.mem_map.1 hi
    have := hl x hx
    omega)]
  by_cases hm : (y : Int) ∈ l
  · rw [if_pos hm, if_pos (List.mem_map.2 ⟨_, hm, Int.toNat_natCast y⟩)]
  · rw [if_neg hm, if_neg (fun h => by
      obtain ⟨x, hx, he⟩ := List.mem_map.1 h
      have := (hl x hx).1
      exact hm (by rwa [show (y : Int) = x by omega]))]
/-- what was taken is given back -/
theorem give_back (T : List Nat) : ∀ O : List Bool, T.Nodup → (∀ i ∈ T, i < O.length ∧ O.getD i false = false) → give (mark true O T) (T.map fun (n : Nat) => (n : Int)) = some O := by
  induction T with
  | nil => intro O _ _; rfl
  | cons i T ih =>
    intro O hn hT
    obtain ⟨hi, hn'⟩ := List.nodup_cons.1 hn
    obtain ⟨hlt, hf⟩ := hT i (by simp)
    have hall : ∀ j ∈ i :: T, j < O.length := fun j hj => (hT j hj).1
    have hml : (mark true O (i :: T)).length = O.length := mark_length _ _ _
    rw [List.map_cons, give_ok (by rw [hml]; exact hlt) (by rw [mark_get _ _ _ _ hall, if_pos (by simp)])]
    have he : (mark true O (i :: T)).set i false = mark true O T := by
      refine same_of_get (by rw [List.length_set, hml, mark_length]) (fun j _ => ?_)
      rw [set_getD _ _ _ _ (by rw [hml]; exact hlt), mark_get _ _ _ _ hall, mark_get _ _ _ _ (fun k hk => (hT k (by simp [hk])).1)]
      by_cases hji : j = i
      · subst hji; rw [if_pos rfl, if_neg hi, hf]
      · rw [if_neg hji]
        by_cases hjT : j ∈ T
        · rw [if_pos hjT, if_pos (by simp [hjT])]
        · rw [if_neg hjT, if_neg (by simp [hji, hjT])]
    rw [he]
    exact ih O hn' (fun j hj => hT j (by simp [hj]))
/-! how they lie -/
def nvals (l : List Nat) : List Value := l.map fun (n : Nat) => Value.int .i64 (n : Int)
def nints (l : List Nat) : List Int := l.map fun (n : Nat) => (n : Int)
theorem nvals_length (l : List Nat) : (nvals l).length = l.length := by simp [nvals]
theorem nints_length (l : List Nat) : (nints l).length = l.length := by simp [nints]
theorem nvals_snoc (l : List Nat) (k : Nat) : nvals (l ++ [k]) = nvals l ++ [.int .i64 (k : Int)] := by simp [nvals]
theorem nvals_get (l : List Nat) (j : Nat) (h : j < l.length) : (nvals l)[j]? = some (.int .i64 ((nints l).getD j 0)) := by simp [nvals, nints, h]
theorem nints_get (l : List Nat) (j : Nat) (h : j < l.length) : (nints l).getD j 0 = (l.getD j 0 : Nat) := by simp [nints, h]
theorem nints_inj {a b : List Nat} : nints a = nints b ↔ a = b := by
  constructor
  · intro h
    have := congrArg (List.map Int.toNat) h
    have e : ∀ l : List Nat, (nints l).map Int.toNat = l := fun l => by
      unfold nints
      rw [List.map_map]
      conv => rhs; rw [← List.map_id l]
      apply List.map_congr_left
      intro x _
      simp
    rwa [e, e] at this
  · rintro rfl; rfl
theorem nints_mem {a : List Nat} {x : Int} : x ∈ nints a ↔ ∃ k, k ∈ a ∧ x = (k : Int) := by
  simp only [nints, List.mem_map]
  exact ⟨fun ⟨k, h, e⟩ => ⟨k, h, e.symm⟩, fun ⟨k, h, e⟩ => ⟨k, h, e.symm⟩⟩
theorem ints_own {w : World} {base : Nat} {e : TypeId} {v : Value} {n : Nat} {l : List Nat} (h : w.ownsRow base e 1 v n (nvals l)) : IntsIs w v (nints l) := by
  have hl : l.length = n := by have := h.1; rw [nvals_length] at this; omega
  rcases h.2 with ⟨rfl, hn⟩ | ⟨g, cap, cur, rfl, hb, hg, hnc, hcm, hcs, ht⟩
  · obtain rfl : l = [] := List.eq_nil_of_length_eq_zero (by omega)
    exact IntsIs.nil w
  · subst hl
    refine ⟨_, cap, g, 0, by rw [nints_length], by rw [nints_length]; exact hnc, fun _ => rfl, fun j hj => ?_⟩
    rw [nints_length] at hj
    rw [Nat.zero_add, h.cellAt j (by omega)]
    exact nvals_get l j hj
theorem ints_fr {S : Nat → Prop} {w w' : World} {v : Value} {l : List Int} (h : IntsIs w v l) (hf : Fr S w w') (hs : ∀ a n c, v = .slice (some a) n c → ¬ S a.block) : IntsIs w' v l := h.fr hf hs
theorem give_took (O : List Bool) (n : Int) : give (took O n) (nints (tout O n)) = some O := by
  refine give_back _ _ ?_ (fun i hi => tout_free hi)
  unfold tout
  split
  · exact List.Nodup.sublist (List.take_sublist _ _) (those_nodup false O O.length)
  · exact List.nodup_nil
/-- a row of bools, and room behind it -/
def BoolsAt (w : World) (tb : TypeId) (ob C : Nat) (O : List Bool) : Prop := ∃ f, w.rowIs ob tb C f ∧ O.length ≤ C ∧ ∀ j, j < O.length → f j = .bool (O.getD j false)
namespace BoolsAt
variable {w w' : World} {tb : TypeId} {ob C : Nat} {O : List Bool}
theorem lt (h : BoolsAt w tb ob C O) : ob < w.heap.size := by obtain ⟨f, hr, _, _⟩ := h; exact hr.lt
theorem cap (h : BoolsAt w tb ob C O) : O.length ≤ C := by obtain ⟨f, _, hc, _⟩ := h; exact hc
theorem cell (h : BoolsAt w tb ob C O) (j : Nat) (hj : j < O.length) : w.cell? ⟨ob, j, none⟩ = some (.bool (O.getD j false)) := by
  obtain ⟨f, hr, hc, hf⟩ := h
  rw [hr.cell (i := j) (by omega), hf j hj]
theorem frozen (h : BoolsAt w tb ob C O) (j : Nat) : w.frozen? ⟨ob, j, none⟩ = false := by obtain ⟨f, hr, _, _⟩ := h; exact hr.frozen j
theorem fr {S : Nat → Prop} (h : BoolsAt w tb ob C O) (hf : Fr S w w') (hs : ¬ S ob) : BoolsAt w' tb ob C O := by
  obtain ⟨f, hr, hc, hx⟩ := h
  exact ⟨f, hf.row hr hs, hc, hx⟩
theorem fr0 (h : BoolsAt w tb ob C O) (hf : Fr0 w w') : BoolsAt w' tb ob C O := h.fr hf (fun f => f)
theorem set (h : BoolsAt w tb ob C O) (i : Nat) (b : Bool) (hi : i < O.length) : BoolsAt (w.setCell ⟨ob, i, none⟩ (.bool b)) tb ob C (O.set i b) := by
  obtain ⟨f, hr, hc, hf⟩ := h
  refine ⟨_, hr.set i (.bool b), by rw [List.length_set]; exact hc, fun j hj => ?_⟩
  rw [List.length_set] at hj
  rw [set_getD _ _ _ _ hi]
  by_cases h : j = i
  · rw [if_pos h, if_pos h]
  · rw [if_neg h, if_neg h, hf j hj]
/-- out of an own row -/
theorem own {base : Nat} {n : Nat} (h : w.ownsRow base tb 1 (.slice (some ⟨ob, 0, none⟩) n C) n (O.map Value.bool)) : BoolsAt w tb ob C O := by
  have hl : O.length = n := by have := h.1; rw [List.length_map] at this; omega
  rcases h.2 with ⟨hv, _⟩ | ⟨g, cap, cur, hv, hb, hg, hnc, hcm, hcs, ht⟩
  · cases hv
  · simp only [Value.slice.injEq, Option.some.injEq, Addr.mk.injEq, and_true, true_and] at hv
    obtain ⟨rfl, rfl⟩ := hv
    refine ⟨fun j => cur.getD j undef, ⟨cur, hg, by omega, fun i hi => by simp [show i < cur.size by omega]⟩, by omega, fun j hj => ?_⟩
    have h2 := congrArg (fun l => l[j]?) ht
    simp only [List.getElem?_take, List.getElem?_map, Nat.mul_one] at h2
    rw [if_pos (by omega), Array.getElem?_toList, Array.getElem?_eq_getElem (show j < cur.size by omega), List.getElem?_eq_getElem hj] at h2
    simp only [Option.map_some, Option.some.injEq] at h2
    simp [show j < cur.size by omega, h2, hj]
theorem made (w : World) (tb : TypeId) (n : Nat) : BoolsAt (w.alloc (.cells (madeCells #[.bool false] n) tb)) tb w.heap.size n (List.replicate n false) :=
  ⟨_, World.rowIs_made w (.bool false) n tb, by simp, fun j hj => by
    rw [List.length_replicate] at hj
    simp [hj]⟩
end BoolsAt
/-- the object lies at g, its bools at ob, all of them from block B on -/
structure BlkAt (w : World) (B : Nat) (t tb : TypeId) (g ob : Nat) (O : List Bool) : Prop where
  obj : ∃ C, w.rowIs g t 1 (fun _ => .slice (some ⟨ob, 0, none⟩) O.length C) ∧ BoolsAt w tb ob C O
  gB : B ≤ g
  oB : B ≤ ob
  ne : g ≠ ob
  len : O.length ≤ 2048
namespace BlkAt
variable {w w' : World} {B : Nat} {t tb : TypeId} {g ob : Nat} {O : List Bool}
theorem g_lt (h : BlkAt w B t tb g ob O) : g < w.heap.size := by obtain ⟨_, hr, _⟩ := h.obj; exact hr.lt
theorem ob_lt (h : BlkAt w B t tb g ob O) : ob < w.heap.size := by obtain ⟨_, _, hr⟩ := h.obj; exact hr.lt
theorem fr {S : Nat → Prop} (h : BlkAt w B t tb g ob O) (hf : Fr S w w') (h1 : ¬ S g) (h2 : ¬ S ob) : BlkAt w' B t tb g ob O := by
  obtain ⟨C, hr, hb⟩ := h.obj
  exact ⟨⟨C, hf.row hr h1, hb.fr hf h2⟩, h.gB, h.oB, h.ne, h.len⟩
theorem fr0 (h : BlkAt w B t tb g ob O) (hf : Fr0 w w') : BlkAt w' B t tb g ob O := h.fr hf (fun f => f) (fun f => f)
theorem base {B' : Nat} (h : BlkAt w B t tb g ob O) (hB : B' ≤ B) : BlkAt w B' t tb g ob O := ⟨h.obj, Nat.le_trans hB h.gB, Nat.le_trans hB h.oB, h.ne, h.len⟩
theorem cell0 (h : BlkAt w B t tb g ob O) : ∃ C, O.length ≤ C ∧ w.cell? ⟨g, 0, none⟩ = some (.slice (some ⟨ob, 0, none⟩) O.length C) := by
  obtain ⟨C, hr, hb⟩ := h.obj
  exact ⟨C, hb.cap, hr.cell (i := 0) (by decide)⟩
theorem cell (h : BlkAt w B t tb g ob O) (j : Nat) (hj : j < O.length) : w.cell? ⟨ob, j, none⟩ = some (.bool (O.getD j false)) := by
  obtain ⟨C, _, hb⟩ := h.obj
  exact hb.cell j hj
theorem frozen (h : BlkAt w B t tb g ob O) (j : Nat) : w.frozen? ⟨ob, j, none⟩ = false := by
  obtain ⟨C, _, hb⟩ := h.obj
  exact hb.frozen j
theorem set (h : BlkAt w B t tb g ob O) (i : Nat) (b : Bool) (hi : i < O.length) : BlkAt (w.setCell ⟨ob, i, none⟩ (.bool b)) B t tb g ob (O.set i b) := by
  obtain ⟨C, hr, hb⟩ := h.obj
  exact ⟨⟨C, by rw [List.length_set]; exact hr.setOther h.ne _, hb.set i b hi⟩, h.gB, h.oB, h.ne, by rw [List.length_set]; exact h.len⟩
/-- another row put in its place -/
theorem swap (h : BlkAt w B t tb g ob O) {q C : Nat} {L : List Bool} (hq : BoolsAt w tb q C L) (hl : L.length = O.length) (hB : B ≤ q) (hne : g ≠ q) : BlkAt (w.setCell ⟨g, 0, none⟩ (.slice (some ⟨q, 0, none⟩) L.length C)) B t tb g q L := by
  obtain ⟨C0, hr, _⟩ := h.obj
  refine ⟨⟨C, (hr.set 0 _).congr (fun i hi => ?_), ?_⟩, h.gB, hB, hne, by rw [hl]; exact h.len⟩
  · obtain rfl : i = 0 := by omega
    rfl
  · exact hq.fr (Fr.setCell (S := fun k => k = g) (Fr.refl _ _) (fun _ => rfl) _) (fun e => hne e.symm)
end BlkAt
/-- how many blocks so many bytes have -/
def whole (bytes : Int) : Nat := (min (max bytes 0) 65536 / 32).toNat
theorem whole_le (bytes : Int) : whole bytes ≤ 2048 := by unfold whole; omega
theorem blk_new (w : World) (t tb : TypeId) (n : Nat) (hn : n ≤ 2048) (N M : Nat) (hN : N = w.heap.size) (hM : M = w.heap.size + 1) :
    BlkAt ((w.alloc (.cells (madeCells #[.bool false] n) tb)).alloc (.cells #[.slice (some ⟨N, 0, none⟩) n n] t)) w.heap.size t tb M N (List.replicate n false) := by
  subst hN hM
  refine ⟨⟨n, ?_, ?_⟩, by omega, Nat.le_refl _, by omega, by rw [List.length_replicate]; exact hn⟩
  · have := rowIs_new (w.alloc (.cells (madeCells #[.bool false] n) tb)) #[.slice (some ⟨w.heap.size, 0, none⟩) n n] t 1 (fun _ => .slice (some ⟨w.heap.size, 0, none⟩) n n) rfl (fun i hi => by
      obtain rfl : i = 0 := by omega
      rfl)
    rw [List.length_replicate]
    simpa using this
  · exact (BoolsAt.made w tb n).fr0 ((Fr.refl _ _).alloc _)
/-- how many blocks so many bytes take -/
def needs (bytes : Int) : Int := if bytes ≤ 0 then 0 else (bytes - 1) / 32 + 1
/-- an append of nothing -/
theorem run_append_zero {P : Program} (w : World) (base : Nat) (t ty e : TypeId) (i : TypeInfo) (size : Nat) (ht : P.underlying t = some (.slice e)) (hi : P.info? e = some i)
    (v : Value) (n c : Nat) (a : Addr) (xs : List Value) (hown : w.ownsRow base e size v n xs) : (Builtin.append_ #[t, t] ty #[v, .slice (some a) 0 c]).run P w = .ok v w := by
  rcases hown.2 with ⟨rfl, rfl⟩ | ⟨g, cap, cur, rfl, _, _, hnc, _⟩
  · simp [Builtin.append_, run_underlying ht, sizeOf, typeInfo, hi, Builtin.lenOf, Builtin.firstCells, loadCells, loadCellsFrom]
  · simp [Builtin.append_, run_underlying ht, sizeOf, typeInfo, hi, Builtin.lenOf, Builtin.firstCells, hnc, storeCells, loadCells, loadCellsFrom]
theorem owns_fr {S : Nat → Prop} {a b : World} (h : Fr S a b) {base : Nat} {e : TypeId} {size : Nat} {v : Value} {n : Nat} {xs : List Value} (ho : a.ownsRow base e size v n xs) (hs : ∀ g, v.ownBlock = some g → ¬ S g) : b.ownsRow base e size v n xs := by
  refine ⟨ho.1, ?_⟩
  rcases ho.2 with hn | ⟨g, cap, cur, rfl, hb, hgg, rest⟩
  · exact .inl hn
  · exact .inr ⟨g, cap, cur, rfl, hb, h.heap hgg (hs g rfl), rest⟩
theorem wpList_append_run {P : Program} {w : World} {ops : Array Oper} {rest : List Oper} {o : Oper} {a : Act} {Q : Exit → Act → World → Prop} (hgd : o.guard = none) (s x : Operand) (t : TypeId)
    (ho : o.op = .call { callee := .builtin .append, args := #[s, x], argTypes := #[t, t] }) (v v2 v' : Value) (w' : World) (hs : a.eval s = v) (hx : a.eval x = v2) (hr : (Builtin.append_ #[t, t] o.type #[v, v2]).run P w = .ok v' w')
    (h : wpList P ops Q rest (a.put o.dst v') w') : wpList P ops Q (o :: rest) a w :=
  wpList_plain hgd fun K hK => by
    unfold Oper.wp execOp
    simp only [ho, resolve, invoke, builtin, Sem.run_bind, Sem.run_pure, Result.andThen_ok, List.map_toArray, List.map_cons, List.map_nil, hs, hx, hr]
    exact hK _ _ h
end Go.Proofs.Ytkdpdbjefehmpaa.Blocks
