/-
  A clock's dial: who goes next, who goes when. No program stands here.
-/
import Derived.Test.YtilddigiljappaaGround
namespace Go.Proofs.Ytilddigiljappaa.Clock

/-- may be -/
def goodD (d : List Int) (h : Int) : Bool := d.all (fun x => decide (0 ≤ x) && decide (x ≤ 2)) && (decide (0 ≤ h) && decide (h ≤ (d.length : Int)))
/-- one at least is there -/
def someD (d : List Int) : Bool := d.any fun x => decide (0 < x)
/-- the hand goes round, f rows at most: who goes, the marks then, the hand -/
def goN : Nat → List Int → Nat → Nat × List Int × Nat
  | 0, _, _ => (0, [], 0)
  | f + 1, m, h =>
    if m.getD (if m.length ≤ h then 0 else h) 0 = 1 then ((if m.length ≤ h then 0 else h), m.set (if m.length ≤ h then 0 else h) 0, if m.length ≤ (if m.length ≤ h then 0 else h) + 1 then 0 else (if m.length ≤ h then 0 else h) + 1)
    else goN f (if m.getD (if m.length ≤ h then 0 else h) 0 = 2 then m.set (if m.length ≤ h then 0 else h) 1 else m) ((if m.length ≤ h then 0 else h) + 1)
theorem goN_wrap (f : Nat) (m : List Int) (h : Nat) (hh : m.length ≤ h) : goN f m h = goN f m 0 := by
  cases f with
  | zero => rfl
  | succ f =>
    unfold goN
    rw [if_pos hh, show (if m.length ≤ 0 then 0 else 0) = 0 by split <;> rfl]
theorem goN_in (f : Nat) (m : List Int) (h : Nat) (hh : h < m.length) : goN (f + 1) m h = if m.getD h 0 = 1 then (h, m.set h 0, if m.length ≤ h + 1 then 0 else h + 1) else goN f (if m.getD h 0 = 2 then m.set h 1 else m) (h + 1) := by
  rw [goN, if_neg (by omega : ¬ m.length ≤ h)]
/-- Next's answers -/
def okD (d : List Int) (h : Int) : Bool := goodD d h && someD d
def nextS (d : List Int) (h : Int) : Nat × List Int × Nat := if okD d h = true then goN (2 * d.length + 2) d h.toNat else (0, [], 0)

/-! the circle: rows and marks, from the hand on -/
abbrev Circ := List (Nat × Int)
def rot (n h : Nat) : List Nat := (List.range n).drop h ++ (List.range n).take h
def circ (d : List Int) (h : Nat) : Circ := (rot d.length h).map fun i => (i, d.getD i 0)
def goC : Nat → Circ → Option (Nat × Circ)
  | 0, _ => none
  | _ + 1, [] => none
  | f + 1, (i, x) :: t => if x = 1 then some (i, t ++ [(i, 0)]) else goC f (t ++ [(i, if x = 2 then 1 else x)])
theorem rot_wrap (n h : Nat) (hh : n ≤ h) : rot n h = rot n 0 := by
  unfold rot
  rw [List.drop_eq_nil_of_le (by simp; omega), List.take_of_length_le (by simp; omega)]
  simp
theorem rot_step (n h : Nat) (hh : h < n) : ∃ t, rot n h = h :: t ∧ rot n (h + 1) = t ++ [h] ∧ h ∉ t := by
  refine ⟨(List.range n).drop (h + 1) ++ (List.range n).take h, ?_, ?_, ?_⟩
  · unfold rot
    rw [List.drop_eq_getElem_cons (by simpa using hh), List.getElem_range]
    rfl
  · unfold rot
    rw [List.take_add_one, List.getElem?_range hh]
    simp
  · intro hm
    rcases List.mem_append.1 hm with hm | hm
    · obtain ⟨j, hj, e⟩ := List.mem_iff_getElem.1 hm
      rw [List.getElem_drop, List.getElem_range] at e
      omega
    · obtain ⟨j, hj, e⟩ := List.mem_iff_getElem.1 hm
      rw [List.getElem_take, List.getElem_range] at e
      simp at hj
      omega
theorem rot_mem {n h i : Nat} : i ∈ rot n h ↔ i < n := by
  unfold rot
  rw [List.mem_append, or_comm, ← List.mem_append, List.take_append_drop, List.mem_range]
theorem rot_length (n h : Nat) : (rot n h).length = n := by
  unfold rot
  rw [List.length_append, Nat.add_comm, ← List.length_append, List.take_append_drop, List.length_range]
theorem rot_nodup (n h : Nat) : (rot n h).Nodup := by
  have hp : ((List.range n).drop h ++ (List.range n).take h).Perm ((List.range n).take h ++ (List.range n).drop h) := List.perm_append_comm
  unfold rot
  rw [hp.nodup_iff, List.take_append_drop]
  exact List.nodup_range
theorem circ_wrap (d : List Int) (h : Nat) (hh : d.length ≤ h) : circ d h = circ d 0 := by
  unfold circ
  rw [rot_wrap _ _ hh]
theorem circ_step (d : List Int) (h : Nat) (hh : h < d.length) : ∃ t, circ d h = (h, d.getD h 0) :: t ∧ ∀ x, circ (d.set h x) (h + 1) = t ++ [(h, x)] := by
  obtain ⟨t, h1, h2, h3⟩ := rot_step d.length h hh
  refine ⟨t.map fun i => (i, d.getD i 0), ?_, fun x => ?_⟩
  · unfold circ
    rw [h1]
    rfl
  · unfold circ
    rw [List.length_set, h2, List.map_append]
    congr 1
    · refine List.map_congr_left fun i hi => ?_
      have : h ≠ i := fun e => h3 (by rw [e]; exact hi)
      rw [List.getD_eq_getElem?_getD, List.getElem?_set_ne this, List.getD_eq_getElem?_getD]
    · simp [List.getD_eq_getElem?_getD, List.getElem?_set_self hh]
theorem circ_same (d : List Int) (h : Nat) (hh : h < d.length) : d.set h (d.getD h 0) = d := by
  rw [List.getD_eq_getElem?_getD, List.getElem?_eq_getElem hh]
  exact List.set_getElem_self hh
/-- who goes in the circle goes on the dial -/
theorem goN_of : ∀ (f : Nat) (d : List Int) (h : Nat) (i : Nat) (c : Circ), 0 < d.length → goC f (circ d h) = some (i, c) → ∃ m tz, goN f d h = (i, m, tz) ∧ circ m tz = c ∧ m.length = d.length ∧ tz < d.length ∧ i < d.length ∧ tz = (i + 1) % d.length ∧ m.getD i 0 = 0 ∧ d.getD i 0 ≠ 0 ∧
    (∀ j, (m.getD j 0 = d.getD j 0 ∨ (m.getD j 0 = 1 ∧ d.getD j 0 = 2)) ∨ (j = i ∧ (d.getD j 0 = 1 ∨ d.getD j 0 = 2)))
  | 0, d, h, i, c, _, hg => by cases hg
  | f + 1, d, h, i, c, h0, hg => by
    by_cases hw : d.length ≤ h
    · rw [circ_wrap _ _ hw] at hg
      rw [goN_wrap _ _ _ hw]
      exact go1 f d 0 i c h0 h0 hg
    · exact go1 f d h i c h0 (by omega) hg
where go1 : ∀ (f : Nat) (d : List Int) (h : Nat) (i : Nat) (c : Circ), 0 < d.length → h < d.length → goC (f + 1) (circ d h) = some (i, c) → ∃ m tz, goN (f + 1) d h = (i, m, tz) ∧ circ m tz = c ∧ m.length = d.length ∧ tz < d.length ∧ i < d.length ∧ tz = (i + 1) % d.length ∧ m.getD i 0 = 0 ∧ d.getD i 0 ≠ 0 ∧
    (∀ j, (m.getD j 0 = d.getD j 0 ∨ (m.getD j 0 = 1 ∧ d.getD j 0 = 2)) ∨ (j = i ∧ (d.getD j 0 = 1 ∨ d.getD j 0 = 2)))
  | f, d, h, i, c, h0, hh, hg => by
    obtain ⟨t, ht, hs⟩ := circ_step d h hh
    rw [ht] at hg
    rw [goN_in f d h hh]
    unfold goC at hg
    have hget : ∀ (x : Int) (j : Nat), (d.set h x).getD j 0 = if j = h then x else d.getD j 0 := fun x j => by
      rw [List.getD_eq_getElem?_getD, List.getElem?_set]
      by_cases e : h = j
      · subst e; simp [hh]
      · rw [if_neg e, if_neg (fun e' => e e'.symm), List.getD_eq_getElem?_getD]
    by_cases h1 : d.getD h 0 = 1
    · rw [if_pos h1] at hg ⊢
      simp only [Option.some.injEq, Prod.mk.injEq] at hg
      obtain ⟨rfl, rfl⟩ := hg
      refine ⟨_, _, rfl, ?_, by simp, by split <;> omega, hh, ?_, by rw [hget, if_pos rfl], by omega, fun j => ?_⟩
      · rw [← hs 0]
        split
        · rw [circ_wrap (d.set h 0) (h + 1) (by simpa using ‹d.length ≤ h + 1›)]
        · rfl
      · split
        · rw [show h + 1 = d.length by omega, Nat.mod_self]
        · rw [Nat.mod_eq_of_lt (by omega)]
      · rw [hget]
        by_cases e : j = h
        · subst e; exact .inr ⟨rfl, .inl h1⟩
        · rw [if_neg e]; exact .inl (.inl rfl)
    · rw [if_neg h1] at hg ⊢
      by_cases h2 : d.getD h 0 = 2
      · rw [if_pos h2] at hg ⊢
        rw [← hs 1] at hg
        obtain ⟨m, tz, r1, r2, r3, r4, r5, r6, r7, r8, r9⟩ := goN_of f (d.set h 1) (h + 1) i c (by simpa using h0) hg
        simp only [List.length_set] at r3 r4 r5 r6
        refine ⟨m, tz, r1, r2, r3, r4, r5, r6, r7, ?_, fun j => ?_⟩
        · rw [hget] at r8
          by_cases e : i = h
          · subst e; omega
          · rw [if_neg e] at r8; exact r8
        · have := r9 j
          rw [hget] at this
          by_cases e : j = h
          · subst e
            rw [if_pos rfl] at this
            rcases this with (h3 | ⟨h3, h4⟩) | ⟨h3, _⟩
            · exact .inl (.inr ⟨h3, h2⟩)
            · omega
            · exact .inr ⟨h3, .inr h2⟩
          · rw [if_neg e] at this; exact this
      · rw [if_neg h2] at hg ⊢
        rw [← hs (d.getD h 0), circ_same d h hh] at hg
        exact goN_of f d (h + 1) i c h0 hg

/-! who goes when -/
def orderC (c : Circ) : List Nat := (c.filter fun p => p.2 == 1).map (·.1) ++ (c.filter fun p => p.2 == 2).map (·.1)
def turned (c : Circ) : Circ := c.map fun p => (p.1, if p.2 = 2 then 1 else p.2)
theorem goC_cons (f i : Nat) (x : Int) (t : Circ) : goC (f + 1) ((i, x) :: t) = if x = 1 then some (i, t ++ [(i, 0)]) else goC f (t ++ [(i, if x = 2 then 1 else x)]) := rfl
theorem goC_skip : ∀ (z t : Circ) (f : Nat), (∀ p ∈ z, p.2 ≠ 1) → goC (z.length + f) (z ++ t) = goC f (t ++ turned z)
  | [], t, f, _ => by simp [turned]
  | (i, x) :: z, t, f, h => by
    have hx : x ≠ 1 := h (i, x) List.mem_cons_self
    rw [show ((i, x) :: z).length + f = (z.length + f) + 1 by simp; omega, List.cons_append, goC_cons, if_neg hx, List.append_assoc, goC_skip z _ f (fun p hp => h p (List.mem_cons_of_mem _ hp))]
    simp [turned, List.append_assoc]
theorem goC_one (z t : Circ) (i : Nat) (f : Nat) (h : ∀ p ∈ z, p.2 ≠ 1) : goC (z.length + (f + 1)) (z ++ (i, 1) :: t) = some (i, t ++ turned z ++ [(i, 0)]) := by
  rw [goC_skip z _ _ h, List.cons_append, goC_cons, if_pos rfl]
theorem filter_turned1 (z : Circ) (h : ∀ p ∈ z, p.2 ≠ 1) : ((turned z).filter fun p => p.2 == 1).map (·.1) = (z.filter fun p => p.2 == 2).map (·.1) := by
  induction z with
  | nil => rfl
  | cons p z ih =>
    have h1 := h p List.mem_cons_self
    have ih := ih (fun p hp => h p (List.mem_cons_of_mem _ hp))
    unfold turned at ih ⊢
    rw [List.map_cons]
    by_cases h2 : p.2 = 2
    · rw [List.filter_cons_of_pos (by simp [h2]), List.filter_cons_of_pos (by simp [h2]), List.map_cons, List.map_cons, ih]
    · rw [List.filter_cons_of_neg (by simp [h2, h1]), List.filter_cons_of_neg (by simp [h2]), ih]
theorem filter_turned2 (z : Circ) : (turned z).filter (fun p => p.2 == 2) = [] := by
  unfold turned
  rw [List.filter_eq_nil_iff]
  intro p hp
  obtain ⟨q, _, rfl⟩ := List.mem_map.1 hp
  by_cases h : q.2 = 2 <;> simp [h]
theorem filter_no1 (z : Circ) (h : ∀ p ∈ z, p.2 ≠ 1) : z.filter (fun p => p.2 == 1) = [] := by
  rw [List.filter_eq_nil_iff]
  intro p hp
  simpa using h p hp
theorem split_first (c : Circ) (k : Int) (h : ∃ p ∈ c, p.2 = k) : ∃ z i t, c = z ++ (i, k) :: t ∧ ∀ p ∈ z, p.2 ≠ k := by
  induction c with
  | nil => obtain ⟨p, hp, _⟩ := h; cases hp
  | cons q c ih =>
    by_cases hq : q.2 = k
    · exact ⟨[], q.1, c, by rw [← hq]; rfl, fun p hp => by cases hp⟩
    · obtain ⟨p, hp, hk⟩ := h
      rcases List.mem_cons.1 hp with rfl | hp
      · exact absurd hk hq
      · obtain ⟨z, i, t, h1, h2⟩ := ih ⟨p, hp, hk⟩
        refine ⟨q :: z, i, t, by rw [h1]; rfl, fun p hp => ?_⟩
        rcases List.mem_cons.1 hp with rfl | hp
        · exact hq
        · exact h2 p hp
/-- the first of the order is the one who goes -/
theorem goC_order (c : Circ) (h2 : ∃ p ∈ c, p.2 = 1 ∨ p.2 = 2) (f : Nat) (hf : 2 * c.length + 1 ≤ f) : ∃ i c', goC f c = some (i, c') ∧ orderC c = i :: orderC c' := by
  by_cases h1 : ∃ p ∈ c, p.2 = 1
  · obtain ⟨z, i, t, rfl, hz⟩ := split_first c 1 h1
    obtain ⟨k, rfl⟩ : ∃ k, f = z.length + (k + 1) := ⟨f - z.length - 1, by simp at hf; omega⟩
    refine ⟨i, _, goC_one z t i k hz, ?_⟩
    unfold orderC
    simp only [List.filter_append, List.map_append, filter_no1 z hz, filter_turned1 z hz, filter_turned2 z, List.filter_cons, List.map_nil, List.nil_append, List.append_nil]
    simp
  · have hn : ∀ p ∈ c, p.2 ≠ 1 := fun p hp e => h1 ⟨p, hp, e⟩
    have h3 : ∃ p ∈ c, p.2 = 2 := by
      obtain ⟨p, hp, h⟩ := h2
      exact ⟨p, hp, h.resolve_left (hn p hp)⟩
    obtain ⟨z, i, t, rfl, hz⟩ := split_first c 2 h3
    have hn' : ∀ p ∈ z, p.2 ≠ 1 := fun p hp => hn p (List.mem_append_left _ hp)
    have hnt : ∀ p ∈ t, p.2 ≠ 1 := fun p hp => hn p (List.mem_append_right _ (List.mem_cons_of_mem _ hp))
    have ez : turned z = z := by
      unfold turned
      conv => rhs; rw [← List.map_id z]
      refine List.map_congr_left fun p hp => ?_
      rw [if_neg (hz p hp)]
      rfl
    have hc : turned (z ++ (i, 2) :: t) = z ++ (i, 1) :: turned t := by
      unfold turned at ez ⊢
      rw [List.map_append, ez]
      simp
    obtain ⟨k, rfl⟩ : ∃ k, f = (z ++ (i, 2) :: t).length + (z.length + (k + 1)) := ⟨f - (z ++ (i, 2) :: t).length - z.length - 1, by simp at hf ⊢; omega⟩
    have e := goC_skip (z ++ (i, 2) :: t) [] (z.length + (k + 1)) hn
    rw [List.append_nil, List.nil_append, hc, goC_one z (turned t) i k hn'] at e
    refine ⟨i, _, e, ?_⟩
    unfold orderC
    have f2z : z.filter (fun p => p.2 == 2) = [] := by
      rw [List.filter_eq_nil_iff]
      intro p hp
      simpa using hz p hp
    simp only [List.filter_append, List.map_append, filter_no1 z hn', filter_no1 t hnt, filter_turned1 t hnt, filter_turned2 t, ez, f2z, List.filter_cons, List.map_nil, List.nil_append, List.append_nil]
    simp
theorem orderC_none (c : Circ) (h : ∀ p ∈ c, p.2 ≠ 1 ∧ p.2 ≠ 2) : orderC c = [] := by
  unfold orderC
  rw [filter_no1 c (fun p hp => (h p hp).1), List.filter_eq_nil_iff.2 (fun p hp => by simpa using (h p hp).2)]
  rfl

/-! on the dial -/
theorem good_each {d : List Int} {h : Int} (hg : goodD d h = true) : (∀ j, 0 ≤ d.getD j 0 ∧ d.getD j 0 ≤ 2) ∧ 0 ≤ h ∧ h ≤ (d.length : Int) := by
  unfold goodD at hg
  simp only [Bool.and_eq_true, List.all_eq_true, decide_eq_true_eq] at hg
  refine ⟨fun j => ?_, hg.2⟩
  rw [List.getD_eq_getElem?_getD]
  cases hj : d[j]? with
  | none => simp
  | some x => exact hg.1 x (List.mem_of_getElem? hj)
theorem good_of {d : List Int} {h : Nat} (h1 : ∀ j, 0 ≤ d.getD j 0 ∧ d.getD j 0 ≤ 2) (h2 : h ≤ d.length) : goodD d (h : Int) = true := by
  unfold goodD
  simp only [Bool.and_eq_true, List.all_eq_true, decide_eq_true_eq]
  refine ⟨fun x hx => ?_, by omega, by omega⟩
  obtain ⟨j, hj, rfl⟩ := List.mem_iff_getElem.1 hx
  have := h1 j
  rwa [List.getD_eq_getElem?_getD, List.getElem?_eq_getElem hj] at this
theorem some_iff {d : List Int} : someD d = true ↔ ∃ j, j < d.length ∧ 0 < d.getD j 0 := by
  unfold someD
  simp only [List.any_eq_true, decide_eq_true_eq]
  constructor
  · rintro ⟨x, hx, h⟩
    obtain ⟨j, hj, rfl⟩ := List.mem_iff_getElem.1 hx
    exact ⟨j, hj, by rw [List.getD_eq_getElem?_getD, List.getElem?_eq_getElem hj]; exact h⟩
  · rintro ⟨j, hj, h⟩
    rw [List.getD_eq_getElem?_getD, List.getElem?_eq_getElem hj] at h
    exact ⟨_, List.getElem_mem hj, h⟩
theorem circ_length (d : List Int) (h : Nat) : (circ d h).length = d.length := by
  unfold circ
  rw [List.length_map, rot_length]
theorem circ_mem {d : List Int} {h : Nat} {p : Nat × Int} : p ∈ circ d h ↔ p.1 < d.length ∧ p.2 = d.getD p.1 0 := by
  unfold circ
  rw [List.mem_map]
  constructor
  · rintro ⟨i, hi, rfl⟩
    exact ⟨rot_mem.1 hi, rfl⟩
  · rintro ⟨h1, h2⟩
    exact ⟨p.1, rot_mem.2 h1, by rw [← h2]⟩
/-- what Next does, all of it -/
structure Went (d : List Int) (h : Nat) (r : Nat) (m : List Int) (tz : Nat) : Prop where
  is : goN (2 * d.length + 2) d h = (r, m, tz)
  len : m.length = d.length
  lt : r < d.length
  to_lt : tz < d.length
  to_is : tz = (r + 1) % d.length
  row : m.getD r 0 = 0
  was : d.getD r 0 ≠ 0
  each : ∀ j, (m.getD j 0 = d.getD j 0 ∨ (m.getD j 0 = 1 ∧ d.getD j 0 = 2)) ∨ (j = r ∧ (d.getD j 0 = 1 ∨ d.getD j 0 = 2))
  ord : orderC (circ d h) = r :: orderC (circ m tz)
theorem went {d : List Int} {h : Nat} (hg : ∀ j, 0 ≤ d.getD j 0 ∧ d.getD j 0 ≤ 2) (hs : someD d = true) : ∃ r m tz, Went d h r m tz := by
  obtain ⟨j, hj, h0⟩ := some_iff.1 hs
  obtain ⟨i, c', e, ho⟩ := goC_order (circ d h) ⟨(j, d.getD j 0), circ_mem.2 ⟨hj, rfl⟩, by have := hg j; simp only; omega⟩ (2 * d.length + 2) (by rw [circ_length]; omega)
  obtain ⟨m, tz, r1, r2, r3, r4, r5, r6, r7, r8, r9⟩ := goN_of _ d h i c' (by omega) e
  exact ⟨i, m, tz, r1, r3, r5, r4, r6, r7, r8, r9, by rw [ho, r2]⟩
theorem Went.good {d : List Int} {h r tz : Nat} {m : List Int} (w : Went d h r m tz) (hg : ∀ j, 0 ≤ d.getD j 0 ∧ d.getD j 0 ≤ 2) : ∀ j, 0 ≤ m.getD j 0 ∧ m.getD j 0 ≤ 2 := fun j => by
  have h1 := hg j
  rcases w.each j with (h2 | h2) | ⟨rfl, h2⟩
  · omega
  · omega
  · rw [w.row]; omega
theorem Went.le {d : List Int} {h r tz : Nat} {m : List Int} (w : Went d h r m tz) (j : Nat) : m.getD j 0 ≤ d.getD j 0 ∧ (j ≠ r → (m.getD j 0 = 0 ↔ d.getD j 0 = 0)) := by
  rcases w.each j with (h2 | h2) | ⟨rfl, h2⟩
  · exact ⟨by omega, fun _ => by omega⟩
  · exact ⟨by omega, fun _ => by omega⟩
  · exact ⟨by have := w.row; omega, fun h => absurd rfl h⟩
theorem next_went {d : List Int} {h : Int} (ho : okD d h = true) : ∃ r m tz, nextS d h = (r, m, tz) ∧ Went d h.toNat r m tz ∧ (∀ j, 0 ≤ d.getD j 0 ∧ d.getD j 0 ≤ 2) := by
  have ho' := ho
  unfold okD at ho
  rw [Bool.and_eq_true] at ho
  have hg := good_each ho.1
  obtain ⟨r, m, tz, w⟩ := went (h := h.toNat) hg.1 ho.2
  refine ⟨r, m, tz, ?_, w, hg.1⟩
  unfold nextS
  rw [if_pos ho', w.is]
theorem next_none {d : List Int} {h : Int} (ho : okD d h = false) : nextS d h = (0, [], 0) := by
  unfold nextS
  rw [ho]
  rfl
/-- in which order all go -/
def ordN : Nat → List Int → Nat → List Nat
  | 0, _, _ => []
  | f + 1, d, h => if someD d = true then (goN (2 * d.length + 2) d h).1 :: ordN f (goN (2 * d.length + 2) d h).2.1 (goN (2 * d.length + 2) d h).2.2 else []
def orderS (d : List Int) (h : Int) : List Nat := if goodD d h = true then orderC (circ d h.toNat) else []
theorem order_none {d : List Int} {h : Nat} (hg : ∀ j, 0 ≤ d.getD j 0 ∧ d.getD j 0 ≤ 2) (hs : someD d = false) : orderC (circ d h) = [] := by
  refine orderC_none _ fun p hp => ?_
  obtain ⟨h1, h2⟩ := circ_mem.1 hp
  have : ¬ 0 < d.getD p.1 0 := fun h0 => by rw [some_iff.2 ⟨p.1, h1, h0⟩] at hs; cases hs
  omega
/-- step by step: who goes first, and what goes on then -/
theorem order_step {d : List Int} {h : Int} (hg : goodD d h = true) : (okD d h = false → orderS d h = []) ∧ (okD d h = true → ∃ r m tz, nextS d h = (r, m, tz) ∧ Went d h.toNat r m tz ∧ goodD m (tz : Int) = true ∧ orderS d h = r :: orderS m (tz : Int)) := by
  have hge := good_each hg
  refine ⟨fun ho => ?_, fun ho => ?_⟩
  · unfold orderS
    rw [if_pos hg]
    refine order_none hge.1 ?_
    unfold okD at ho
    rw [hg] at ho
    simpa using ho
  · obtain ⟨r, m, tz, h1, h2, h3⟩ := next_went ho
    have hm : goodD m (tz : Int) = true := good_of (h2.good h3) (by rw [h2.len]; exact Nat.le_of_lt h2.to_lt)
    refine ⟨r, m, tz, h1, h2, hm, ?_⟩
    unfold orderS
    rw [if_pos hg, if_pos hm, h2.ord]
    rfl
theorem filter_count (l : List Nat) (p : Nat → Bool) (q : Nat → Bool) (h : ∀ i, ¬ (p i = true ∧ q i = true)) : (l.filter p).length + (l.filter q).length = (l.filter fun i => p i || q i).length := by
  induction l with
  | nil => rfl
  | cons x l ih =>
    have := h x
    simp only [List.filter_cons]
    cases hp : p x <;> cases hq : q x <;> simp_all <;> omega
theorem circ_filter (d : List Int) (h : Nat) (k : Int) : ((circ d h).filter fun p => p.2 == k).map (·.1) = (rot d.length h).filter fun i => d.getD i 0 == k := by
  unfold circ
  rw [List.filter_map, List.map_map]
  exact List.map_id _
theorem orderS_is {d : List Int} {h : Int} (hg : goodD d h = true) : orderS d h = ((rot d.length h.toNat).filter fun i => d.getD i 0 == 1) ++ ((rot d.length h.toNat).filter fun i => d.getD i 0 == 2) := by
  unfold orderS orderC
  rw [if_pos hg, circ_filter, circ_filter]
theorem order_mem {d : List Int} {h : Int} (hg : goodD d h = true) {i : Nat} : i ∈ orderS d h ↔ i < d.length ∧ d.getD i 0 ≠ 0 := by
  have := (good_each hg).1 i
  rw [orderS_is hg, List.mem_append, List.mem_filter, List.mem_filter, rot_mem]
  simp only [beq_iff_eq]
  omega
theorem order_nodup {d : List Int} {h : Int} (hg : goodD d h = true) : (orderS d h).Nodup := by
  rw [orderS_is hg, List.nodup_append]
  refine ⟨(rot_nodup _ _).filter _, (rot_nodup _ _).filter _, fun a ha b hb e => ?_⟩
  subst e
  have h1 := (List.mem_filter.1 ha).2
  have h2 := (List.mem_filter.1 hb).2
  simp only [beq_iff_eq] at h1 h2
  omega
/-- how many are there -/
def many : List Int → Nat
  | [] => 0
  | x :: d => (if 0 < x then 1 else 0) + many d
theorem many_filter (d : List Int) : many d = ((List.range d.length).filter fun i => decide (0 < d.getD i 0)).length := by
  induction d with
  | nil => rfl
  | cons x d ih =>
    rw [List.length_cons, List.range_succ_eq_map, List.filter_cons, List.filter_map, many, ih]
    have e : ((fun i => decide (0 < (x :: d).getD i 0)) ∘ Nat.succ) = fun i => decide (0 < d.getD i 0) := by
      funext i
      simp [List.getD_eq_getElem?_getD]
    rw [e]
    by_cases h : 0 < x
    · simp [h]; omega
    · simp [h]
theorem order_length {d : List Int} {h : Int} (hg : goodD d h = true) : (orderS d h).length = many d := by
  have hge := (good_each hg).1
  rw [orderS_is hg, List.length_append, filter_count _ _ _ (fun i => by simp only [beq_iff_eq]; omega), many_filter]
  have hp : ((List.range d.length).drop h.toNat ++ (List.range d.length).take h.toNat).Perm (List.range d.length) := by
    have := (List.perm_append_comm (l₁ := (List.range d.length).drop h.toNat) (l₂ := (List.range d.length).take h.toNat))
    rwa [List.take_append_drop] at this
  have e : (fun i => d.getD i 0 == 1 || d.getD i 0 == 2) = fun i => decide (0 < d.getD i 0) := by
    funext i
    have := hge i
    rw [Bool.eq_iff_iff]
    simp only [Bool.or_eq_true, beq_iff_eq, decide_eq_true_eq]
    omega
  rw [e]
  exact (hp.filter _).length_eq
/-- one that is not used goes ahead of one that is -/
theorem order_ones {d : List Int} {h : Int} (hg : goodD d h = true) {i a b : Nat} (ha : (orderS d h)[i]? = some a) (hb : (orderS d h)[i + 1]? = some b) : ¬ (d.getD b 0 = 1 ∧ d.getD a 0 = 2) := by
  rw [orderS_is hg] at ha hb
  generalize hx : (rot d.length h.toNat).filter (fun i => d.getD i 0 == 1) = x at ha hb
  generalize hy : (rot d.length h.toNat).filter (fun i => d.getD i 0 == 2) = y at ha hb
  rintro ⟨h1, h2⟩
  by_cases hl : i < x.length
  · rw [List.getElem?_append_left hl] at ha
    have hm := List.mem_of_getElem? ha
    rw [← hx] at hm
    have := (List.mem_filter.1 hm).2
    simp only [beq_iff_eq] at this
    omega
  · rw [List.getElem?_append_right (by omega)] at hb
    have hm := List.mem_of_getElem? hb
    rw [← hy] at hm
    have := (List.mem_filter.1 hm).2
    simp only [beq_iff_eq] at this
    omega
end Go.Proofs.Ytilddigiljappaa.Clock
