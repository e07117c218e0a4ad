/-
  Series: what came, in order, the last ones. No program stands here.
-/
import Derived.Test.YtbiokogihimboaaDoorTenantSpec
namespace Go.Proofs.YtbiokogihimboaaDoor.Series
open Go.RowKit Base _root_.Go.Proofs.YtbiokogihimboaaDoor.Tenant

abbrev Sm := Int × Int
def Ris (l : List Sm) : Prop := l.Pairwise (fun a b => a.1 < b.1)
def rising (l : List Sm) : Bool := decide (l.Pairwise (fun a b => a.1 < b.1))
theorem rising_iff (l : List Sm) : rising l = true ↔ Ris l := decide_eq_true_iff
theorem rising_no {l : List Sm} (h : ¬ Ris l) : rising l = false := decide_eq_false h
theorem ris_next {l : List Sm} {i : Nat} (hi : i < l.length) (h1 : 1 ≤ i) (h : Ris (l.take i)) (hlt : (l.getD (i - 1) (0, 0)).1 < (l.getD i (0, 0)).1) : Ris (l.take (i + 1)) := by
  rw [List.getD_eq_getElem?_getD, List.getD_eq_getElem?_getD, List.getElem?_eq_getElem hi, List.getElem?_eq_getElem (show i - 1 < l.length by omega)] at hlt
  simp only [Option.getD_some] at hlt
  rw [List.take_succ_eq_append_getElem hi]
  refine List.pairwise_append.2 ⟨h, List.pairwise_singleton _ _, fun a ha b hb => ?_⟩
  rw [List.mem_singleton] at hb
  subst hb
  obtain ⟨j, hj, rfl⟩ := List.mem_take_iff_getElem.1 ha
  have hji : j < i := by omega
  rcases Nat.lt_or_ge j (i - 1) with h2 | h2
  · have h3 := List.pairwise_iff_getElem.1 h j (i - 1) (by rw [List.length_take]; omega) (by rw [List.length_take]; omega) h2
    rw [List.getElem_take, List.getElem_take] at h3
    exact Int.lt_trans h3 hlt
  · obtain rfl : j = i - 1 := by omega
    exact hlt
theorem ris_bad {l : List Sm} {i : Nat} (hi : i < l.length) (h1 : 1 ≤ i) (hlt : (l.getD i (0, 0)).1 ≤ (l.getD (i - 1) (0, 0)).1) : rising l = false := rising_no (fun h => by
  rw [List.getD_eq_getElem?_getD, List.getD_eq_getElem?_getD, List.getElem?_eq_getElem hi, List.getElem?_eq_getElem (show i - 1 < l.length by omega)] at hlt
  simp only [Option.getD_some] at hlt
  have h3 := List.pairwise_iff_getElem.1 h (i - 1) i (by omega) hi (by omega)
  omega)
theorem ris_short {l : List Sm} (h : l.length ≤ 1) : Ris l := by
  match l, h with
  | [], _ => exact List.Pairwise.nil
  | [a], _ => exact List.pairwise_singleton _ _
def addErr (l m : List Sm) (r : Int) : Int := if (rising l && inn r 1 64) = true then (if rising (l ++ m) = true then 0 else 8) else 1
/-- the last so many -/
def lastN (l : List Sm) (r : Nat) : List Sm := l.drop (l.length - r)
def addOut (l m : List Sm) (r : Int) : List Sm := if addErr l m r = 0 then lastN (l ++ m) r.toNat else []
theorem add_zero {l m : List Sm} {r : Int} (h : addErr l m r = 0) : Ris l ∧ (1 ≤ r ∧ r ≤ 64) ∧ Ris (l ++ m) ∧ addOut l m r = lastN (l ++ m) r.toNat := by
  have h0 := h
  unfold addErr at h
  split at h
  · rename_i h1
    rw [Bool.and_eq_true, rising_iff, inn_iff] at h1
    split at h
    · rename_i h2
      exact ⟨h1.1, h1.2, (rising_iff _).1 h2, by unfold addOut; rw [if_pos h0]⟩
    · exact absurd h (by decide)
  · exact absurd h (by decide)
theorem add_yes {l m : List Sm} {r : Int} (h1 : Ris l) (h2 : 1 ≤ r ∧ r ≤ 64) (h3 : Ris (l ++ m)) : addErr l m r = 0 ∧ addOut l m r = lastN (l ++ m) r.toNat := by
  have h : addErr l m r = 0 := by
    unfold addErr
    rw [(rising_iff l).2 h1, (inn_iff r 1 64).2 h2, (rising_iff _).2 h3]
    rfl
  exact ⟨h, by unfold addOut; rw [if_pos h]⟩
theorem add_order {l m : List Sm} {r : Int} (h1 : Ris l) (h2 : 1 ≤ r ∧ r ≤ 64) (h3 : ¬ Ris (l ++ m)) : addErr l m r = 8 ∧ addOut l m r = [] := by
  have h : addErr l m r = 8 := by
    unfold addErr
    rw [(rising_iff l).2 h1, (inn_iff r 1 64).2 h2, rising_no h3]
    rfl
  exact ⟨h, by unfold addOut; rw [h]; rfl⟩
theorem add_arg {l m : List Sm} {r : Int} (h1 : (rising l && inn r 1 64) = false) : addErr l m r = 1 ∧ addOut l m r = [] := by
  have h : addErr l m r = 1 := by
    unfold addErr
    rw [h1]
    rfl
  exact ⟨h, by unfold addOut; rw [h]; rfl⟩
theorem lastN_length (l : List Sm) (r : Nat) : (lastN l r).length = min r l.length := by
  unfold lastN
  rw [List.length_drop]
  omega
theorem lastN_ris {l : List Sm} (h : Ris l) (r : Nat) : Ris (lastN l r) := h.sublist (List.drop_sublist _ _)
theorem lastN_app (m b : List Sm) (r : Nat) : lastN (lastN m r ++ b) r = lastN (m ++ b) r := by
  have e : lastN m r ++ b = (m ++ b).drop (m.length - r) := by
    unfold lastN
    rw [List.drop_append_of_le_length (by omega)]
  unfold lastN at e ⊢
  rw [e, List.drop_drop, List.length_drop, List.length_append]
  congr 1
  omega
theorem ris_lastN {m b : List Sm} {r : Nat} (hr : 1 ≤ r) (hm : Ris m) (h : Ris (lastN m r ++ b)) : Ris (m ++ b) := by
  have e : m = m.take (m.length - r) ++ lastN m r := (List.take_append_drop _ _).symm
  have hm2 : Ris (m.take (m.length - r) ++ lastN m r) := by rw [← e]; exact hm
  obtain ⟨p1, p2, p3⟩ := List.pairwise_append.1 hm2
  obtain ⟨q1, q2, q3⟩ := List.pairwise_append.1 h
  refine List.pairwise_append.2 ⟨hm, q2, fun a ha b hb => ?_⟩
  rw [e] at ha
  rcases List.mem_append.1 ha with ha | ha
  · have hl : 0 < (lastN m r).length := by
      rw [lastN_length]
      have : 0 < m.length := by
        rcases Nat.eq_zero_or_pos m.length with h0 | h0
        · rw [List.eq_nil_of_length_eq_zero h0] at ha; simp at ha
        · exact h0
      omega
    have hy := List.getElem_mem hl
    exact Int.lt_trans (p3 a ha _ hy) (q3 _ hy b hb)
  · exact q3 a ha b hb
theorem ris_part {m b : List Sm} (r : Nat) (h : Ris (m ++ b)) : Ris (lastN m r ++ b) := by
  refine h.sublist ?_
  exact (List.drop_sublist _ _).append (List.Sublist.refl _)
/-- in two parts, or at once -/
theorem add_two {l a : List Sm} (b : List Sm) {r : Int} (h : addErr l a r = 0) : addErr (addOut l a r) b r = addErr l (a ++ b) r ∧ addOut (addOut l a r) b r = addOut l (a ++ b) r := by
  obtain ⟨h1, h2, h3, h4⟩ := add_zero h
  rw [h4]
  have hr : 1 ≤ r.toNat := by omega
  by_cases hb : Ris (l ++ (a ++ b))
  · have hb2 : Ris (lastN (l ++ a) r.toNat ++ b) := ris_part _ (by rw [List.append_assoc]; exact hb)
    obtain ⟨x1, x2⟩ := add_yes (lastN_ris h3 r.toNat) h2 hb2
    obtain ⟨y1, y2⟩ := add_yes h1 h2 hb
    rw [x1, x2, y1, y2, lastN_app, List.append_assoc]
    exact ⟨rfl, rfl⟩
  · have hb2 : ¬ Ris (lastN (l ++ a) r.toNat ++ b) := fun hx => hb (by rw [← List.append_assoc]; exact ris_lastN hr h3 hx)
    obtain ⟨x1, x2⟩ := add_order (lastN_ris h3 r.toNat) h2 hb2
    obtain ⟨y1, y2⟩ := add_order h1 h2 hb
    rw [x1, x2, y1, y2]
    exact ⟨rfl, rfl⟩
theorem add_ris {l m : List Sm} {r : Int} (h : addErr l m r = 0) : Ris (addOut l m r) := by
  obtain ⟨_, _, h3, h4⟩ := add_zero h
  rw [h4]
  exact lastN_ris h3 _
theorem add_length (l m : List Sm) (r : Int) : (addOut l m r).length ≤ 64 := by
  unfold addOut
  split
  · rename_i h
    have := (add_zero h).2.1
    rw [lastN_length]
    omega
  · simp
theorem add_mem {l m : List Sm} {r : Int} {q : Sm} (h : q ∈ addOut l m r) : q ∈ l ++ m := by
  unfold addOut at h
  split at h
  · exact List.mem_of_mem_drop h
  · simp at h
def between (f t : Int) (p : Sm) : Bool := decide (f ≤ p.1) && decide (p.1 ≤ t)
theorem between_iff (f t : Int) (p : Sm) : between f t p = true ↔ f ≤ p.1 ∧ p.1 ≤ t := by unfold between; rw [Bool.and_eq_true, decide_eq_true_eq, decide_eq_true_eq]
def rangeOf (l : List Sm) (f t : Int) : List Sm := l.filter (between f t)
theorem range_two : ∀ {l : List Sm} (_ : Ris l) {f m t : Int} (_ : f ≤ m) (_ : m < t), rangeOf l f m ++ rangeOf l (m + 1) t = rangeOf l f t
  | [], _, _, _, _, _, _ => rfl
  | p :: l, h, f, m, t, h1, h2 => by
    obtain ⟨k1, k2⟩ := List.pairwise_cons.1 h
    have ih := range_two k2 h1 h2
    unfold rangeOf at ih ⊢
    by_cases hp : p.1 ≤ m
    · have z2 : between (m + 1) t p = false := by rw [Bool.eq_false_iff]; intro hx; have := (between_iff _ _ _).1 hx; omega
      by_cases hf : f ≤ p.1
      · have z1 : between f m p = true := (between_iff _ _ _).2 ⟨hf, hp⟩
        have z3 : between f t p = true := (between_iff _ _ _).2 ⟨hf, by omega⟩
        rw [List.filter_cons_of_pos z1, List.filter_cons_of_neg (by rw [z2]; decide), List.filter_cons_of_pos z3, List.cons_append, ih]
      · have z1 : between f m p = false := by rw [Bool.eq_false_iff]; intro hx; have := (between_iff _ _ _).1 hx; omega
        have z3 : between f t p = false := by rw [Bool.eq_false_iff]; intro hx; have := (between_iff _ _ _).1 hx; omega
        rw [List.filter_cons_of_neg (by rw [z1]; decide), List.filter_cons_of_neg (by rw [z2]; decide), List.filter_cons_of_neg (by rw [z3]; decide), ih]
    · have e1 : (p :: l).filter (between f m) = [] := List.filter_eq_nil_iff.2 (fun q hq hx => by
        have h3 := (between_iff _ _ _).1 hx
        rcases List.mem_cons.1 hq with rfl | hq
        · omega
        · have := k1 q hq; omega)
      rw [e1, List.nil_append]
      refine List.filter_congr (fun q hq => ?_)
      have hqm : m < q.1 := by
        rcases List.mem_cons.1 hq with rfl | hq
        · omega
        · have := k1 q hq; omega
      rw [Bool.eq_iff_iff, between_iff, between_iff]
      omega
theorem range_length (l : List Sm) (f t : Int) : (rangeOf l f t).length ≤ l.length := List.length_filter_le _ _
theorem range_mem {l : List Sm} {f t : Int} {q : Sm} (h : q ∈ rangeOf l f t) : q ∈ l := (List.mem_filter.1 h).1
theorem range_next (l : List Sm) (f t : Int) (i : Nat) (hi : i < l.length) : rangeOf (l.take (i + 1)) f t = if between f t (l.getD i (0, 0)) = true then rangeOf (l.take i) f t ++ [l.getD i (0, 0)] else rangeOf (l.take i) f t := by
  rw [List.getD_eq_getElem?_getD, List.getElem?_eq_getElem hi, List.take_succ_eq_append_getElem hi]
  unfold rangeOf
  rw [List.filter_append]
  simp only [Option.getD_some]
  split
  · rename_i h; rw [List.filter_cons_of_pos h]; rfl
  · rename_i h; rw [List.filter_cons_of_neg h, List.filter_nil, List.append_nil]
/-- the last one -/
def lastOf (l : List Sm) : Sm := l.getD (l.length - 1) (0, 0)
theorem last_none : lastOf [] = (0, 0) := rfl
/-- what is kept of all -/
def Kept (r : Int) (now all : List Sm) : Prop := now = lastN all r.toNat ∧ Ris now
theorem Kept.start (r : Int) : Kept r [] [] := ⟨by unfold lastN; simp, List.Pairwise.nil⟩
theorem Kept.next {r : Int} {now all : List Sm} (h : Kept r now all) (x : List Sm) (hz : addErr now x r = 0) : Kept r (addOut now x r) (all ++ x) := by
  refine ⟨?_, add_ris hz⟩
  rw [(add_zero hz).2.2.2, h.1, lastN_app]
theorem Kept.length {r : Int} {now all : List Sm} (h : Kept r now all) : now.length = min r.toNat all.length := by rw [h.1, lastN_length]
theorem Kept.at {r : Int} {now all : List Sm} (h : Kept r now all) (i : Nat) : now.getD i (0, 0) = all.getD (all.length - now.length + i) (0, 0) := by
  rw [h.length, h.1]
  unfold lastN
  rw [List.getD_eq_getElem?_getD, List.getD_eq_getElem?_getD, List.getElem?_drop]
  congr 2
  omega
theorem Kept.no {r : Int} {now all : List Sm} (h : Kept r now all) (hr : 1 ≤ r ∧ r ≤ 64) (x : List Sm) (hz : addErr now x r ≠ 0) : addErr now x r = 8 ∧ addOut now x r = [] := by
  by_cases hx : Ris (now ++ x)
  · exact absurd (add_yes h.2 hr hx).1 hz
  · exact add_order h.2 hr hx
end Go.Proofs.YtbiokogihimboaaDoor.Series
