/-
  Series: what came, in order, the last ones. No program stands here.
  Slices of pairs: nil, part by part, rows of one's own, literals. No program stands here.
  l[lo:] of a slice of pairs.
-/
import Derived.Test.YtbbmjkligiglmaaTenantSpec
import Derived.Test.YtbbmjkligiglmaaWays
namespace Go.Proofs.Ytbbmjkligiglmaa.Series
open Go.RowKit Base _root_.Go.Proofs.Ytbbmjkligiglmaa.Tenant

abbrev Sm := Int × Int
def Ris (l : List Sm) : Prop := l.Pairwise (fun a b => a.1 < b.1)
def rising (l : List Sm) : Bool := decide (l.Pairwise (fun a b => a.1 < b.1))
theorem rising_iff (l : List Sm) : rising l = true ↔ Ris l := decide_eq_true_iff
theorem rising_no {l : List Sm} (h : ¬ Ris l) : rising l = false := decide_eq_false h
theorem ris_next {l : List Sm} {i : Nat} (hi : i < l.length) (h1 : 1 ≤ i) (h : Ris (l.take i)) (hlt : (l.getD (i - 1) (0, 0)).1 < (l.getD i (0, 0)).1) : Ris (l.take (i + 1)) := by
  rw [List.getD_eq_getElem?_getD, List.getD_eq_getElem?_getD, List.getElem?_eq_getElem hi, List.getElem?_eq_getElem (show i - 1 < l.length by omega)] at hlt
  simp only [Option.getD_some] at hlt
  rw [List.take_succ_eq_append_getElem hi]
  refine List.pairwise_append.2 ⟨h, List.pairwise_singleton _ _, fun a ha b hb => ?_⟩
  rw [List.mem_singleton] at hb
  subst hb
  obtain ⟨j, hj, rfl⟩ := List.mem_take_iff_getElem.1 ha
  have hji : j < i := by omega
  rcases Nat.lt_or_ge j (i - 1) with h2 | h2
  · have h3 := List.pairwise_iff_getElem.1 h j (i - 1) (by rw [List.length_take]; omega) (by rw [List.length_take]; omega) h2
    rw [List.getElem_take, List.getElem_take] at h3
    exact Int.lt_trans h3 hlt
  · obtain rfl : j = i - 1 := by omega
    exact hlt
theorem ris_bad {l : List Sm} {i : Nat} (hi : i < l.length) (h1 : 1 ≤ i) (hlt : (l.getD i (0, 0)).1 ≤ (l.getD (i - 1) (0, 0)).1) : rising l = false := rising_no (fun h => by
  rw [List.getD_eq_getElem?_getD, List.getD_eq_getElem?_getD, List.getElem?_eq_getElem hi, List.getElem?_eq_getElem (show i - 1 < l.length by omega)] at hlt
  simp only [Option.getD_some] at hlt
  have h3 := List.pairwise_iff_getElem.1 h (i - 1) i (by omega) hi (by omega)
  omega)
theorem ris_short {l : List Sm} (h : l.length ≤ 1) : Ris l := by
  match l, h with
  | [], _ => exact List.Pairwise.nil
  | [a], _ => exact List.pairwise_singleton _ _
def addErr (l m : List Sm) (r : Int) : Int := if (rising l && inn r 1 64) = true then (if rising (l ++ m) = true then 0 else 8) else 1
/-- the last so many -/
def lastN (l : List Sm) (r : Nat) : List Sm := l.drop (l.length - r)
def addOut (l m : List Sm) (r : Int) : List Sm := if addErr l m r = 0 then lastN (l ++ m) r.toNat else []
theorem add_zero {l m : List Sm} {r : Int} (h : addErr l m r = 0) : Ris l ∧ (1 ≤ r ∧ r ≤ 64) ∧ Ris (l ++ m) ∧ addOut l m r = lastN (l ++ m) r.toNat := by
  have h0 := h
  unfold addErr at h
  split at h
  · rename_i h1
    rw [Bool.and_eq_true, rising_iff, inn_iff] at h1
    split at h
    · rename_i h2
      exact ⟨h1.1, h1.2, (rising_iff _).1 h2, by unfold addOut; rw [if_pos h0]⟩
    · exact absurd h (by decide)
  · exact absurd h (by decide)
theorem add_yes {l m : List Sm} {r : Int} (h1 : Ris l) (h2 : 1 ≤ r ∧ r ≤ 64) (h3 : Ris (l ++ m)) : addErr l m r = 0 ∧ addOut l m r = lastN (l ++ m) r.toNat := by
  have h : addErr l m r = 0 := by
    unfold addErr
    rw [(rising_iff l).2 h1, (inn_iff r 1 64).2 h2, (rising_iff _).2 h3]
    rfl
  exact ⟨h, by unfold addOut; rw [if_pos h]⟩
theorem add_order {l m : List Sm} {r : Int} (h1 : Ris l) (h2 : 1 ≤ r ∧ r ≤ 64) (h3 : ¬ Ris (l ++ m)) : addErr l m r = 8 ∧ addOut l m r = [] := by
  have h : addErr l m r = 8 := by
    unfold addErr
    rw [(rising_iff l).2 h1, (inn_iff r 1 64).2 h2, rising_no h3]
    rfl
  exact ⟨h, by unfold addOut; rw [h]; rfl⟩
theorem add_arg {l m : List Sm} {r : Int} (h1 : (rising l && inn r 1 64) = false) : addErr l m r = 1 ∧ addOut l m r = [] := by
  have h : addErr l m r = 1 := by
    unfold addErr
    rw [h1]
    rfl
  exact ⟨h, by unfold addOut; rw [h]; rfl⟩
theorem lastN_length (l : List Sm) (r : Nat) : (lastN l r).length = min r l.length := by
  unfold lastN
  rw [List.length_drop]
  omega
theorem lastN_ris {l : List Sm} (h : Ris l) (r : Nat) : Ris (lastN l r) := h.sublist (List.drop_sublist _ _)
theorem lastN_app (m b : List Sm) (r : Nat) : lastN (lastN m r ++ b) r = lastN (m ++ b) r := by
  have e : lastN m r ++ b = (m ++ b).drop (m.length - r) := by
    unfold lastN
    rw [List.drop_append_of_le_length (by omega)]
  unfold lastN at e ⊢
  rw [e, List.drop_drop, List.length_drop, List.length_append]
  congr 1
  omega
theorem ris_lastN {m b : List Sm} {r : Nat} (hr : 1 ≤ r) (hm : Ris m) (h : Ris (lastN m r ++ b)) : Ris (m ++ b) := by
  have e : m = m.take (m.length - r) ++ lastN m r := (List.take_append_drop _ _).symm
  have hm2 : Ris (m.take (m.length - r) ++ lastN m r) := by rw [← e]; exact hm
  obtain ⟨p1, p2, p3⟩ := List.pairwise_append.1 hm2
  obtain ⟨q1, q2, q3⟩ := List.pairwise_append.1 h
  refine List.pairwise_append.2 ⟨hm, q2, fun a ha b hb => ?_⟩
  rw [e] at ha
  rcases List.mem_append.1 ha with ha | ha
  · have hl : 0 < (lastN m r).length := by
      rw [lastN_length]
      have : 0 < m.length := by
        rcases Nat.eq_zero_or_pos m.length with h0 | h0
        · rw [List.eq_nil_of_length_eq_zero h0] at ha; simp at ha
        · exact h0
      omega
    have hy := List.getElem_mem hl
    exact Int.lt_trans (p3 a ha _ hy) (q3 _ hy b hb)
  · exact q3 a ha b hb
theorem ris_part {m b : List Sm} (r : Nat) (h : Ris (m ++ b)) : Ris (lastN m r ++ b) := by
  refine h.sublist ?_
  exact (List.drop_sublist _ _).append (List.Sublist.refl _)
/-- in two parts, or at once -/
theorem add_two {l a : List Sm} (b : List Sm) {r : Int} (h : addErr l a r = 0) : addErr (addOut l a r) b r = addErr l (a ++ b) r ∧ addOut (addOut l a r) b r = addOut l (a ++ b) r := by
  obtain ⟨h1, h2, h3, h4⟩ := add_zero h
  rw [h4]
  have hr : 1 ≤ r.toNat := by omega
  by_cases hb : Ris (l ++ (a ++ b))
  · have hb2 : Ris (lastN (l ++ a) r.toNat ++ b) := ris_part _ (by rw [List.append_assoc]; exact hb)
    obtain ⟨x1, x2⟩ := add_yes (lastN_ris h3 r.toNat) h2 hb2
    obtain ⟨y1, y2⟩ := add_yes h1 h2 hb
    rw [x1, x2, y1, y2, lastN_app, List.append_assoc]
    exact ⟨rfl, rfl⟩
  · have hb2 : ¬ Ris (lastN (l ++ a) r.toNat ++ b) := fun hx => hb (by rw [← List.append_assoc]; exact ris_lastN hr h3 hx)
    obtain ⟨x1, x2⟩ := add_order (lastN_ris h3 r.toNat) h2 hb2
    obtain ⟨y1, y2⟩ := add_order h1 h2 hb
    rw [x1, x2, y1, y2]
    exact ⟨rfl, rfl⟩
theorem add_ris {l m : List Sm} {r : Int} (h : addErr l m r = 0) : Ris (addOut l m r) := by
  obtain ⟨_, _, h3, h4⟩ := add_zero h
  rw [h4]
  exact lastN_ris h3 _
theorem add_length (l m : List Sm) (r : Int) : (addOut l m r).length ≤ 64 := by
  unfold addOut
  split
  · rename_i h
    have := (add_zero h).2.1
    rw [lastN_length]
    omega
  · simp
theorem add_mem {l m : List Sm} {r : Int} {q : Sm} (h : q ∈ addOut l m r) : q ∈ l ++ m := by
  unfold addOut at h
  split at h
  · exact List.mem_of_mem_drop h
  · simp at h
def between (f t : Int) (p : Sm) : Bool := decide (f ≤ p.1) && decide (p.1 ≤ t)
theorem between_iff (f t : Int) (p : Sm) : between f t p = true ↔ f ≤ p.1 ∧ p.1 ≤ t := by unfold between; rw [Bool.and_eq_true, decide_eq_true_eq, decide_eq_true_eq]
def rangeOf (l : List Sm) (f t : Int) : List Sm := l.filter (between f t)
theorem range_two : ∀ {l : List Sm} (_ : Ris l) {f m t : Int} (_ : f ≤ m) (_ : m < t), rangeOf l f m ++ rangeOf l (m + 1) t = rangeOf l f t
  | [], _, _, _, _, _, _ => rfl
  | p :: l, h, f, m, t, h1, h2 => by
    obtain ⟨k1, k2⟩ := List.pairwise_cons.1 h
    have ih := range_two k2 h1 h2
    unfold rangeOf at ih ⊢
    by_cases hp : p.1 ≤ m
    · have z2 : between (m + 1) t p = false := by rw [Bool.eq_false_iff]; intro hx; have := (between_iff _ _ _).1 hx; omega
      by_cases hf : f ≤ p.1
      · have z1 : between f m p = true := (between_iff _ _ _).2 ⟨hf, hp⟩
        have z3 : between f t p = true := (between_iff _ _ _).2 ⟨hf, by omega⟩
        rw [List.filter_cons_of_pos z1, List.filter_cons_of_neg (by rw [z2]; decide), List.filter_cons_of_pos z3, List.cons_append, ih]
      · have z1 : between f m p = false := by rw [Bool.eq_false_iff]; intro hx; have := (between_iff _ _ _).1 hx; omega
        have z3 : between f t p = false := by rw [Bool.eq_false_iff]; intro hx; have := (between_iff _ _ _).1 hx; omega
        rw [List.filter_cons_of_neg (by rw [z1]; decide), List.filter_cons_of_neg (by rw [z2]; decide), List.filter_cons_of_neg (by rw [z3]; decide), ih]
    · have e1 : (p :: l).filter (between f m) = [] := List.filter_eq_nil_iff.2 (fun q hq hx => by
        have h3 := (between_iff _ _ _).1 hx
        rcases List.mem_cons.1 hq with rfl | hq
        · omega
        · have := k1 q hq; omega)
      rw [e1, List.nil_append]
      refine List.filter_congr (fun q hq => ?_)
      have hqm : m < q.1 := by
        rcases List.mem_cons.1 hq with rfl | hq
        · omega
        · have := k1 q hq; omega
      rw [Bool.eq_iff_iff, between_iff, between_iff]
      omega
theorem range_length (l : List Sm) (f t : Int) : (rangeOf l f t).length ≤ l.length := List.length_filter_le _ _
theorem range_mem {l : List Sm} {f t : Int} {q : Sm} (h : q ∈ rangeOf l f t) : q ∈ l := (List.mem_filter.1 h).1
theorem range_next (l : List Sm) (f t : Int) (i : Nat) (hi : i < l.length) : rangeOf (l.take (i + 1)) f t = if between f t (l.getD i (0, 0)) = true then rangeOf (l.take i) f t ++ [l.getD i (0, 0)] else rangeOf (l.take i) f t := by
  rw [List.getD_eq_getElem?_getD, List.getElem?_eq_getElem hi, List.take_succ_eq_append_getElem hi]
  unfold rangeOf
  rw [List.filter_append]
  simp only [Option.getD_some]
  split
  · rename_i h; rw [List.filter_cons_of_pos h]; rfl
  · rename_i h; rw [List.filter_cons_of_neg h, List.filter_nil, List.append_nil]
/-- the last one -/
def lastOf (l : List Sm) : Sm := l.getD (l.length - 1) (0, 0)
theorem last_none : lastOf [] = (0, 0) := rfl
/-- what is kept of all -/
def Kept (r : Int) (now all : List Sm) : Prop := now = lastN all r.toNat ∧ Ris now
theorem Kept.start (r : Int) : Kept r [] [] := ⟨by unfold lastN; simp, List.Pairwise.nil⟩
theorem Kept.next {r : Int} {now all : List Sm} (h : Kept r now all) (x : List Sm) (hz : addErr now x r = 0) : Kept r (addOut now x r) (all ++ x) := by
  refine ⟨?_, add_ris hz⟩
  rw [(add_zero hz).2.2.2, h.1, lastN_app]
theorem Kept.length {r : Int} {now all : List Sm} (h : Kept r now all) : now.length = min r.toNat all.length := by rw [h.1, lastN_length]
theorem Kept.at {r : Int} {now all : List Sm} (h : Kept r now all) (i : Nat) : now.getD i (0, 0) = all.getD (all.length - now.length + i) (0, 0) := by
  rw [h.length, h.1]
  unfold lastN
  rw [List.getD_eq_getElem?_getD, List.getD_eq_getElem?_getD, List.getElem?_drop]
  congr 2
  omega
theorem Kept.no {r : Int} {now all : List Sm} (h : Kept r now all) (hr : 1 ≤ r ∧ r ≤ 64) (x : List Sm) (hz : addErr now x r ≠ 0) : addErr now x r = 8 ∧ addOut now x r = [] := by
  by_cases hx : Ris (now ++ x)
  · exact absurd (add_yes h.2 hr hx).1 hz
  · exact add_order h.2 hr hx
end Go.Proofs.Ytbbmjkligiglmaa.Series
namespace Go.Proofs.Ytbbmjkligiglmaa.Series
open Go.RowKit Base

theorem pairs_nil (w : World) : PairsIs w (.slice none 0 0) [] := ⟨none, 0, 0, 0, rfl, Nat.le_refl _, fun h => absurd h (by simp), fun j hj => absurd hj (by simp)⟩
theorem pairs_at {w : World} {A : Option Addr} {n cap : Nat} {s : List (Int × Int)} (h : PairsIs w (.slice A n cap) s) (j : Nat) (hj : j < s.length) : ∃ pb po, A = some ⟨pb, po, none⟩ ∧ ∀ wr, Fr0 w wr → wr.cell? ⟨pb, po + j * 2, none⟩ = some (.int .i64 (s.getD j (0, 0)).1) ∧ wr.cell? ⟨pb, po + j * 2 + 1, none⟩ = some (.int .i64 (s.getD j (0, 0)).2) := by
  obtain ⟨A1, C1, pb, po, hv1, _, hpa, hpc⟩ := h
  simp only [Value.slice.injEq] at hv1
  obtain ⟨rfl, _, rfl⟩ := hv1
  obtain ⟨c0, c1⟩ := hpc j hj
  exact ⟨pb, po, hpa (by omega), fun wr hf => ⟨(hf.cell (p := ⟨pb, po + j * 2, none⟩) (World.block_lt_of_cell? w _ c0) (fun f => f)).trans c0, (hf.cell (p := ⟨pb, po + j * 2 + 1, none⟩) (World.block_lt_of_cell? w _ c1) (fun f => f)).trans c1⟩⟩
def pcells (S : List (Int × Int)) : List Value := S.flatMap fun p => [.int .i64 p.1, .int .i64 p.2]
theorem pcells_length (S : List (Int × Int)) : (pcells S).length = S.length * 2 := by
  induction S with
  | nil => rfl
  | cons p S ih => simp only [pcells, List.flatMap_cons, List.length_append, List.length_cons, List.length_nil] at *; omega
theorem pcells_append (S M : List (Int × Int)) : pcells (S ++ M) = pcells S ++ pcells M := by simp [pcells]
theorem pcells_get (S : List (Int × Int)) (i : Nat) (h : i < S.length) : (pcells S)[i * 2]? = some (.int .i64 (S.getD i (0, 0)).1) ∧ (pcells S)[i * 2 + 1]? = some (.int .i64 (S.getD i (0, 0)).2) := by
  induction S generalizing i with
  | nil => simp at h
  | cons p S ih =>
    cases i with
    | zero => simp [pcells]
    | succ i =>
      have := ih i (by simpa using h)
      have e : pcells (p :: S) = [.int .i64 p.1, .int .i64 p.2] ++ pcells S := by simp [pcells]
      rw [e]
      rw [List.getElem?_append_right (by simp; omega), List.getElem?_append_right (by simp; omega)]
      simp only [List.length_cons, List.length_nil, List.getD_cons_succ]
      rw [show (i + 1) * 2 - (0 + 1 + 1) = i * 2 by omega, show (i + 1) * 2 + 1 - (0 + 1 + 1) = i * 2 + 1 by omega]
      exact this
theorem pairs_own {w : World} {base : Nat} {e : TypeId} {v : Value} {n : Nat} {S : List (Int × Int)} (h : w.ownsRow base e 2 v n (pcells S)) (hn : n = S.length) : PairsIs w v S := by
  subst hn
  have hl := pcells_length S
  rcases h.2 with ⟨rfl, h0⟩ | ⟨b, cap, cur, rfl, hb, hg, hnc, hcm, hcs, ht⟩
  · obtain rfl : S = [] := List.eq_nil_of_length_eq_zero h0
    exact pairs_nil w
  · refine ⟨_, cap, b, 0, rfl, hnc, fun _ => rfl, fun j hj => ?_⟩
    obtain ⟨k1, k2⟩ := pcells_get S j hj
    rw [Nat.zero_add, h.cellAt (j * 2) (by omega), h.cellAt (j * 2 + 1) (by omega), k1, k2]
    exact ⟨rfl, rfl⟩
theorem pcells_one (S : List (Int × Int)) : ∀ u ∈ pcells S, u.oneCell' = true := by
  intro u hu
  simp only [pcells, List.mem_flatMap, List.mem_cons, List.not_mem_nil, or_false] at hu
  obtain ⟨p, hp, rfl | rfl⟩ := hu <;> rfl
theorem pair_lit (w : World) (x y : Int) (t : TypeId) : ValsIs (w.alloc (.cells #[.int .i64 x, .int .i64 y] t)) (.slice (some ⟨w.heap.size, 0, none⟩) 1 1) 1 [.int .i64 x, .int .i64 y] := by
  refine ⟨_, 1, w.heap.size, 0, rfl, Nat.le_refl _, fun _ => rfl, fun j hj => ?_⟩
  rw [cell_of_row _ _ _ _ _ _ (heap_alloc_new w _)]
  match j, hj with
  | 0, _ => rfl
  | 1, _ => rfl
theorem pairs_fr {S : Nat → Prop} {w w' : World} {v : Value} {s : List (Int × Int)} (h : PairsIs w v s) (hf : Fr S w w') (hc : ∀ a n c, v = .slice (some a) n c → 0 < s.length → ¬ S a.block) : PairsIs w' v s := by
  obtain ⟨a, cap, pb, po, hv, hle, ha, hcell⟩ := h
  refine ⟨a, cap, pb, po, hv, hle, ha, fun j hj => ?_⟩
  obtain ⟨k1, k2⟩ := hcell j hj
  have k3 := ha (by omega)
  subst k3
  have k4 := hc ⟨pb, po, none⟩ _ _ hv (by omega)
  exact ⟨(hf.cell (p := ⟨pb, po + j * 2, none⟩) (World.block_lt_of_cell? w _ k1) k4).trans k1, (hf.cell (p := ⟨pb, po + j * 2 + 1, none⟩) (World.block_lt_of_cell? w _ k2) k4).trans k2⟩
theorem list_ext {x y : List (Int × Int)} (hl : x.length = y.length) (h : ∀ i, i < x.length → x.getD i (0, 0) = y.getD i (0, 0)) : x = y := by
  refine List.ext_getElem hl (fun i h1 h2 => ?_)
  have := h i h1
  rwa [List.getD_eq_getElem?_getD, List.getD_eq_getElem?_getD, List.getElem?_eq_getElem h1, List.getElem?_eq_getElem h2] at this
theorem pairs_form {w : World} {v : Value} {l : List (Int × Int)} (h : PairsIs w v l) : ∃ a c, v = .slice a l.length c := by
  obtain ⟨a, c, _, _, hv, _⟩ := h
  exact ⟨a, c, hv⟩
/-- .. as its cells -/
theorem pairs_vals {w : World} {v : Value} {l : List (Int × Int)} (h : PairsIs w v l) : ValsIs w v l.length (pcells l) := by
  obtain ⟨a, cap, pb, po, hv, hle, ha, hc⟩ := h
  refine ⟨a, cap, pb, po, hv, hle, ha, fun j hj => ?_⟩
  have hl := pcells_length l
  obtain ⟨c0, c1⟩ := hc (j / 2) (by omega)
  obtain ⟨g0, g1⟩ := pcells_get l (j / 2) (by omega)
  rcases Nat.mod_two_eq_zero_or_one j with h0 | h0
  · have e : j = j / 2 * 2 := by omega
    rw [List.getD_eq_getElem?_getD, e, g0]
    rw [← e] at *
    rw [show po + j = po + j / 2 * 2 by omega, c0]
    rfl
  · have e : j = j / 2 * 2 + 1 := by omega
    rw [List.getD_eq_getElem?_getD, e, g1]
    rw [show po + (j / 2 * 2 + 1) = po + j / 2 * 2 + 1 by omega, c1]
    rfl
/-- a literal of so many -/
theorem pairs_lit (w : World) (l : List (Int × Int)) (c : Array Value) (hc : c = (pcells l).toArray) (n : Nat) (hn : n = l.length) (ty : TypeId) (N : Nat) (hN : N = w.heap.size) : PairsIs (w.alloc (.cells c ty)) (.slice (some ⟨N, 0, none⟩) n n) l := by
  subst hc hn hN
  refine ⟨_, l.length, w.heap.size, 0, rfl, Nat.le_refl _, fun _ => rfl, fun j hj => ?_⟩
  obtain ⟨g0, g1⟩ := pcells_get l j hj
  rw [cell_of_row _ _ _ _ _ _ (heap_alloc_new w _), cell_of_row _ _ _ _ _ _ (heap_alloc_new w _), Nat.zero_add, List.getElem?_toArray, List.getElem?_toArray, g0, g1]
  exact ⟨rfl, rfl⟩
/-- a slice of slices of pairs -/
def RowsIs (w : World) (v : Value) (ls : List (List (Int × Int))) : Prop :=
  ∃ (a : Option Addr) (cap qb qo : Nat), v = .slice a ls.length cap ∧ ls.length ≤ cap ∧ (0 < ls.length → a = some ⟨qb, qo, none⟩) ∧ (∀ i, i < ls.length → ∃ pv, w.cell? ⟨qb, qo + i, none⟩ = some pv ∧ PairsIs w pv (ls.getD i []))
theorem owns_none (w : World) (base : Nat) (e : TypeId) (hb : base ≤ w.heap.size) (N : Nat) (hN : N = w.heap.size) : (w.alloc (.cells #[] e)).ownsRow base e 2 (.slice (some ⟨N, 0, none⟩) 0 0) 0 [] := by
  subst hN
  exact ⟨rfl, .inr ⟨w.heap.size, 0, #[], rfl, hb, heap_alloc_new w _, Nat.le_refl _, by unfold maxLen; omega, rfl, rfl⟩⟩
/-- the block that it lies in is of that type -/
def Typ (w : World) (t : TypeId) (v : Value) (l : List (Int × Int)) : Prop := ∀ a n c, v = .slice (some a) n c → 0 < l.length → ∃ cs fr, w.heap[a.block]? = some (.cells cs t fr)
theorem typ_nil (w : World) (t : TypeId) (n c : Nat) (l : List (Int × Int)) : Typ w t (.slice none n c) l := fun _ _ _ h => by cases h
theorem own_typ {w : World} {base : Nat} {e : TypeId} {size : Nat} {A : Option Addr} {n C : Nat} {xs : List Value} (h : w.ownsRow base e size (.slice A n C) n xs) (q : Addr) (hq : A = some q) : ∃ cs fr, w.heap[q.block]? = some (.cells cs e fr) := by
  rcases h.2 with ⟨hv, _⟩ | ⟨b, cap, cur, hv, _, hg, _⟩
  · cases hv; cases hq
  · cases hv; cases hq; exact ⟨cur, _, hg⟩
theorem Typ.fr0 {w w' : World} {t : TypeId} {v : Value} {l : List (Int × Int)} (h : Typ w t v l) (hf : Fr0 w w') : Typ w' t v l := fun a n c hv h0 => by
  obtain ⟨cs, fr, hh⟩ := h a n c hv h0
  exact ⟨cs, fr, hf.heap hh (fun f => f)⟩
/-- what Go's types let a sample be -/
def SizedS (l : List (Int × Int)) : Prop := ∀ q ∈ l, (-9223372036854775808 ≤ q.1 ∧ q.1 ≤ 9223372036854775807) ∧ (-9223372036854775808 ≤ q.2 ∧ q.2 ≤ 9223372036854775807)
theorem sized_nil : SizedS [] := fun q h => by simp at h
theorem sized_app {l m : List (Int × Int)} (h1 : SizedS l) (h2 : SizedS m) : SizedS (l ++ m) := fun q h => by
  rcases List.mem_append.1 h with h | h
  · exact h1 q h
  · exact h2 q h
theorem sized_sub {l m : List (Int × Int)} (h : SizedS l) (hm : ∀ q ∈ m, q ∈ l) : SizedS m := fun q hq => h q (hm q hq)
end Go.Proofs.Ytbbmjkligiglmaa.Series
namespace Go.Proofs.Ytbbmjkligiglmaa.Series
open Go.RowKit Base

theorem cut_pairs {P : Program} (t e : TypeId) (ht : P.underlying t = some (.slice e)) (hs : (P.info? e).map (·.size) = some 2) {w : World} {a : Option Addr} {n cap : Nat} {l : List (Int × Int)} (h : PairsIs w (.slice a n cap) l) (lo : Nat) (h1 : lo ≤ l.length) (x : Int) (hx : x = (lo : Int)) :
    ∃ a' c', PairsIs w (.slice a' (l.length - lo) c') (l.drop lo) ∧ (∀ wx : World, (Instr.sliceAt t (.slice a n cap) (some (.int .i64 x)) none none).run P wx = .ok (.slice a' (l.length - lo) c') wx) ∧ ∀ q, a' = some q → ∃ p, a = some p ∧ q.block = p.block := by
  subst hx
  obtain ⟨i, hi', hz⟩ : ∃ i, P.info? e = some i ∧ i.size = 2 := by
    cases hq : P.info? e with
    | none => simp [hq] at hs
    | some i => exact ⟨i, rfl, by simpa [hq] using hs⟩
  have hE : P.elem t = e := by simp [Program.elem, ht]
  obtain ⟨a0, cap0, pb, po, hv, hle, ha, hc⟩ := h
  simp only [Value.slice.injEq] at hv
  obtain ⟨rfl, rfl, rfl⟩ := hv
  have hl : (l.drop lo).length = l.length - lo := by simp
  refine ⟨if cap = lo then a else a.map (·.add (lo * 2)), cap - lo, ⟨_, cap - lo, pb, po + lo * 2, by rw [hl], by rw [hl]; omega, fun h0 => ?_, fun j hj => ?_⟩, fun wx => ?_, fun q hq => ?_⟩
  · rw [hl] at h0
    rw [if_neg (by omega), ha (by omega)]
    simp [Addr.add_mid]
  · rw [hl] at hj
    have h2 := hc (lo + j) (by omega)
    rw [Nat.add_mul] at h2
    rw [Nat.add_assoc, Nat.add_assoc]
    rw [Nat.add_assoc, ← Nat.add_assoc po] at h2
    simp only [Nat.add_assoc] at h2 ⊢
    simpa [show lo + j < l.length from by omega] using h2
  · rw [run_sliceAt_slice wx t _ _ _ _ (by rw [hE]; exact ht), run_slice_l wx t a l.length cap (by rw [hE]; exact ht) .i64 (lo : Int) (by omega) (by omega), hE]
    simp [sizeOf, typeInfo, hi', hz, sliced, Sem.run_bind]
  · split at hq
    · exact ⟨q, hq, rfl⟩
    · obtain ⟨p, hp, rfl⟩ := Option.map_eq_some_iff.1 hq
      exact ⟨p, hp, by unfold Addr.add; split <;> rfl⟩
end Go.Proofs.Ytbbmjkligiglmaa.Series
