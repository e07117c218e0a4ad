/-
  Slices of pairs: nil, part by part, rows of one's own, literals. No program stands here.
-/
import Derived.Test.YtbiokogihimboaaDoorLawP
import Derived.Test.YtbiokogihimboaaDoorAppAny
import Derived.Test.YtbiokogihimboaaDoorOwns
namespace Go.Proofs.YtbiokogihimboaaDoor.Series
open Go.RowKit Base

theorem pairs_nil (w : World) : PairsIs w (.slice none 0 0) [] := ⟨none, 0, 0, 0, rfl, Nat.le_refl _, fun h => absurd h (by simp), fun j hj => absurd hj (by simp)⟩
theorem pairs_at {w : World} {A : Option Addr} {n cap : Nat} {s : List (Int × Int)} (h : PairsIs w (.slice A n cap) s) (j : Nat) (hj : j < s.length) : ∃ pb po, A = some ⟨pb, po, none⟩ ∧ ∀ wr, Fr0 w wr → wr.cell? ⟨pb, po + j * 2, none⟩ = some (.int .i64 (s.getD j (0, 0)).1) ∧ wr.cell? ⟨pb, po + j * 2 + 1, none⟩ = some (.int .i64 (s.getD j (0, 0)).2) := by
  obtain ⟨A1, C1, pb, po, hv1, _, hpa, hpc⟩ := h
  simp only [Value.slice.injEq] at hv1
  obtain ⟨rfl, _, rfl⟩ := hv1
  obtain ⟨c0, c1⟩ := hpc j hj
  exact ⟨pb, po, hpa (by omega), fun wr hf => ⟨(hf.cell (p := ⟨pb, po + j * 2, none⟩) (World.block_lt_of_cell? w _ c0) (fun f => f)).trans c0, (hf.cell (p := ⟨pb, po + j * 2 + 1, none⟩) (World.block_lt_of_cell? w _ c1) (fun f => f)).trans c1⟩⟩
def pcells (S : List (Int × Int)) : List Value := S.flatMap fun p => [.int .i64 p.1, .int .i64 p.2]
theorem pcells_length (S : List (Int × Int)) : (pcells S).length = S.length * 2 := by
  induction S with
  | nil => rfl
  | cons p S ih => simp only [pcells, List.flatMap_cons, List.length_append, List.length_cons, List.length_nil] at *; omega
theorem pcells_append (S M : List (Int × Int)) : pcells (S ++ M) = pcells S ++ pcells M := by simp [pcells]
theorem pcells_get (S : List (Int × Int)) (i : Nat) (h : i < S.length) : (pcells S)[i * 2]? = some (.int .i64 (S.getD i (0, 0)).1) ∧ (pcells S)[i * 2 + 1]? = some (.int .i64 (S.getD i (0, 0)).2) := by
  induction S generalizing i with
  | nil => simp at h
  | cons p S ih =>
    cases i with
    | zero => simp [pcells]
    | succ i =>
      have := ih i (by simpa using h)
      have e : pcells (p :: S) = [.int .i64 p.1, .int .i64 p.2] ++ pcells S := by simp [pcells]
      rw [e]
      rw [List.getElem?_append_right (by simp; omega), List.getElem?_append_right (by simp; omega)]
      simp only [List.length_cons, List.length_nil, List.getD_cons_succ]
      rw [show (i + 1) * 2 - (0 + 1 + 1) = i * 2 by omega, show (i + 1) * 2 + 1 - (0 + 1 + 1) = i * 2 + 1 by omega]
      exact this
theorem pairs_own {w : World} {base : Nat} {e : TypeId} {v : Value} {n : Nat} {S : List (Int × Int)} (h : w.ownsRow base e 2 v n (pcells S)) (hn : n = S.length) : PairsIs w v S := by
  subst hn
  have hl := pcells_length S
  rcases h.2 with ⟨rfl, h0⟩ | ⟨b, cap, cur, rfl, hb, hg, hnc, hcm, hcs, ht⟩
  · obtain rfl : S = [] := List.eq_nil_of_length_eq_zero h0
    exact pairs_nil w
  · refine ⟨_, cap, b, 0, rfl, hnc, fun _ => rfl, fun j hj => ?_⟩
    obtain ⟨k1, k2⟩ := pcells_get S j hj
    rw [Nat.zero_add, h.cellAt (j * 2) (by omega), h.cellAt (j * 2 + 1) (by omega), k1, k2]
    exact ⟨rfl, rfl⟩
theorem pcells_one (S : List (Int × Int)) : ∀ u ∈ pcells S, u.oneCell' = true := by
  intro u hu
  simp only [pcells, List.mem_flatMap, List.mem_cons, List.not_mem_nil, or_false] at hu
  obtain ⟨p, hp, rfl | rfl⟩ := hu <;> rfl
theorem pair_lit (w : World) (x y : Int) (t : TypeId) : ValsIs (w.alloc (.cells #[.int .i64 x, .int .i64 y] t)) (.slice (some ⟨w.heap.size, 0, none⟩) 1 1) 1 [.int .i64 x, .int .i64 y] := by
  refine ⟨_, 1, w.heap.size, 0, rfl, Nat.le_refl _, fun _ => rfl, fun j hj => ?_⟩
  rw [cell_of_row _ _ _ _ _ _ (heap_alloc_new w _)]
  match j, hj with
  | 0, _ => rfl
  | 1, _ => rfl
theorem pairs_fr {S : Nat → Prop} {w w' : World} {v : Value} {s : List (Int × Int)} (h : PairsIs w v s) (hf : Fr S w w') (hc : ∀ a n c, v = .slice (some a) n c → 0 < s.length → ¬ S a.block) : PairsIs w' v s := by
  obtain ⟨a, cap, pb, po, hv, hle, ha, hcell⟩ := h
  refine ⟨a, cap, pb, po, hv, hle, ha, fun j hj => ?_⟩
  obtain ⟨k1, k2⟩ := hcell j hj
  have k3 := ha (by omega)
  subst k3
  have k4 := hc ⟨pb, po, none⟩ _ _ hv (by omega)
  exact ⟨(hf.cell (p := ⟨pb, po + j * 2, none⟩) (World.block_lt_of_cell? w _ k1) k4).trans k1, (hf.cell (p := ⟨pb, po + j * 2 + 1, none⟩) (World.block_lt_of_cell? w _ k2) k4).trans k2⟩
theorem list_ext {x y : List (Int × Int)} (hl : x.length = y.length) (h : ∀ i, i < x.length → x.getD i (0, 0) = y.getD i (0, 0)) : x = y := by
  refine List.ext_getElem hl (fun i h1 h2 => ?_)
  have := h i h1
  rwa [List.getD_eq_getElem?_getD, List.getD_eq_getElem?_getD, List.getElem?_eq_getElem h1, List.getElem?_eq_getElem h2] at this
theorem pairs_form {w : World} {v : Value} {l : List (Int × Int)} (h : PairsIs w v l) : ∃ a c, v = .slice a l.length c := by
  obtain ⟨a, c, _, _, hv, _⟩ := h
  exact ⟨a, c, hv⟩
/-- .. as its cells -/
theorem pairs_vals {w : World} {v : Value} {l : List (Int × Int)} (h : PairsIs w v l) : ValsIs w v l.length (pcells l) := by
  obtain ⟨a, cap, pb, po, hv, hle, ha, hc⟩ := h
  refine ⟨a, cap, pb, po, hv, hle, ha, fun j hj => ?_⟩
  have hl := pcells_length l
  obtain ⟨c0, c1⟩ := hc (j / 2) (by omega)
  obtain ⟨g0, g1⟩ := pcells_get l (j / 2) (by omega)
  rcases Nat.mod_two_eq_zero_or_one j with h0 | h0
  · have e : j = j / 2 * 2 := by omega
    rw [List.getD_eq_getElem?_getD, e, g0]
    rw [← e] at *
    rw [show po + j = po + j / 2 * 2 by omega, c0]
    rfl
  · have e : j = j / 2 * 2 + 1 := by omega
    rw [List.getD_eq_getElem?_getD, e, g1]
    rw [show po + (j / 2 * 2 + 1) = po + j / 2 * 2 + 1 by omega, c1]
    rfl
/-- a literal of so many -/
theorem pairs_lit (w : World) (l : List (Int × Int)) (c : Array Value) (hc : c = (pcells l).toArray) (n : Nat) (hn : n = l.length) (ty : TypeId) (N : Nat) (hN : N = w.heap.size) : PairsIs (w.alloc (.cells c ty)) (.slice (some ⟨N, 0, none⟩) n n) l := by
  subst hc hn hN
  refine ⟨_, l.length, w.heap.size, 0, rfl, Nat.le_refl _, fun _ => rfl, fun j hj => ?_⟩
  obtain ⟨g0, g1⟩ := pcells_get l j hj
  rw [cell_of_row _ _ _ _ _ _ (heap_alloc_new w _), cell_of_row _ _ _ _ _ _ (heap_alloc_new w _), Nat.zero_add, List.getElem?_toArray, List.getElem?_toArray, g0, g1]
  exact ⟨rfl, rfl⟩
/-- a slice of slices of pairs -/
def RowsIs (w : World) (v : Value) (ls : List (List (Int × Int))) : Prop :=
  ∃ (a : Option Addr) (cap qb qo : Nat), v = .slice a ls.length cap ∧ ls.length ≤ cap ∧ (0 < ls.length → a = some ⟨qb, qo, none⟩) ∧ (∀ i, i < ls.length → ∃ pv, w.cell? ⟨qb, qo + i, none⟩ = some pv ∧ PairsIs w pv (ls.getD i []))
theorem owns_none (w : World) (base : Nat) (e : TypeId) (hb : base ≤ w.heap.size) (N : Nat) (hN : N = w.heap.size) : (w.alloc (.cells #[] e)).ownsRow base e 2 (.slice (some ⟨N, 0, none⟩) 0 0) 0 [] := by
  subst hN
  exact ⟨rfl, .inr ⟨w.heap.size, 0, #[], rfl, hb, heap_alloc_new w _, Nat.le_refl _, by unfold maxLen; omega, rfl, rfl⟩⟩
/-- what Go's types let a sample be -/
def SizedS (l : List (Int × Int)) : Prop := ∀ q ∈ l, (-9223372036854775808 ≤ q.1 ∧ q.1 ≤ 9223372036854775807) ∧ (-9223372036854775808 ≤ q.2 ∧ q.2 ≤ 9223372036854775807)
theorem sized_nil : SizedS [] := fun q h => by simp at h
theorem sized_app {l m : List (Int × Int)} (h1 : SizedS l) (h2 : SizedS m) : SizedS (l ++ m) := fun q h => by
  rcases List.mem_append.1 h with h | h
  · exact h1 q h
  · exact h2 q h
theorem sized_sub {l m : List (Int × Int)} (h : SizedS l) (hm : ∀ q ∈ m, q ∈ l) : SizedS m := fun q hq => h q (hm q hq)
end Go.Proofs.YtbiokogihimboaaDoor.Series
