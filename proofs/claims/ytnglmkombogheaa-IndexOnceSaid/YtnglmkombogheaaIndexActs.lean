/-
  What a law's calls do to the rows; the least row from a place on; what is added comes there. No program stands here.
-/
import Derived.Test.YtnglmkombogheaaIndexMem
import Derived.Test.YtnglmkombogheaaIndexLawK
namespace Go.Proofs.Ytnglmkombogheaa.Index
open Go.RowKit Base

def Ac20.en (q : Ac20) : En := ⟨q.k, q.s, q.id, q.sz, q.u⟩
def actSt (L : List En) (q : Ac20) : List En := if q.op = 0 then addSt L q.en else dropSt L q.n
def runSt (l : List Ac20) : List En := l.foldl actSt []
theorem run_next (l : List Ac20) (i : Nat) (q : Ac20) (h : l[i]? = some q) : runSt (l.take (i + 1)) = actSt (runSt (l.take i)) q := by
  unfold runSt
  rw [List.take_add_one, h, List.foldl_append]
  rfl
theorem okX_act {L : List En} (h : OkX L) (q : Ac20) : OkX (actSt L q) := by
  unfold actSt
  split
  · exact h.add _
  · exact h.drop _
theorem okX_fold : ∀ (l : List Ac20) (L : List En), OkX L → OkX (l.foldl actSt L)
  | [], _, h => h
  | q :: l, L, h => okX_fold l _ (okX_act h q)
theorem okX_run (l : List Ac20) : OkX (runSt l) := okX_fold l [] okX_nil
theorem addSt_length (L : List En) (e : En) : (addSt L e).length ≤ L.length + 1 := by
  unfold addSt
  split
  · split
    · rw [List.length_set]; omega
    · rw [List.length_append]; simp
  · omega
theorem dropSt_length (L : List En) (r : Int) : (dropSt L r).length ≤ L.length := by
  unfold dropSt
  split
  · obtain ⟨n, h1, h2, _⟩ := trim_pre (L.set r.toNat zeroE)
    rw [h1, List.length_take, List.length_set]
    omega
  · omega
theorem act_length (L : List En) (q : Ac20) : (actSt L q).length ≤ L.length + 1 := by
  unfold actSt
  split
  · exact addSt_length _ _
  · have := dropSt_length L q.n; omega
theorem fold_length : ∀ (l : List Ac20) (L : List En), (l.foldl actSt L).length ≤ L.length + l.length
  | [], L => by simp
  | q :: l, L => by
    have h1 := fold_length l (actSt L q)
    have h2 := act_length L q
    simp only [List.foldl_cons, List.length_cons]
    omega
theorem run_length (l : List Ac20) : (runSt l).length ≤ l.length := by
  have := fold_length l []
  simpa [runSt] using this
/-- the least row that is empty, from a place on -/
def leastFrom (L : List En) (j : Nat) : Nat := j + least (L.drop j)
theorem leastFrom_end (L : List En) : leastFrom L L.length = L.length := by
  unfold leastFrom
  rw [List.drop_length]
  rfl
theorem leastFrom_zero (L : List En) : leastFrom L 0 = least L := by
  unfold leastFrom
  simp
theorem leastFrom_step (L : List En) (j : Nat) (hj : j < L.length) : leastFrom L j = if gap (L.getD j zeroE) = true then j else leastFrom L (j + 1) := by
  unfold leastFrom
  rw [List.drop_eq_getElem_cons hj, List.getD_eq_getElem?_getD, List.getElem?_eq_getElem hj]
  simp only [least, Option.getD_some]
  split
  · rfl
  · omega
theorem leastFrom_le (L : List En) (j : Nat) (hj : j ≤ L.length) : leastFrom L j ≤ L.length := by
  unfold leastFrom
  have := least_le (L.drop j)
  rw [List.length_drop] at this
  omega
theorem isRow_nat {L : List En} {j : Nat} (hj : j < L.length) : isRow L (j : Int) = !gap (L.getD j zeroE) := by
  unfold isRow
  rw [decide_eq_true (by omega), decide_eq_true (by omega), Bool.true_and, Bool.true_and, Int.toNat_natCast]
theorem addErr_none {L : List En} {x : En} (h1 : gap x = false) (h2 : hasX x.k L = false) (hl : L.length ≤ 4095) : addErr L x = 0 := by
  unfold addErr
  rw [h1, h2]
  have := least_le L
  rw [if_neg (by decide), if_neg (by decide), if_neg (by omega)]
/-- what was added is in the least row that was empty -/
theorem added {L : List En} {x : En} (h : OkX L) (h0 : addErr L x = 0) (hg : gap x = false) : (addSt L x).getD (least L) zeroE = x ∧ least L < (addSt L x).length := by
  have hl := least_le L
  unfold addSt
  rw [if_pos h0]
  split
  · rename_i hlt
    refine ⟨by rw [getD_set, if_pos ⟨rfl, hlt⟩], by rw [List.length_set]; exact hlt⟩
  · rename_i hlt
    refine ⟨by rw [getD_app, if_pos (by omega)], by rw [List.length_append]; simp; omega⟩
theorem added_found {L : List En} {x : En} (h : OkX L) (h0 : addErr L x = 0) (hg : gap x = false) : findX x.k (addSt L x) = least L ∧ hasX x.k (addSt L x) = true ∧ atX (addSt L x) (least L : Int) = x ∧ isRow (addSt L x) (least L : Int) = true := by
  obtain ⟨h1, h2⟩ := added h h0 hg
  have hk : x.k ≠ ⟨#[]⟩ := fun e => by rw [gap_iff.2 e] at hg; cases hg
  obtain ⟨h3, h4⟩ := (h.add x).found h2 (by rw [h1]) hk
  have h5 : isRow (addSt L x) (least L : Int) = true := by rw [isRow_nat h2, h1, hg]; rfl
  refine ⟨by unfold findX; rw [if_pos h3, h4], h3, ?_, h5⟩
  unfold atX
  rw [if_pos h5, Int.toNat_natCast, h1]
theorem addErr_bad {L : List En} {x : En} (h : gap x = true ∨ hasX x.k L = true) : addErr L x ≠ 0 := by
  unfold addErr
  by_cases hg : gap x = true
  · rw [if_pos hg]; decide
  · rw [if_neg hg]
    rcases h with h | h
    · exact absurd h hg
    · rw [if_pos h]; decide
end Go.Proofs.Ytnglmkombogheaa.Index
namespace Go.Proofs.Ytnglmkombogheaa.Index
open Go.RowKit Base

/-! what is told of the first rows -/
def seenTo (L : List En) (i : Nat) (k : ByteArray) : Bool := (List.range i).any fun j => !gap (L.getD j zeroE) && decide ((L.getD j zeroE).k = k)
def byTo (L : List En) (i : Nat) (s : ByteArray) : Int := ((((List.range i).filter fun j => !gap (L.getD j zeroE) && decide ((L.getD j zeroE).s = s)).length : Nat) : Int)
theorem seen_zero (L : List En) : seenTo L 0 = fun _ => false := rfl
theorem by_zero (L : List En) : byTo L 0 = fun _ => 0 := rfl
theorem seen_gap {L : List En} {i : Nat} (h : gap (L.getD i zeroE) = true) : seenTo L (i + 1) = seenTo L i := by
  funext k
  unfold seenTo
  rw [List.range_succ, List.any_append]
  simp only [List.any_cons, List.any_nil, h]
  simp
theorem by_gap {L : List En} {i : Nat} (h : gap (L.getD i zeroE) = true) : byTo L (i + 1) = byTo L i := by
  funext s
  unfold byTo
  rw [List.range_succ, List.filter_append, List.filter_cons_of_neg (by rw [h]; simp), List.filter_nil, List.append_nil]
theorem seen_next {L : List En} {i : Nat} (h : gap (L.getD i zeroE) = false) : seenTo L (i + 1) = fun k => if k = (L.getD i zeroE).k then true else seenTo L i k := by
  funext k
  unfold seenTo
  rw [List.range_succ, List.any_append]
  simp only [List.any_cons, List.any_nil, h]
  by_cases e : k = (L.getD i zeroE).k
  · rw [if_pos e, decide_eq_true e.symm]; simp
  · rw [if_neg e, decide_eq_false (fun x => e x.symm)]; simp
theorem by_next {L : List En} {i : Nat} (h : gap (L.getD i zeroE) = false) : byTo L (i + 1) = fun s => if s = (L.getD i zeroE).s then byTo L i (L.getD i zeroE).s + 1 else byTo L i s := by
  funext s
  unfold byTo
  rw [List.range_succ, List.filter_append, List.length_append]
  by_cases e : s = (L.getD i zeroE).s
  · rw [if_pos e, List.filter_cons_of_pos (by rw [h, decide_eq_true e.symm]; rfl), ← e]
    simp
  · rw [if_neg e, List.filter_cons_of_neg (by rw [h, decide_eq_false (fun x => e x.symm)]; decide)]
    simp
theorem by_all (L : List En) (s : ByteArray) : byTo L L.length s = (((ofX s L).length : Nat) : Int) := rfl
theorem by_le (L : List En) (i : Nat) (s : ByteArray) : 0 ≤ byTo L i s ∧ byTo L i s ≤ (i : Int) := by
  unfold byTo
  have := List.length_filter_le (fun j => !gap (L.getD j zeroE) && decide ((L.getD j zeroE).s = s)) (List.range i)
  rw [List.length_range] at this
  omega
theorem seen_new {L : List En} (h : OkX L) {i : Nat} (hi : i < L.length) (hg : gap (L.getD i zeroE) = false) : seenTo L i (L.getD i zeroE).k = false := by
  unfold seenTo
  rw [List.any_eq_false]
  intro j hj
  rw [List.mem_range] at hj
  simp only [Bool.and_eq_true, Bool.not_eq_true', decide_eq_true_eq, not_and]
  intro hgj e
  have := h.once j i (by omega) hi hgj e
  omega
def liveTo (L : List En) (i : Nat) : Int := liveX (L.take i)
theorem live_next {L : List En} {i : Nat} (hi : i < L.length) : liveTo L (i + 1) = liveTo L i + (L.getD i zeroE).sz := by
  unfold liveTo
  induction L generalizing i with
  | nil => simp at hi
  | cons e L ih =>
    cases i with
    | zero => simp [liveX]
    | succ i =>
      have := ih (i := i) (by simpa using hi)
      simp only [List.take_succ_cons, liveX, this, List.getD_eq_getElem?_getD, List.getElem?_cons_succ]
      omega
theorem live_all (L : List En) : liveTo L L.length = liveX L := by unfold liveTo; rw [List.take_length]
def Small (L : List En) : Prop := ∀ x ∈ L, 0 ≤ x.sz ∧ x.sz ≤ 1048576 ∧ x.k.size ≤ 50 ∧ x.s.size ≤ 50
theorem live_le {L : List En} (h : Small L) : 0 ≤ liveX L ∧ liveX L ≤ (L.length : Int) * 1048576 := by
  induction L with
  | nil => simp [liveX]
  | cons e L ih =>
    have h1 := ih (fun x hx => h x (List.mem_cons_of_mem _ hx))
    have h2 := h e List.mem_cons_self
    simp only [liveX, List.length_cons, Int.natCast_add, Int.add_mul]
    omega
theorem liveTo_le {L : List En} (h : Small L) (i : Nat) (hl : L.length ≤ 100) : 0 ≤ liveTo L i ∧ liveTo L i ≤ 104857600 := by
  have h1 := live_le (L := L.take i) (fun x hx => h x (List.mem_of_mem_take hx))
  rw [List.length_take] at h1
  unfold liveTo
  omega
theorem small_nil : Small [] := fun x hx => by cases hx
theorem Small.add {L : List En} (h : Small L) {x : En} (hx : 0 ≤ x.sz ∧ x.sz ≤ 1048576 ∧ x.k.size ≤ 50 ∧ x.s.size ≤ 50) : Small (addSt L x) := by
  unfold addSt
  split
  · split
    · intro y hy
      rcases List.mem_or_eq_of_mem_set hy with hy | rfl
      · exact h y hy
      · exact hx
    · intro y hy
      rcases List.mem_append.1 hy with hy | hy
      · exact h y hy
      · rw [List.mem_singleton] at hy; subst hy; exact hx
  · exact h
theorem Small.drop {L : List En} (h : Small L) (r : Int) : Small (dropSt L r) := by
  unfold dropSt
  split
  · obtain ⟨n, h1, _⟩ := trim_pre (L.set r.toNat zeroE)
    rw [h1]
    intro y hy
    rcases List.mem_or_eq_of_mem_set (List.mem_of_mem_take hy) with hy | rfl
    · exact h y hy
    · exact ⟨Int.le_refl _, by decide, by decide, by decide⟩
  · exact h
theorem atX_nat {L : List En} {j : Nat} (hj : j < L.length) (hg : gap (L.getD j zeroE) = false) : atX L (j : Int) = L.getD j zeroE := by
  unfold atX
  rw [isRow_nat hj, hg, if_pos (by rfl), Int.toNat_natCast]
theorem OkX.find_row {L : List En} (h : OkX L) {j : Nat} (hj : j < L.length) (hg : gap (L.getD j zeroE) = false) : findX (L.getD j zeroE).k L = j ∧ hasX (L.getD j zeroE).k L = true := by
  have hk : (L.getD j zeroE).k ≠ ⟨#[]⟩ := fun e => by rw [gap_iff.2 e] at hg; cases hg
  obtain ⟨h1, h2⟩ := h.found hj rfl hk
  exact ⟨by unfold findX; rw [if_pos h1, h2], h1⟩
end Go.Proofs.Ytnglmkombogheaa.Index
