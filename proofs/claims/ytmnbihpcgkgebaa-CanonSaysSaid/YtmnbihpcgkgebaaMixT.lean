/-
  XMix with forks: a statement in which two operations that make memory may come up in either order: both orders are walked. No program stands here.
-/
import Derived.Test.YtmnbihpcgkgebaaMix
namespace Go.Proofs.Ytmnbihpcgkgebaa.Base
namespace Mix

inductive Tree
  | nil
  | op (i : Nat) (t : Tree)
  | two (i : Nat) (t : Tree) (j : Nat) (u : Tree)
def Tree.size : Tree → Nat
  | .nil => 0
  | .op _ t => t.size + 1
  | .two _ t _ _ => t.size + 1
section
variable {P : Program} {ops : Array Oper} {md : Region.Mode} {C : World → Prop}
def orderT (md : Region.Mode) (ops : Array Oper) (tn rd : List Nat) : Tree → Array Bool → Bool
  | .nil, listed => (Region.ready md ops listed).isEmpty
  | .op i t, listed => (if tn.contains i then decide (Region.ready md ops listed = [i]) else (Region.ready md ops listed).contains i && Region.free md ops listed i &&
      (!rd.contains i || tn.all fun j => j == i || listed.getD j true || waitsB md ops i j)) && orderT md ops tn rd t (listed.setIfInBounds i true)
  | .two i t j u, listed => decide (Region.ready md ops listed = [i, j]) && decide (t.size = u.size) && orderT md ops tn rd t (listed.setIfInBounds i true) && orderT md ops tn rd u (listed.setIfInBounds j true)
def walkT (P : Program) (ops : Array Oper) (C : World → Prop) (tn rd : List Nat) (Q : Act → World → Prop) : Tree → Act → World → Prop
  | .nil, a, w => Q a w
  | .op i t, a, w => step P ops none C tn rd i (walkT P ops C tn rd Q t) a w
  | .two i t j u, a, w => step P ops none C tn rd i (walkT P ops C tn rd Q t) a w ∧ step P ops none C tn rd j (walkT P ops C tn rd Q u) a w
theorem every_of_tree {tn rd : List Nat} {Q : Act → World → Prop} (hs : Region.noSelect ops = true) : ∀ (t : Tree) (listed : Array Bool) (a : Act) (w : World), Shut md ops listed → orderT md ops tn rd t listed = true → walkT P ops C tn rd Q t a w → every P md ops none C tn rd Q t.size listed a w
  | .nil, _, _, _, _, hB, h => ⟨by simpa [orderT] using hB, h⟩
  | .two i t j u, listed, a, w, hsh, hB, h => by
    simp only [orderT, Bool.and_eq_true, decide_eq_true_eq] at hB
    obtain ⟨⟨⟨hr, hz⟩, hB1⟩, hB2⟩ := hB
    have hi : i ∈ Region.ready md ops listed := by rw [hr]; simp
    have hj : j ∈ Region.ready md ops listed := by rw [hr]; simp
    refine ⟨fun h0 => (by rw [h0] at hr; cases hr), fun k hk => ?_⟩
    rw [hr] at hk
    simp only [List.mem_cons, List.not_mem_nil, or_false] at hk
    rcases hk with rfl | rfl
    · exact step_mono (fun a' w' h' => every_of_tree hs t _ a' w' (hsh.set hi) hB1 h') h.1
    · refine step_mono (fun a' w' h' => ?_) h.2
      have := every_of_tree hs u _ a' w' (hsh.set hj) hB2 h'
      rw [← hz] at this
      exact this
  | .op i t, listed, a, w, hsh, hB, h => by
    simp only [orderT, Bool.and_eq_true] at hB
    obtain ⟨hB, hB'⟩ := hB
    by_cases ht : tn.contains i = true
    · rw [if_pos ht] at hB
      have hr : Region.ready md ops listed = [i] := by simpa using hB
      have hri : i ∈ Region.ready md ops listed := by rw [hr]; simp
      refine ⟨fun h0 => (by rw [h0] at hr; cases hr), fun j hj => ?_⟩
      rw [hr] at hj
      obtain rfl : j = i := by simpa using hj
      exact step_mono (fun a' w' h' => every_of_tree hs t _ a' w' (hsh.set hri) hB' h') h
    · rw [if_neg ht] at hB
      simp only [Bool.and_eq_true] at hB
      obtain ⟨⟨hr, hf⟩, hrd⟩ := hB
      have hri : i ∈ Region.ready md ops listed := by simpa using hr
      obtain ⟨hun, oi, hoi, hall⟩ := mem_ready.1 hri
      unfold walkT at h
      have hstep := h
      unfold step at h
      rw [hoi] at h
      simp only at h
      rw [if_neg ht] at h
      by_cases hw : Region.wanted oi (yielded ops a.tmps) = true
      · rw [if_pos hw] at h
        by_cases hrdi : rd.contains i = true
        · rw [if_pos hrdi] at h
          obtain ⟨v, h1, h2⟩ := h
          refine first (Y := fun a w => Region.wanted oi (yielded ops a.tmps) = true ∧ gives P oi a w v) (v := v) hoi (Region.noSelect_spec hs) ?_ ?_ t.size listed a w hsh (Region.free_spec hoi hf) ?_ hri ⟨hw, h1⟩ (every_of_tree hs t _ _ w (hsh.set hri) hB' h2)
          · intro a a' w e1 e2 hy
            unfold gives at *
            rw [e1, e2]
            exact hy
          · intro K a w hy hK
            unfold step
            rw [hoi]
            simp only
            rw [if_neg ht, if_pos hy.1, if_pos hrdi]
            exact ⟨v, hy.2, hK⟩
          · intro j hj hji hjun
            right
            rw [hrdi] at hrd
            simp only [Bool.not_true, Bool.false_or, List.all_eq_true] at hrd
            have := hrd j (by simpa using hj)
            simp only [Bool.or_eq_true, beq_iff_eq, hji, hjun, false_or, Bool.false_eq_true] at this
            exact this
        · rw [if_neg hrdi] at h
          obtain ⟨v, h1, h2⟩ := h
          refine first (Y := fun a _ => Region.wanted oi (yielded ops a.tmps) = true ∧ ∀ w, C w → gives P oi a w v) (v := v) hoi (Region.noSelect_spec hs) ?_ ?_ t.size listed a w hsh (Region.free_spec hoi hf) ?_ hri ⟨hw, h1⟩ (every_of_tree hs t _ _ w (hsh.set hri) hB' h2)
          · intro a a' w e1 e2 hy
            unfold gives at *
            rw [e1, e2]
            exact hy
          · intro K a w hy hK
            unfold step
            rw [hoi]
            simp only
            rw [if_neg ht, if_pos hy.1, if_neg hrdi]
            exact ⟨v, hy.2, hK⟩
          · intro j hj hji hjun
            left
            intro a w w' hy
            exact hy
      · rw [if_neg hw] at h
        refine first (Y := fun a _ => ¬ Region.wanted oi (yielded ops a.tmps) = true) (v := undef) hoi (Region.noSelect_spec hs) ?_ ?_ t.size listed a w hsh (Region.free_spec hoi hf) ?_ hri hw (every_of_tree hs t _ _ w (hsh.set hri) hB' h)
        · intro a a' w e1 e2 hy
          rw [e2]
          exact hy
        · intro K a w hy hK
          unfold step
          rw [hoi]
          simp only
          rw [if_neg ht, if_neg hy]
          exact hK
        · intro j hj hji hjun
          left
          intro a w w' hy
          exact hy
def allT (ops : Array Oper) (tn rd : List Nat) (t : Tree) : Bool := Region.noSelect ops && decide (t.size = ops.size) && orderT .any ops tn rd t (Array.replicate ops.size false)
theorem regionT {id : Nat} {Q : Exit → Act → World → Prop} {a : Act} {w : World} {l : List Oper} (C : World → Prop) (tn rd : List Nat) (t : Tree) (hm : P.follows .mixedOrders = true) (hB : allT l.toArray tn rd t = true) (hC : C w.drew)
    (h : walkT P l.toArray C tn rd (fun a' w' => Q .normal a' w') t a w.drew) : (Code.region id l.toArray true).wp P Q a w := by
  simp only [allT, Bool.and_eq_true, decide_eq_true_eq] at hB
  obtain ⟨⟨hs, hn⟩, hB⟩ := hB
  have hsh : Shut .any l.toArray (Array.replicate l.toArray.size false) := ⟨by simp, fun j oj _ hl => by rw [getD_replicate_false] at hl; cases hl⟩
  refine wp_region_any hm (any_of_every (fin := none) (tn := tn) (rd := rd) (Q := fun a w => Q .normal a w) (fun _ _ h => h) rfl _ _ _ _ hsh (.inl hC) ?_)
  have := every_of_tree (md := .any) hs t _ a w.drew hsh hB h
  rwa [hn] at this
/-- where two may come up: either order, each with what comes behind it -/
inductive Fork
  | stop
  | alt (i : Nat) (p : List (Kd × Nat)) (t : Fork) (j : Nat) (q : List (Kd × Nat)) (u : Fork)
def goesT (P : Program) (l : List Oper) (C : World → Prop) (Q : Act → World → Prop) : Fork → Act → World → Prop
  | .stop => Q
  | .alt i p t j q u => fun a w => wpList P l.toArray (Then C (goes P l.toArray C (goesT P l C Q t) (p.map fun x => (x.1, nth l x.2)))) [nth l i] a w ∧ wpList P l.toArray (Then C (goes P l.toArray C (goesT P l C Q u) (q.map fun x => (x.1, nth l x.2)))) [nth l j] a w
def chain (p : List (Kd × Nat)) (t : Tree) : Tree := p.foldr (fun x t => .op x.2 t) t
def treeOf : Fork → Tree
  | .stop => .nil
  | .alt i p t j q u => .two i (chain p (treeOf t)) j (chain q (treeOf u))
def turnsOf : Fork → List Nat
  | .stop => []
  | .alt i p t j q u => i :: j :: (kinds isTurn p ++ turnsOf t ++ kinds isTurn q ++ turnsOf u)
def looksOf : Fork → List Nat
  | .stop => []
  | .alt _ p t _ q u => kinds isLook p ++ looksOf t ++ kinds isLook q ++ looksOf u
def goodP (n : Nat) (tn rd : List Nat) (p : List (Kd × Nat)) : Bool := p.all fun x => decide (x.2 < n) && (isTurn x.1 == tn.contains x.2) && (isLook x.1 == rd.contains x.2) && !isLast x.1
def goodF (n : Nat) (tn rd : List Nat) : Fork → Bool
  | .stop => true
  | .alt i p t j q u => decide (i < n) && decide (j < n) && tn.contains i && tn.contains j && goodP n tn rd p && goodF n tn rd t && goodP n tn rd q && goodF n tn rd u
theorem walk_of_list {l : List Oper} {tn rd : List Nat} {Q R : Act → World → Prop} {T : Tree} (hR : ∀ a w, R a w → walkT P l.toArray C tn rd Q T a w) : ∀ (p : List (Kd × Nat)), goodP l.length tn rd p = true → ∀ (a : Act) (w : World), goes P l.toArray C R (p.map fun x => (x.1, nth l x.2)) a w → walkT P l.toArray C tn rd Q (chain p T) a w
  | [], _, a, w, h => hR a w h
  | (k, i) :: p, hp, a, w, h => by
    unfold goodP at hp
    rw [List.all_cons, Bool.and_eq_true] at hp
    obtain ⟨h0, hp'⟩ := hp
    simp only [Bool.and_eq_true, decide_eq_true_eq, beq_iff_eq, Bool.not_eq_true'] at h0
    obtain ⟨⟨⟨hlt, ht⟩, hr⟩, hl⟩ := h0
    have hget : l.toArray[i]? = some (nth l i) := by rw [List.getElem?_toArray]; exact nth_get l i hlt
    show step P l.toArray none C tn rd i (walkT P l.toArray C tn rd Q (chain p T)) a w
    refine step_mono (fun a' w' => walk_of_list hR p hp' a' w') ?_
    unfold step
    rw [hget]
    simp only
    cases k with
    | turn =>
      rw [if_pos (by rw [← ht]; rfl)]
      exact turn_mono (fun w h => .inr h) h
    | last => cases hl
    | look =>
      rw [if_neg (by rw [← ht]; decide), ← hr]
      exact h
    | sure =>
      rw [if_neg (by rw [← ht]; decide), ← hr]
      exact h
theorem walk_of_fork {l : List Oper} {tn rd : List Nat} {Q : Act → World → Prop} : ∀ (t : Fork), goodF l.length tn rd t = true → ∀ (a : Act) (w : World), goesT P l C Q t a w → walkT P l.toArray C tn rd Q (treeOf t) a w
  | .stop, _, _, _, h => h
  | .alt i p t j q u, hg, a, w, h => by
    unfold goodF at hg
    simp only [Bool.and_eq_true, decide_eq_true_eq] at hg
    obtain ⟨⟨⟨⟨⟨⟨⟨hi, hj⟩, ti⟩, tj⟩, hp⟩, ht⟩, hq⟩, hu⟩ := hg
    have geti : l.toArray[i]? = some (nth l i) := by rw [List.getElem?_toArray]; exact nth_get l i hi
    have getj : l.toArray[j]? = some (nth l j) := by rw [List.getElem?_toArray]; exact nth_get l j hj
    refine ⟨?_, ?_⟩
    · refine step_mono (fun a' w' => walk_of_list (walk_of_fork t ht) p hp a' w') ?_
      unfold step
      rw [geti]
      simp only
      rw [if_pos ti]
      exact turn_mono (fun w h => .inr h) h.1
    · refine step_mono (fun a' w' => walk_of_list (walk_of_fork u hu) q hq a' w') ?_
      unfold step
      rw [getj]
      simp only
      rw [if_pos tj]
      exact turn_mono (fun w h => .inr h) h.2
def okT (l : List Oper) (p : List (Kd × Nat)) (t : Fork) : Bool :=
  goodP l.length (kinds isTurn p ++ turnsOf t) (kinds isLook p ++ looksOf t) p && goodF l.length (kinds isTurn p ++ turnsOf t) (kinds isLook p ++ looksOf t) t &&
    allT l.toArray (kinds isTurn p ++ turnsOf t) (kinds isLook p ++ looksOf t) (chain p (treeOf t))
/-- THE LAW: the operations p in order, then forks -/
theorem lawT {id : Nat} {Q : Exit → Act → World → Prop} {a : Act} {w : World} {l : List Oper} (C : World → Prop) (p : List (Kd × Nat)) (t : Fork) (hm : P.follows .mixedOrders = true) (hB : okT l p t = true) (hC : C w.drew)
    (h : goes P l.toArray C (goesT P l C (fun a' w' => Q .normal a' w') t) (p.map fun x => (x.1, nth l x.2)) a w.drew) : (Code.region id l.toArray true).wp P Q a w := by
  simp only [okT, Bool.and_eq_true] at hB
  obtain ⟨⟨hp, ht⟩, hB⟩ := hB
  exact regionT C _ _ _ hm hB hC (walk_of_list (walk_of_fork t ht) p hp a w.drew h)
theorem go_fork {l : List Oper} {Q : Act → World → Prop} {i j : Nat} {p q : List (Kd × Nat)} {t u : Fork} {a : Act} {w : World}
    (h1 : wpList P l.toArray (Then C (goes P l.toArray C (goesT P l C Q t) (p.map fun x => (x.1, nth l x.2)))) [nth l i] a w) (h2 : wpList P l.toArray (Then C (goes P l.toArray C (goesT P l C Q u) (q.map fun x => (x.1, nth l x.2)))) [nth l j] a w) : goesT P l C Q (.alt i p t j q u) a w := ⟨h1, h2⟩
theorem go_stop {l : List Oper} {Q : Act → World → Prop} {a : Act} {w : World} (h : Q a w) : goesT P l C Q .stop a w := h
end
end Mix
end Go.Proofs.Ytmnbihpcgkgebaa.Base
