/-
  Regions by facts, with one operation (an append in place, say) that uses some facts up: behind it they are asked no more.
-/
import Derived.Test.YtcdfflieooopjaaDoorFactKinds
namespace Go.Proofs.YtcdfflieooopjaaDoor.Base
open Go.RowKit

section
variable {P : Program} {Q : Exit → Act → World → Prop}
/-- one operation's obligation: 'keep' is what it leaves of the world -/
def CStep (P : Program) (l : List Oper) (Q : Exit → Act → World → Prop) (F : Nat → Value → World → Prop) (a : Act) (w0 : World) (keep : World → World → (Nat → Value) → Prop) (o : Oper) : Prop :=
  ∀ (vals : Nat → Value) (w' : World), Fr0 w0 w' → (∀ d ∈ depSlots l o, F d (vals d) w') →
    if Region.wanted o (yielded l.toArray (frm a (dsts l) vals).tmps) = true then
      Oper.wp P o (frm a (dsts l) vals) w' (fun a'' w'' => ∃ v, a'' = (frm a (dsts l) vals).put o.dst v ∧ (∀ d, o.dst = some d → F d v w'') ∧ keep w' w'' vals ∧ Fr0 w0 w'') Q
    else ∀ d, o.dst = some d → F d undef w'
/-- what is used up by operation j0 is asked for by none but those that j0 waits for, and by j0 -/
def consAt (l : List Oper) (j0 : Nat) (cons : List Nat) (i : Nat) : Bool := i == j0 || (match l[i]?, l[j0]? with
  | some o, some oj => !(depSlots l o).any cons.contains || (waits oj).contains i
  | _, _ => true)
theorem region_factsC {id : Nat} {l : List Oper} {a : Act} {w : World} (F : Nat → Value → World → Prop) (hmono : ∀ d v w w', Fr0 w w' → F d v w → F d v w') (j0 : Nat) (cons : List Nat) (hc0 : j0 < l.length ∨ cons = []) (hm : P.follows .mixedOrders = true) (hl : lexical l = true) (hd : dstsOk l a.tmps.size = true)
    (hs : ∀ (i : Nat) (o : Oper), l[i]? = some o → i ≠ j0 → (consAt l j0 cons i = true ∧ CStep P l Q F a w.drew (fun w' w'' _ => Fr0 w' w'') o) ∨ ((∀ d, o.dst = some d → d ∉ cons) ∧ CStep P l Q (fun d v w => d ∈ cons ∨ F d v w) a w.drew (fun w' w'' _ => Fr0 w' w'') o))
    (hj : ∀ (o : Oper), l[j0]? = some o → CStep P l Q F a w.drew (fun w' w'' vals => ∀ d ∈ dsts l, o.dst ≠ some d → d ∉ cons → F d (vals d) w' → F d (vals d) w'') o)
    (hQ : ∀ (vals : Nat → Value) (w' : World), Fr0 w.drew w' → (∀ d ∈ dsts l, d ∉ cons → F d (vals d) w') → Q .normal (frm a (dsts l) vals) w') : (Code.region id l.toArray true).wp P Q a w := by
  unfold dstsOk at hd
  simp only [Bool.and_eq_true, decide_eq_true_eq] at hd
  obtain ⟨hnd, _⟩ := hd
  have hmemd : ∀ (i : Nat) (o : Oper) (d : Nat), l[i]? = some o → o.dst = some d → d ∈ dsts l := fun i o d ho hdst => by
    unfold dsts
    rw [List.mem_filterMap]
    exact ⟨o, List.mem_of_getElem? ho, hdst⟩
  refine region_inv (fun L a' w' => Closed l L ∧ ∃ vals, a' = frm a (dsts l) vals ∧ Fr0 w.drew w' ∧ ∀ (i : Nat) (o : Oper) (d : Nat), l[i]? = some o → o.dst = some d → L i = true → (L j0 = true → d ∉ cons) → F d (vals d) w') hm hl
    ⟨fun i o _ h => absurd h (by simp), fun j => a.tmps.getD j undef, (frm_start a _).symm, Fr.refl _ _, fun i o d _ _ h => by cases h⟩ (fun i o ho L a' w' hL hw hI K hK => ?_) (fun L a' w' hall hI => ?_)
  · obtain ⟨hcl, vals, rfl, hF, hfacts⟩ := hI
    have hwaits : ∀ k ∈ waits o, L k = true := fun k hk => by
      unfold waits at hk
      rw [List.mem_map] at hk
      obtain ⟨e, he, rfl⟩ := hk
      rw [List.mem_filter] at he
      exact hw e he.1 he.2
    have hcl' : Closed l (opDone L i) := fun j o' ho' hj k hk => by
      unfold opDone at hj ⊢
      by_cases hki : k = i
      · rw [if_pos hki]
      · rw [if_neg hki]
        by_cases hji : j = i
        · subst hji
          rw [ho] at ho'
          cases ho'
          exact hwaits k hk
        · rw [if_neg hji] at hj
          exact hcl j o' ho' hj k hk
    have hdep : ∀ d ∈ depSlots l o, (consAt l j0 cons i = true ∨ d ∉ cons) → F d (vals d) w' := fun d hd hca => by
      have hd0 := hd
      unfold depSlots at hd
      rw [List.mem_filterMap] at hd
      obtain ⟨k, hk, hb⟩ := hd
      cases hlk : l[k]? with
      | none => rw [hlk] at hb; cases hb
      | some ok =>
        rw [hlk] at hb
        refine hfacts k ok d hlk hb (hwaits k hk) (fun hj0 hdc => ?_)
        -- j0 has been done: then i is not one that j0 waits for, nor j0 itself
        have hij : i ≠ j0 := fun e => by subst e; rw [hL] at hj0; cases hj0
        cases hlj : l[j0]? with
        | none =>
          rcases hc0 with h | h
          · rw [List.getElem?_eq_none_iff] at hlj
            omega
          · rw [h] at hdc
            simp at hdc
        | some oj =>
          have h2 := hca.resolve_right (fun h => h hdc)
          unfold consAt at h2
          rw [ho, hlj] at h2
          simp only [Bool.or_eq_true, beq_iff_eq, hij, false_or, Bool.not_eq_true', List.contains_iff_mem] at h2
          rcases h2 with h2 | h2
          · rw [List.any_eq_false] at h2
            exact h2 d hd0 (by simpa using hdc)
          · have := hcl j0 oj hlj hj0 i h2
            rw [hL] at this; cases this
    have fin : ∀ (v : Value) (w'' : World), (∀ d, o.dst = some d → F d v w'') → (∀ d ∈ dsts l, o.dst ≠ some d → (opDone L i j0 = true → d ∉ cons) → F d (vals d) w' → F d (vals d) w'') → Fr0 w.drew w'' → K ((frm a (dsts l) vals).put o.dst v) w'' := fun v w'' hv hG hF'' => by
      have hLj : ∀ (d : Nat), (opDone L i j0 = true → d ∉ cons) → (L j0 = true → d ∉ cons) := fun d h hj0 => h (by
        unfold opDone
        split
        · rfl
        · exact hj0)
      cases hdst : o.dst with
      | none =>
        refine hK _ _ ⟨hcl', vals, rfl, hF'', fun j oj d hj hdj hLjd hc => ?_⟩
        unfold opDone at hLjd
        by_cases hji : j = i
        · subst hji; rw [ho] at hj; cases hj; rw [hdst] at hdj; cases hdj
        · rw [if_neg hji] at hLjd
          exact hG d (hmemd j oj d hj hdj) (by rw [hdst]; simp) hc (hfacts j oj d hj hdj hLjd (hLj d hc))
      | some d0 =>
        refine hK _ _ ⟨hcl', upd vals d0 v, frm_put a _ vals d0 v (hmemd i o d0 ho hdst), hF'', fun j oj d hj hdj hLjd hc => ?_⟩
        unfold opDone at hLjd
        by_cases hji : j = i
        · subst hji
          rw [ho] at hj; cases hj
          rw [hdst] at hdj; cases hdj
          unfold upd
          rw [if_pos rfl]
          exact hv _ hdst
        · rw [if_neg hji] at hLjd
          have hne : d ≠ d0 := fun e => by
            subst e
            exact hji (dst_inj l hnd j i oj o d hj ho hdj hdst)
          unfold upd
          rw [if_neg hne]
          exact hG d (hmemd j oj d hj hdj) (by rw [hdst]; exact fun e => hne (Option.some.inj e).symm) hc (hfacts j oj d hj hdj hLjd (hLj d hc))
    by_cases hij : i = j0
    · subst hij
      have hst := hj o ho vals w' hF (fun d hd => hdep d hd (.inl (by unfold consAt; simp)))
      split at hst
      · rename_i hwt
        rw [if_pos hwt]
        exact Oper.wp_mono (fun a'' w'' ⟨v, h1, h2, h3, h4⟩ => by subst h1; exact fin v w'' h2 (fun d hd hne hc => h3 d hd hne (hc (by unfold opDone; rw [if_pos rfl]))) h4) hst
      · rename_i hwt
        rw [if_neg hwt]
        exact fin undef w' hst (fun _ _ _ _ h => h) hF
    · rcases hs i o ho hij with ⟨hca, hst⟩ | ⟨hdc, hst⟩
      · replace hst := hst vals w' hF (fun d hd => hdep d hd (.inl hca))
        split at hst
        · rename_i hwt
          rw [if_pos hwt]
          exact Oper.wp_mono (fun a'' w'' ⟨v, h1, h2, h3, h4⟩ => by subst h1; exact fin v w'' h2 (fun d _ _ _ h => hmono d _ _ _ h3 h) h4) hst
        · rename_i hwt
          rw [if_neg hwt]
          exact fin undef w' hst (fun _ _ _ _ h => h) hF
      · replace hst := hst vals w' hF (fun d hd => by
          by_cases h : d ∈ cons
          · exact .inl h
          · exact .inr (hdep d hd (.inr h)))
        split at hst
        · rename_i hwt
          rw [if_pos hwt]
          exact Oper.wp_mono (fun a'' w'' ⟨v, h1, h2, h3, h4⟩ => by subst h1; exact fin v w'' (fun d hd => (h2 d hd).resolve_left (hdc d hd)) (fun d _ _ _ h => hmono d _ _ _ h3 h) h4) hst
        · rename_i hwt
          rw [if_neg hwt]
          exact fin undef w' (fun d hd => (hst d hd).resolve_left (hdc d hd)) (fun _ _ _ _ h => h) hF
  · obtain ⟨_, vals, rfl, hF, hfacts⟩ := hI
    refine hQ vals w' hF (fun d hd hc => ?_)
    unfold dsts at hd
    rw [List.mem_filterMap] at hd
    obtain ⟨o, ho, hdd⟩ := hd
    obtain ⟨i, hi⟩ := List.getElem?_of_mem ho
    exact hfacts i o d hi hdd (hall i (List.getElem?_eq_some_iff.1 hi).1) (fun _ => hc)
end
end Go.Proofs.YtcdfflieooopjaaDoor.Base
