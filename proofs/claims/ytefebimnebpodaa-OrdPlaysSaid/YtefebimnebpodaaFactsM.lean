/-
  Regions that draw their order, by facts of which each may be used up by one operation (a row that is appended to in place, say): behind it that fact is asked no more. A slot that is written last keeps its old value till then.
-/
import Derived.Test.YtefebimnebpodaaFacts
namespace Go.Proofs.Ytefebimnebpodaa.Base
open Go.RowKit
namespace Use

/-- k waits for i, or for one that does -/
def after (l : List Oper) (k i : Nat) : Bool := match l[k]? with
  | some o => (waits o).contains i || (waits o).any fun m => match l[m]? with
    | some om => (waits om).contains i
    | none => false
  | none => false
theorem after_done {l : List Oper} {L : Nat → Bool} (hcl : Closed l L) {k i : Nat} (h : after l k i = true) (hk : L k = true) : L i = true := by
  unfold after at h
  cases hlk : l[k]? with
  | none => rw [hlk] at h; cases h
  | some o =>
    rw [hlk] at h
    simp only [Bool.or_eq_true, List.contains_iff_mem, List.any_eq_true] at h
    rcases h with h | ⟨m, hm, h⟩
    · exact hcl k o hlk hk i h
    · have hLm := hcl k o hlk hk m hm
      cases hlm : l[m]? with
      | none => rw [hlm] at h; cases h
      | some om =>
        rw [hlm] at h
        exact hcl m om hlm hLm i (by simpa using h)
/-- slot d is made by one that comes after i -/
def late (l : List Oper) (i d : Nat) : Bool := (List.range l.length).any fun k => match l[k]? with
  | some o => o.dst == some d && after l k i
  | none => false
theorem late_of {l : List Oper} {i d k : Nat} {o : Oper} (ho : l[k]? = some o) (hd : o.dst = some d) (h : after l k i = true) : late l i d = true := by
  unfold late
  rw [List.any_eq_true]
  refine ⟨k, by simpa using (List.getElem?_eq_some_iff.1 ho).1, ?_⟩
  rw [ho]
  simp [hd, h]
theorem late_spec {l : List Oper} {i d : Nat} (h : late l i d = true) : ∃ k o, l[k]? = some o ∧ o.dst = some d ∧ after l k i = true := by
  unfold late at h
  rw [List.any_eq_true] at h
  obtain ⟨k, _, h⟩ := h
  cases hlk : l[k]? with
  | none => rw [hlk] at h; cases h
  | some o =>
    rw [hlk] at h
    simp only [Bool.and_eq_true, beq_iff_eq] at h
    exact ⟨k, o, hlk, h.1, h.2⟩
/-- slot d has been used up when i is done -/
def spent (l : List Oper) (cons : Nat → Option Nat) (i d : Nat) : Bool := match cons d with
  | some j => j == i || after l i j
  | none => false
/-- who asks for a slot is the one that uses it up, or one that that one waits for -/
def consOk (l : List Oper) (cons : Nat → Option Nat) : Bool := (List.range l.length).all fun i => match l[i]? with
  | some o => (depSlots l o).all fun d => match cons d with
    | some j => j == i || after l j i || after l i j
    | none => true
  | none => true
/-- slot d has been used up ahead of i -/
def gone (l : List Oper) (cons : Nat → Option Nat) (i d : Nat) : Bool := match cons d with
  | some j => after l i j
  | none => false

section
variable {P : Program} {Q : Exit → Act → World → Prop}
/-- one operation's obligation -/
def Step (P : Program) (l : List Oper) (Q : Exit → Act → World → Prop) (F : Nat → Value → World → Prop) (cons : Nat → Option Nat) (a : Act) (w0 : World) (i : Nat) (o : Oper) : Prop :=
  ∀ (vals : Nat → Value) (w' : World), Fr0 w0 w' → (∀ d ∈ depSlots l o, gone l cons i d = false → F d (vals d) w') → (∀ d, late l i d = true → vals d = a.tmps.getD d undef) →
    Region.wanted o (yielded l.toArray (frm a (dsts l) vals).tmps) = true ∧
      Oper.wp P o (frm a (dsts l) vals) w' (fun a'' w'' => ∃ v, a'' = (frm a (dsts l) vals).put o.dst v ∧ (∀ d, o.dst = some d → F d v w'') ∧
        (∀ d ∈ dsts l, o.dst ≠ some d → spent l cons i d = false → late l i d = false → F d (vals d) w' → F d (vals d) w'') ∧ Fr0 w0 w'') Q
theorem region {id : Nat} {l : List Oper} {a : Act} {w : World} (F : Nat → Value → World → Prop) (cons : Nat → Option Nat) (hm : P.follows .mixedOrders = true) (hl : lexical l = true) (hd : dstsOk l a.tmps.size = true) (hc : consOk l cons = true)
    (hs : ∀ (i : Nat) (o : Oper), l[i]? = some o → Step P l Q F cons a w.drew i o)
    (hQ : ∀ (vals : Nat → Value) (w' : World), Fr0 w.drew w' → (∀ d ∈ dsts l, cons d = none → F d (vals d) w') → Q .normal (frm a (dsts l) vals) w') : (Code.region id l.toArray true).wp P Q a w := by
  unfold dstsOk at hd
  simp only [Bool.and_eq_true, decide_eq_true_eq] at hd
  obtain ⟨hnd, _⟩ := hd
  have hmemd : ∀ (i : Nat) (o : Oper) (d : Nat), l[i]? = some o → o.dst = some d → d ∈ dsts l := fun i o d ho hdst => by
    unfold dsts
    rw [List.mem_filterMap]
    exact ⟨o, List.mem_of_getElem? ho, hdst⟩
  refine region_inv (fun L a' w' => Closed l L ∧ ∃ vals, a' = frm a (dsts l) vals ∧ Fr0 w.drew w' ∧ (∀ (i : Nat) (o : Oper) (d : Nat), l[i]? = some o → o.dst = some d → L i = true → (∀ j, cons d = some j → L j = false) → F d (vals d) w') ∧
      (∀ (i : Nat) (o : Oper) (d : Nat), l[i]? = some o → o.dst = some d → L i = false → vals d = a.tmps.getD d undef)) hm hl
    ⟨fun i o _ h => absurd h (by simp), fun j => a.tmps.getD j undef, (frm_start a _).symm, Fr.refl _ _, fun i o d _ _ h => by (cases h), fun i o d _ _ _ => rfl⟩ (fun i o ho L a' w' hL hw hI K hK => ?_) (fun L a' w' hall hI => ?_)
  · obtain ⟨hcl, vals, rfl, hF, hfacts, hold⟩ := hI
    have hwaits : ∀ k ∈ waits o, L k = true := fun k hk => by
      unfold waits at hk
      rw [List.mem_map] at hk
      obtain ⟨e, he, rfl⟩ := hk
      rw [List.mem_filter] at he
      exact hw e he.1 he.2
    have hcl' : Closed l (opDone L i) := fun j o' ho' hj k hk => by
      unfold opDone at hj ⊢
      by_cases hki : k = i
      · rw [if_pos hki]
      · rw [if_neg hki]
        by_cases hji : j = i
        · subst hji
          rw [ho] at ho'
          cases ho'
          exact hwaits k hk
        · rw [if_neg hji] at hj
          exact hcl j o' ho' hj k hk
    have hdep : ∀ d ∈ depSlots l o, gone l cons i d = false → F d (vals d) w' := fun d hd hgo => by
      have hd0 := hd
      unfold depSlots at hd
      rw [List.mem_filterMap] at hd
      obtain ⟨k, hk, hb⟩ := hd
      cases hlk : l[k]? with
      | none => rw [hlk] at hb; cases hb
      | some ok =>
        rw [hlk] at hb
        refine hfacts k ok d hlk hb (hwaits k hk) (fun j hj => ?_)
        unfold consOk at hc
        rw [List.all_eq_true] at hc
        have h1 := hc i (by simpa using (List.getElem?_eq_some_iff.1 ho).1)
        rw [ho] at h1
        simp only [List.all_eq_true] at h1
        have h2 := h1 d hd0
        rw [hj] at h2
        unfold gone at hgo
        rw [hj] at hgo
        simp only [hgo, Bool.or_false, Bool.or_eq_true, beq_iff_eq] at h2
        rcases h2 with h2 | h2
        · subst h2; exact hL
        · cases hLj : L j with
          | false => rfl
          | true =>
            have := after_done hcl h2 hLj
            rw [hL] at this; cases this
    obtain ⟨hwt, hst⟩ := hs i o ho vals w' hF hdep (fun d hd => by
      obtain ⟨k, ok, hk, hkd, haf⟩ := late_spec hd
      refine hold k ok d hk hkd ?_
      cases hLk : L k with
      | false => rfl
      | true =>
        have := after_done hcl haf hLk
        rw [hL] at this; cases this)
    rw [if_pos hwt]
    refine Oper.wp_mono (fun a'' w'' ⟨v, h1, h2, h3, h4⟩ => ?_) hst
    subst h1
    have keep : ∀ (j : Nat) (oj : Oper) (d : Nat), l[j]? = some oj → oj.dst = some d → j ≠ i → opDone L i j = true → (∀ j', cons d = some j' → opDone L i j' = false) → F d (vals d) w'' := fun j oj d hj hdj hji hLjd hcd => by
      have hLj : L j = true := by unfold opDone at hLjd; rwa [if_neg hji] at hLjd
      refine h3 d (hmemd j oj d hj hdj) (fun e => hji (dst_inj l hnd j i oj o d hj ho hdj e)) ?_ ?_ (hfacts j oj d hj hdj hLj (fun j' hj' => ?_))
      · unfold spent
        cases hcc : cons d with
        | none => rfl
        | some j' =>
          have h5 := hcd j' hcc
          simp only [Bool.or_eq_false_iff, beq_eq_false_iff_ne]
          refine ⟨fun e => ?_, ?_⟩
          · subst e; unfold opDone at h5; rw [if_pos rfl] at h5; cases h5
          · cases haf : after l i j' with
            | false => rfl
            | true =>
              have hx := after_done hcl' haf (by unfold opDone; rw [if_pos rfl])
              rw [h5] at hx; cases hx
      · cases hlt : late l i d with
        | false => rfl
        | true =>
          obtain ⟨k, ok, hk, hkd, haf⟩ := late_spec hlt
          obtain rfl : k = j := dst_inj l hnd k j ok oj d hk hj hkd hdj
          have := after_done hcl haf hLj
          rw [hL] at this; cases this
      · have h5 := hcd j' hj'
        unfold opDone at h5
        split at h5
        · cases h5
        · exact h5
    cases hdst : o.dst with
    | none =>
      refine hK _ _ ⟨hcl', vals, rfl, h4, fun j oj d hj hdj hLjd hcd => ?_, fun j oj d hj hdj hLjd => ?_⟩
      · by_cases hji : j = i
        · subst hji; rw [ho] at hj; cases hj; rw [hdst] at hdj; cases hdj
        · exact keep j oj d hj hdj hji hLjd hcd
      · by_cases hji : j = i
        · subst hji; rw [ho] at hj; cases hj; rw [hdst] at hdj; cases hdj
        · unfold opDone at hLjd
          rw [if_neg hji] at hLjd
          exact hold j oj d hj hdj hLjd
    | some d0 =>
      refine hK _ _ ⟨hcl', upd vals d0 v, frm_put a _ vals d0 v (hmemd i o d0 ho hdst), h4, fun j oj d hj hdj hLjd hcd => ?_, fun j oj d hj hdj hLjd => ?_⟩
      · by_cases hji : j = i
        · subst hji
          rw [ho] at hj; cases hj
          rw [hdst] at hdj; cases hdj
          unfold upd
          rw [if_pos rfl]
          exact h2 _ hdst
        · have hne : d ≠ d0 := fun e => by
            subst e
            exact hji (dst_inj l hnd j i oj o d hj ho hdj hdst)
          unfold upd
          rw [if_neg hne]
          exact keep j oj d hj hdj hji hLjd hcd
      · unfold opDone at hLjd
        by_cases hji : j = i
        · rw [if_pos hji] at hLjd; cases hLjd
        · rw [if_neg hji] at hLjd
          have hne : d ≠ d0 := fun e => by
            subst e
            exact hji (dst_inj l hnd j i oj o d hj ho hdj hdst)
          unfold upd
          rw [if_neg hne]
          exact hold j oj d hj hdj hLjd
  · obtain ⟨_, vals, rfl, hF, hfacts, _⟩ := hI
    refine hQ vals w' hF (fun d hd hc => ?_)
    unfold dsts at hd
    rw [List.mem_filterMap] at hd
    obtain ⟨o, ho, hdd⟩ := hd
    obtain ⟨i, hi⟩ := List.getElem?_of_mem ho
    exact hfacts i o d hi hdd (hall i (List.getElem?_eq_some_iff.1 hi).1) (fun j hj => by rw [hc] at hj; cases hj)
end

section
variable {P : Program} {Q : Exit → Act → World → Prop} {l : List Oper} {F : Nat → Value → World → Prop} {cons : Nat → Option Nat} {a : Act} {w0 : World} {i : Nat} {o : Oper}
theorem ff {b : Bool} {C : Prop} (h : b = false) (k : b = true) : C := by rw [h] at k; cases k
theorem op_of (ho : l[i]? = some o) {d : Option Tmp} {p : Op} {g : Option (Nat × Bool)} (h : (l[i]?).map (fun o => (o.dst, o.op, o.guard)) = some (d, p, g)) : o.dst = d ∧ o.op = p ∧ o.guard = g := by
  rw [ho] at h
  simp only [Option.map_some, Option.some.injEq, Prod.mk.injEq] at h
  exact h
/-- slot k is one that o waits for -/
structure Dep (l : List Oper) (a : Act) (o : Oper) (k : Nat) : Prop where
  mem : k ∈ dsts l
  lt : k < a.tmps.size
  dep : k ∈ depSlots l o
theorem Dep.eval {vals : Nat → Value} {k : Nat} (h : Dep l a o k) : (frm a (dsts l) vals).eval (.tmp k) = vals k := frm_eval a _ vals k h.mem h.lt
def depB (l : List Oper) (n : Nat) (o : Oper) (k : Nat) : Bool := (dsts l).contains k && decide (k < n) && (depSlots l o).contains k
def depBi (l : List Oper) (n i k : Nat) : Bool := match l[i]? with
  | some o => depB l n o k
  | none => false
theorem Dep.at {n k : Nat} (hn : a.tmps.size = n) (ho : l[i]? = some o) (h : depBi l n i k = true) : Dep l a o k := by
  unfold depBi at h
  rw [ho] at h
  unfold depB at h
  simp only [Bool.and_eq_true, decide_eq_true_eq, List.contains_iff_mem] at h
  exact ⟨h.1.1, by rw [hn]; exact h.1.2, h.2⟩
theorem eval_old {vals : Nat → Value} {k n : Nat} {X : Value} (hn : a.tmps.size = n) (hv : ∀ d, late l i d = true → vals d = a.tmps.getD d undef) (h : ((dsts l).contains k = false) ∨ (k ∈ dsts l ∧ k < n ∧ late l i k = true)) (hX : a.eval (.tmp k) = X) : (frm a (dsts l) vals).eval (.tmp k) = X := by
  rcases h with h | ⟨h1, h2, h3⟩
  · exact (frm_eval_old a _ vals k h).trans hX
  · rw [frm_eval a _ vals k h1 (by rw [hn]; exact h2), hv k h3]
    exact hX
/-- it yields u, and leaves the world alone -/
theorem value (hg : o.guard = none) (d : Nat) (hd : o.dst = some d) (h : ∀ (vals : Nat → Value) (w' : World), Fr0 w0 w' → (∀ d ∈ depSlots l o, gone l cons i d = false → F d (vals d) w') → (∀ d, late l i d = true → vals d = a.tmps.getD d undef) → ∃ u, (execOp (frm a (dsts l) vals).eval o).run P w' = .ok (.value u) w' ∧ F d u w') : Step P l Q F cons a w0 i o :=
  fun vals w' hF hdep hl => by
    obtain ⟨u, h1, h2⟩ := h vals w' hF hdep hl
    refine ⟨by simp [Region.wanted, hg], ?_⟩
    unfold Oper.wp
    rw [h1]
    exact ⟨u, rfl, fun d' hd' => by rw [hd] at hd'; cases hd'; exact h2, fun _ _ _ _ _ h => h, hF⟩
/-- it yields u, and turns the world -/
theorem turns (hg : o.guard = none) (d : Nat) (hd : o.dst = some d) (h : ∀ (vals : Nat → Value) (w' : World), Fr0 w0 w' → (∀ d ∈ depSlots l o, gone l cons i d = false → F d (vals d) w') → (∀ d, late l i d = true → vals d = a.tmps.getD d undef) →
    ∃ u w'', (execOp (frm a (dsts l) vals).eval o).run P w' = .ok (.value u) w'' ∧ F d u w'' ∧ (∀ e ∈ dsts l, e ≠ d → spent l cons i e = false → late l i e = false → F e (vals e) w' → F e (vals e) w'') ∧ Fr0 w0 w'') : Step P l Q F cons a w0 i o :=
  fun vals w' hF hdep hl => by
    obtain ⟨u, w'', h1, h2, h3, h4⟩ := h vals w' hF hdep hl
    refine ⟨by simp [Region.wanted, hg], ?_⟩
    unfold Oper.wp
    rw [h1]
    exact ⟨u, rfl, fun d' hd' => by rw [hd] at hd'; cases hd'; exact h2, fun e he hne hs hl' hx => h3 e he (fun e' => hne (by rw [e']; exact hd)) hs hl' hx, h4⟩
end
end Use
end Go.Proofs.Ytefebimnebpodaa.Base
