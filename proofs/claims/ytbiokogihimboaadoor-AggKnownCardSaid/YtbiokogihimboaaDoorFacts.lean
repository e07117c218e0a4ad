/-
  A great region that draws its order, whose operations make memory and call, but store into nothing that was there: a fact a slot, one obligation an operation, whatever the orders.
-/
import Derived.Test.YtbiokogihimboaaDoorRegion
import Derived.Test.YtbiokogihimboaaDoorBaseC
namespace Go.Proofs.YtbiokogihimboaaDoor.Base
open Go.RowKit

/-- blocks keep their cells (a mark may turn) -/
def Gr (w w' : World) : Prop := ∀ (g : Nat) (c : Array Value) (t : TypeId) (fr : Nat × Nat), w.heap[g]? = some (.cells c t fr) → ∃ fr', w'.heap[g]? = some (.cells c t fr')
theorem Gr.refl (w : World) : Gr w w := fun _ _ _ fr h => ⟨fr, h⟩
theorem Gr.trans {a b c : World} (h : Gr a b) (k : Gr b c) : Gr a c := fun g x t fr hx => let ⟨fr', h'⟩ := h g x t fr hx; k g x t fr' h'
theorem Gr.of_fr0 {w w' : World} (h : Fr0 w w') : Gr w w' := fun _ _ _ fr hx => ⟨fr, h.heap hx (fun f => f)⟩
theorem Gr.cell {w w' : World} (h : Gr w w') {g o : Nat} {v : Value} (hc : w.cell? ⟨g, o, none⟩ = some v) : w'.cell? ⟨g, o, none⟩ = some v := by
  have hlt := World.block_lt_of_cell? w _ hc
  cases hb : w.heap[g]? with
  | none => simp [World.cell?, hb] at hc
  | some ob =>
    cases ob with
    | cells c t fr =>
      obtain ⟨fr', h'⟩ := h g c t fr hb
      rw [cell_of_row _ _ _ _ _ _ hb] at hc
      rw [cell_of_row _ _ _ _ _ _ h']
      exact hc
    | _ => simp [World.cell?, hb] at hc
theorem Gr.bytes {w w' : World} (h : Gr w w') {v : Value} {l : List UInt8} (hb : BytesIs w v l) : BytesIs w' v l := by
  obtain ⟨a, cap, pb, po, rfl, hcap, ha, hc⟩ := hb
  exact ⟨a, cap, pb, po, rfl, hcap, ha, fun j hj => h.cell (hc j hj)⟩
theorem Gr.parts {w w' : World} (h : Gr w w') {v : Value} {ps : List (List UInt8)} (hb : PartsIs w v ps) : PartsIs w' v ps := by
  obtain ⟨a, cap, qb, qo, rfl, hcap, hl, ha, hc⟩ := hb
  exact ⟨a, cap, qb, qo, rfl, hcap, hl, ha, fun i hi => let ⟨pv, h1, h2⟩ := hc i hi; ⟨pv, h.cell h1, h.bytes h2⟩⟩

/-- the operations of a function's region -/
def regionOps (n : Nat) : Code → Option (Array Oper)
  | .region k ops _ => if k = n then some ops else none
  | .seq a b => match regionOps n a with
    | some c => some c
    | none => regionOps n b
  | .cond _ a b => match regionOps n a with
    | some c => some c
    | none => regionOps n b
  | .loop c => regionOps n c
  | .block _ c => regionOps n c
  | .scope c => regionOps n c
  | _ => none
/-- what a slot holds, which no later operation undoes -/
structure Fact where
  holds : Value → World → Prop
  mono : ∀ v w w', Gr w w' → holds v w → holds v w'
def Fact.any : Fact := ⟨fun _ _ => True, fun _ _ _ _ h => h⟩
/-- the slot holds u -/
def Fact.is (u : Value) : Fact := ⟨fun v _ => v = u, fun _ _ _ _ h => h⟩
/-- new bytes that were laid out of a literal (and may get their mark yet) -/
def Fact.raw (n : Nat) (t : TypeId) (l : List UInt8) : Fact := ⟨fun v w => ∃ (g : Nat) (fr : Nat × Nat), v = .slice (some ⟨g, 0, none⟩) l.length l.length ∧ n ≤ g ∧ w.heap[g]? = some (.cells (bvals l).toArray t fr),
  fun _ _ _ hg ⟨g, fr, h1, h2, h3⟩ => let ⟨fr', h'⟩ := hg g _ _ _ h3; ⟨g, fr', h1, h2, h'⟩⟩
def Fact.bytes (l : List UInt8) : Fact := ⟨fun v w => BytesIs w v l, fun _ _ _ hg h => hg.bytes h⟩
def Fact.parts (ps : List (List UInt8)) : Fact := ⟨fun v w => PartsIs w v ps, fun _ _ _ hg h => hg.parts h⟩

def dsts (l : List Oper) : List Nat := l.filterMap (·.dst)
def depSlots (l : List Oper) (o : Oper) : List Nat := (waits o).filterMap (fun k => (l[k]?).bind (·.dst))
/-- the frame with the region's own slots as vals says -/
def frm (a : Act) (ds : List Nat) (vals : Nat → Value) : Act := ⟨a.tmps.mapIdx fun j c => if ds.contains j then vals j else c, a.defers⟩
def dstsOk (l : List Oper) (n : Nat) : Bool := decide (dsts l).Nodup && (dsts l).all (fun d => decide (d < n))
def upd (vals : Nat → Value) (d : Nat) (v : Value) : Nat → Value := fun j => if j = d then v else vals j

theorem frm_put (a : Act) (ds : List Nat) (vals : Nat → Value) (d : Nat) (v : Value) (hd : d ∈ ds) : (frm a ds vals).put (some d) v = frm a ds (upd vals d v) := by
  unfold frm Act.put upd
  simp only
  congr 1
  apply Array.ext
  · simp
  · intro i h1 h2
    by_cases h : d = i
    · subst h
      simp [hd]
    · have h' : ¬ i = d := fun e => h e.symm
      rw [Array.getElem_setIfInBounds_ne (by simpa using h2) h, Array.getElem_mapIdx, Array.getElem_mapIdx]
      simp only [if_neg h']
theorem frm_start (a : Act) (ds : List Nat) : frm a ds (fun j => a.tmps.getD j undef) = a := by
  unfold frm
  cases a with
  | mk t df =>
    simp only
    congr 1
    apply Array.ext
    · simp
    · intro i h1 h2
      simp only [Array.getElem_mapIdx]
      split
      · simp [h2]
      · rfl
theorem frm_eval (a : Act) (ds : List Nat) (vals : Nat → Value) (k : Nat) (hk : k ∈ ds) (hn : k < a.tmps.size) : (frm a ds vals).eval (.tmp k) = vals k := by
  unfold frm Act.eval
  simp only [Array.getD_eq_getD_getElem?]
  rw [Array.getElem?_eq_getElem (by simpa using hn)]
  simp only [Array.getElem_mapIdx, Option.getD_some]
  rw [if_pos (by simpa using hk)]
theorem frm_eval_old (a : Act) (ds : List Nat) (vals : Nat → Value) (k : Nat) (hk : ds.contains k = false) : (frm a ds vals).eval (.tmp k) = a.eval (.tmp k) := by
  unfold frm Act.eval
  simp only [Array.getD_eq_getD_getElem?, Array.getElem?_mapIdx]
  cases h : a.tmps[k]? with
  | none => rfl
  | some c =>
    simp only [Option.map_some, Option.getD_some]
    rw [if_neg (by rw [hk]; decide)]

section
variable {P : Program} {Q : Exit → Act → World → Prop}
/-- one operation's obligation -/
def FStep (P : Program) (l : List Oper) (Q : Exit → Act → World → Prop) (F : Nat → Fact) (a : Act) (w0 : World) (o : Oper) : Prop :=
  ∀ (vals : Nat → Value) (w' : World), Fr0 w0 w' → (∀ d ∈ depSlots l o, (F d).holds (vals d) w') →
    if Region.wanted o (yielded l.toArray (frm a (dsts l) vals).tmps) = true then
      Oper.wp P o (frm a (dsts l) vals) w' (fun a'' w'' => ∃ v, a'' = (frm a (dsts l) vals).put o.dst v ∧ (∀ d, o.dst = some d → (F d).holds v w'') ∧ Gr w' w'' ∧ Fr0 w0 w'') Q
    else ∀ d, o.dst = some d → (F d).holds undef w'
def FSteps (P : Program) (l : List Oper) (Q : Exit → Act → World → Prop) (F : Nat → Fact) (a : Act) (w0 : World) : List Oper → Prop
  | [] => True
  | o :: rest => FStep P l Q F a w0 o ∧ FSteps P l Q F a w0 rest
theorem FSteps.get {l : List Oper} {F : Nat → Fact} {a : Act} {w0 : World} : ∀ (m : List Oper), FSteps P l Q F a w0 m → ∀ (i : Nat) (o : Oper), m[i]? = some o → FStep P l Q F a w0 o
  | [], _, i, o, h => by simp at h
  | x :: m, hS, 0, o, h => by simp at h; subst h; exact hS.1
  | x :: m, hS, i + 1, o, h => FSteps.get m hS.2 i o (by simpa using h)
theorem dst_inj : ∀ (l : List Oper), (dsts l).Nodup → ∀ (i j : Nat) (oi oj : Oper) (d : Nat), l[i]? = some oi → l[j]? = some oj → oi.dst = some d → oj.dst = some d → i = j
  | [], _, i, j, oi, oj, d, h, _, _, _ => by simp at h
  | x :: m, hn, i, j, oi, oj, d, hi, hj, hdi, hdj => by
    have mem : ∀ (k : Nat) (o : Oper), m[k]? = some o → o.dst = some d → d ∈ dsts m := fun k o ho hd => by
      unfold dsts
      rw [List.mem_filterMap]
      exact ⟨o, List.mem_of_getElem? ho, hd⟩
    cases hx : x.dst with
    | none =>
      have hn' : (dsts m).Nodup := by unfold dsts at hn ⊢; rw [List.filterMap_cons, hx] at hn; exact hn
      cases i with
      | zero => simp at hi; subst hi; rw [hx] at hdi; cases hdi
      | succ i =>
        cases j with
        | zero => simp at hj; subst hj; rw [hx] at hdj; cases hdj
        | succ j => rw [dst_inj m hn' i j oi oj d (by simpa using hi) (by simpa using hj) hdi hdj]
    | some e =>
      have hn' : e ∉ dsts m ∧ (dsts m).Nodup := by unfold dsts at hn ⊢; rw [List.filterMap_cons, hx] at hn; exact List.nodup_cons.1 hn
      cases i with
      | zero =>
        simp at hi; subst hi
        rw [hx] at hdi; cases hdi
        cases j with
        | zero => rfl
        | succ j => exact absurd (mem j oj (by simpa using hj) hdj) hn'.1
      | succ i =>
        cases j with
        | zero =>
          simp at hj; subst hj
          rw [hx] at hdj; cases hdj
          exact absurd (mem i oi (by simpa using hi) hdi) hn'.1
        | succ j => rw [dst_inj m hn'.2 i j oi oj d (by simpa using hi) (by simpa using hj) hdi hdj]
theorem region_facts' {id : Nat} {l : List Oper} {a : Act} {w : World} (F : Nat → Fact) (hm : P.follows .mixedOrders = true) (hl : lexical l = true) (hd : dstsOk l a.tmps.size = true) (hs : ∀ (i : Nat) (o : Oper), l[i]? = some o → FStep P l Q F a w.drew o)
    (hQ : ∀ (vals : Nat → Value) (w' : World), Fr0 w.drew w' → (∀ d ∈ dsts l, (F d).holds (vals d) w') → Q .normal (frm a (dsts l) vals) w') : (Code.region id l.toArray true).wp P Q a w := by
  unfold dstsOk at hd
  simp only [Bool.and_eq_true, decide_eq_true_eq] at hd
  obtain ⟨hnd, _⟩ := hd
  refine region_inv (fun L a' w' => ∃ vals, a' = frm a (dsts l) vals ∧ Fr0 w.drew w' ∧ ∀ (i : Nat) (o : Oper) (d : Nat), l[i]? = some o → o.dst = some d → L i = true → (F d).holds (vals d) w') hm hl
    ⟨fun j => a.tmps.getD j undef, (frm_start a _).symm, Fr.refl _ _, fun i o d _ _ h => by cases h⟩ (fun i o ho L a' w' hL hw hI K hK => ?_) (fun L a' w' hall hI => ?_)
  · obtain ⟨vals, rfl, hF, hfacts⟩ := hI
    have hdep : ∀ d ∈ depSlots l o, (F d).holds (vals d) w' := fun d hd => by
      unfold depSlots at hd
      rw [List.mem_filterMap] at hd
      obtain ⟨k, hk, hb⟩ := hd
      unfold waits at hk
      rw [List.mem_map] at hk
      obtain ⟨e, he, rfl⟩ := hk
      rw [List.mem_filter] at he
      cases hlk : l[e.on]? with
      | none => rw [hlk] at hb; cases hb
      | some ok =>
        rw [hlk] at hb
        exact hfacts e.on ok d hlk hb (hw e he.1 he.2)
    have hst := hs i o ho vals w' hF hdep
    have fin : ∀ (v : Value) (w'' : World), (∀ d, o.dst = some d → (F d).holds v w'') → Gr w' w'' → Fr0 w.drew w'' → K ((frm a (dsts l) vals).put o.dst v) w'' := fun v w'' hv hG hF'' => by
      cases hdst : o.dst with
      | none =>
        refine hK _ _ ⟨vals, rfl, hF'', fun j oj d hj hdj hLj => ?_⟩
        unfold opDone at hLj
        by_cases hji : j = i
        · subst hji; rw [ho] at hj; cases hj; rw [hdst] at hdj; cases hdj
        · rw [if_neg hji] at hLj
          exact (F d).mono _ _ _ hG (hfacts j oj d hj hdj hLj)
      | some d0 =>
        have hmem : d0 ∈ dsts l := by
          unfold dsts
          rw [List.mem_filterMap]
          exact ⟨o, List.mem_of_getElem? ho, hdst⟩
        refine hK _ _ ⟨upd vals d0 v, frm_put a _ vals d0 v hmem, hF'', fun j oj d hj hdj hLj => ?_⟩
        unfold opDone at hLj
        by_cases hji : j = i
        · subst hji
          rw [ho] at hj; cases hj
          rw [hdst] at hdj; cases hdj
          unfold upd
          rw [if_pos rfl]
          exact hv _ hdst
        · rw [if_neg hji] at hLj
          have hne : d ≠ d0 := fun e => by
            subst e
            exact hji (dst_inj l hnd j i oj o d hj ho hdj hdst)
          unfold upd
          rw [if_neg hne]
          exact (F d).mono _ _ _ hG (hfacts j oj d hj hdj hLj)
    split at hst
    · rename_i hwt
      rw [if_pos hwt]
      exact Oper.wp_mono (fun a'' w'' ⟨v, h1, h2, h3, h4⟩ => by subst h1; exact fin v w'' h2 h3 h4) hst
    · rename_i hwt
      rw [if_neg hwt]
      exact fin undef w' hst (Gr.refl _) hF
  · obtain ⟨vals, rfl, hF, hfacts⟩ := hI
    refine hQ vals w' hF (fun d hd => ?_)
    unfold dsts at hd
    rw [List.mem_filterMap] at hd
    obtain ⟨o, ho, hdd⟩ := hd
    obtain ⟨i, hi⟩ := List.getElem?_of_mem ho
    exact hfacts i o d hi hdd (hall i (List.getElem?_eq_some_iff.1 hi).1)
theorem region_facts {id : Nat} {l : List Oper} {a : Act} {w : World} (F : Nat → Fact) (hm : P.follows .mixedOrders = true) (hl : lexical l = true) (hd : dstsOk l a.tmps.size = true) (hs : FSteps P l Q F a w.drew l)
    (hQ : ∀ (vals : Nat → Value) (w' : World), Fr0 w.drew w' → (∀ d ∈ dsts l, (F d).holds (vals d) w') → Q .normal (frm a (dsts l) vals) w') : (Code.region id l.toArray true).wp P Q a w := by
  exact region_facts' F hm hl hd (fun i o ho => FSteps.get l hs i o ho) hQ
end
end Go.Proofs.YtbiokogihimboaaDoor.Base
