/-
  A region that draws its order, whose operations only make memory, but for the last one (a store, say), which waits for all others: a fact a slot that all memory-making leaves; the last one stands alone behind them.
-/
import Derived.Test.YtbiokogihimboaaDoorFacts
namespace Go.Proofs.YtbiokogihimboaaDoor.Base
open Go.RowKit
namespace Loose
theorem map1 {f : Operand → Value} {x : Operand} {v : Value} (h : f x = v) : #[x].map f = #[v] := by simp [h]
theorem map2 {f : Operand → Value} {x y : Operand} {v u : Value} (h : f x = v) (k : f y = u) : #[x, y].map f = #[v, u] := by simp [h, k]
theorem map3 {f : Operand → Value} {x y z : Operand} {v u t : Value} (h : f x = v) (k : f y = u) (m : f z = t) : #[x, y, z].map f = #[v, u, t] := by simp [h, k, m]

section
variable {P : Program} {Q : Exit → Act → World → Prop}
/-- one operation's obligation -/
def Step (P : Program) (l : List Oper) (Q : Exit → Act → World → Prop) (F : Nat → Value → World → Prop) (a : Act) (w0 : World) (o : Oper) : Prop :=
  ∀ (vals : Nat → Value) (w' : World), Fr0 w0 w' → (∀ d ∈ depSlots l o, F d (vals d) w') →
    Region.wanted o (yielded l.toArray (frm a (dsts l) vals).tmps) = true ∧
      Oper.wp P o (frm a (dsts l) vals) w' (fun a'' w'' => ∃ v, a'' = (frm a (dsts l) vals).put o.dst v ∧ (∀ d, o.dst = some d → F d v w'') ∧ Fr0 w' w'') Q
/-- s waits for all others -/
def lastB (l : List Oper) (s : Nat) : Bool := match l[s]? with
  | some o => (List.range l.length).all fun i => i == s || (waits o).contains i
  | none => false
theorem region {id : Nat} {l : List Oper} {a : Act} {w : World} (F : Nat → Value → World → Prop) (s : Nat) (hmono : ∀ d v w w', Fr0 w w' → F d v w → F d v w') (hm : P.follows .mixedOrders = true) (hl : lexical l = true) (hd : dstsOk l a.tmps.size = true) (hlast : lastB l s = true)
    (hs : ∀ (i : Nat) (o : Oper), l[i]? = some o → i ≠ s → Step P l Q F a w.drew o)
    (hQ : ∀ (vals : Nat → Value) (w' : World) (os : Oper), l[s]? = some os → Fr0 w.drew w' → (∀ (i : Nat) (o : Oper) (d : Nat), l[i]? = some o → i ≠ s → o.dst = some d → F d (vals d) w') →
      Region.wanted os (yielded l.toArray (frm a (dsts l) vals).tmps) = true ∧ Oper.wp P os (frm a (dsts l) vals) w' (fun a'' w'' => Q .normal a'' w'') Q) : (Code.region id l.toArray true).wp P Q a w := by
  unfold dstsOk at hd
  simp only [Bool.and_eq_true, decide_eq_true_eq] at hd
  obtain ⟨hnd, _⟩ := hd
  have hmemd : ∀ (i : Nat) (o : Oper) (d : Nat), l[i]? = some o → o.dst = some d → d ∈ dsts l := fun i o d ho hdst => by
    unfold dsts
    rw [List.mem_filterMap]
    exact ⟨o, List.mem_of_getElem? ho, hdst⟩
  unfold lastB at hlast
  cases hls : l[s]? with
  | none => rw [hls] at hlast; cases hlast
  | some os =>
  rw [hls] at hlast
  rw [List.all_eq_true] at hlast
  have hsl : s < l.length := (List.getElem?_eq_some_iff.1 hls).1
  refine region_inv (fun L a' w' => (L s = true → (∀ i, i < l.length → L i = true) ∧ Q .normal a' w') ∧ (L s = false → ∃ vals, a' = frm a (dsts l) vals ∧ Fr0 w.drew w' ∧ ∀ (i : Nat) (o : Oper) (d : Nat), l[i]? = some o → o.dst = some d → L i = true → F d (vals d) w')) hm hl
    ⟨fun h => by simp at h, fun _ => ⟨fun j => a.tmps.getD j undef, (frm_start a _).symm, Fr.refl _ _, fun i o d _ _ h => by simp at h⟩⟩ (fun i o ho L a' w' hL hw hI K hK => ?_) (fun L a' w' hall hI => (hI.1 (hall s hsl)).2)
  have hil : i < l.length := (List.getElem?_eq_some_iff.1 ho).1
  have hwaits : ∀ k ∈ waits o, L k = true := fun k hk => by
    unfold waits at hk
    rw [List.mem_map] at hk
    obtain ⟨e, he, rfl⟩ := hk
    rw [List.mem_filter] at he
    exact hw e he.1 he.2
  have hLs : L s = false := by
    cases h : L s with
    | false => rfl
    | true =>
      have := (hI.1 h).1 i hil
      rw [hL] at this
      cases this
  obtain ⟨vals, rfl, hF, hfacts⟩ := hI.2 hLs
  by_cases his : i = s
  · subst his
    have e : o = os := Option.some.inj (ho.symm.trans hls)
    rw [e] at hwaits ⊢
    obtain ⟨h1, h2⟩ := hQ vals w' os hls hF (fun j oj d hj hji hdj => by
      have h := hlast j (by simpa using (List.getElem?_eq_some_iff.1 hj).1)
      simp only [Bool.or_eq_true, beq_iff_eq, List.contains_iff_mem] at h
      exact hfacts j oj d hj hdj (hwaits j (h.resolve_left hji)))
    rw [if_pos h1]
    refine Oper.wp_mono (fun a'' w'' h => hK _ _ ⟨fun _ => ⟨fun j hj => ?_, h⟩, fun hx => ?_⟩) h2
    · unfold opDone
      split
      · rfl
      · rename_i hne
        have h := hlast j (by simpa using hj)
        simp only [Bool.or_eq_true, beq_iff_eq, List.contains_iff_mem] at h
        exact hwaits j (h.resolve_left hne)
    · unfold opDone at hx
      rw [if_pos rfl] at hx
      cases hx
  · obtain ⟨h1, h2⟩ := hs i o ho his vals w' hF (fun d hd => by
      unfold depSlots at hd
      rw [List.mem_filterMap] at hd
      obtain ⟨k, hk, hb⟩ := hd
      cases hlk : l[k]? with
      | none => rw [hlk] at hb; cases hb
      | some ok =>
        rw [hlk] at hb
        exact hfacts k ok d hlk hb (hwaits k hk))
    rw [if_pos h1]
    refine Oper.wp_mono (fun a'' w'' ⟨v, k1, k2, k3⟩ => ?_) h2
    subst k1
    refine hK _ _ ⟨fun hx => ?_, fun _ => ?_⟩
    · unfold opDone at hx
      rw [if_neg (fun e => his e.symm), hLs] at hx
      cases hx
    cases hdst : o.dst with
    | none =>
      refine ⟨vals, rfl, hF.trans' k3, fun j oj d hj hdj hLjd => ?_⟩
      by_cases hji : j = i
      · subst hji; rw [ho] at hj; cases hj; rw [hdst] at hdj; cases hdj
      · unfold opDone at hLjd
        rw [if_neg hji] at hLjd
        exact hmono _ _ _ _ k3 (hfacts j oj d hj hdj hLjd)
    | some d0 =>
      refine ⟨upd vals d0 v, frm_put a _ vals d0 v (hmemd i o d0 ho hdst), hF.trans' k3, fun j oj d hj hdj hLjd => ?_⟩
      by_cases hji : j = i
      · subst hji
        rw [ho] at hj; cases hj
        rw [hdst] at hdj; cases hdj
        unfold upd
        rw [if_pos rfl]
        exact k2 _ hdst
      · have hne : d ≠ d0 := fun e => by
          subst e
          exact hji (dst_inj l hnd j i oj o d hj ho hdj hdst)
        unfold upd
        rw [if_neg hne]
        unfold opDone at hLjd
        rw [if_neg hji] at hLjd
        exact hmono _ _ _ _ k3 (hfacts j oj d hj hdj hLjd)
end
section
variable {P : Program} {Q : Exit → Act → World → Prop} {l : List Oper} {F : Nat → Value → World → Prop} {a : Act} {w0 : World} {i : Nat} {o : Oper}
theorem op_of (ho : l[i]? = some o) {d : Option Tmp} {p : Op} {g : Option (Nat × Bool)} (h : (l[i]?).map (fun o => (o.dst, o.op, o.guard)) = some (d, p, g)) : o.dst = d ∧ o.op = p ∧ o.guard = g := by
  rw [ho] at h
  simp only [Option.map_some, Option.some.injEq, Prod.mk.injEq] at h
  exact h
/-- slot k is one that o waits for -/
structure Dep (l : List Oper) (a : Act) (o : Oper) (k : Nat) : Prop where
  mem : k ∈ dsts l
  lt : k < a.tmps.size
  dep : k ∈ depSlots l o
theorem Dep.eval {vals : Nat → Value} {k : Nat} (h : Dep l a o k) : (frm a (dsts l) vals).eval (.tmp k) = vals k := frm_eval a _ vals k h.mem h.lt
def depBi (l : List Oper) (n i k : Nat) : Bool := match l[i]? with
  | some o => (dsts l).contains k && decide (k < n) && (depSlots l o).contains k
  | none => false
theorem Dep.at {n k : Nat} (hn : a.tmps.size = n) (ho : l[i]? = some o) (h : depBi l n i k = true) : Dep l a o k := by
  unfold depBi at h
  rw [ho] at h
  simp only [Bool.and_eq_true, decide_eq_true_eq, List.contains_iff_mem] at h
  exact ⟨h.1.1, by rw [hn]; exact h.1.2, h.2⟩
/-- it yields a value, and makes memory at most -/
theorem turns (hg : o.guard = none) (d : Nat) (hd : o.dst = some d) (h : ∀ (vals : Nat → Value) (w' : World), Fr0 w0 w' → (∀ d ∈ depSlots l o, F d (vals d) w') →
    ∃ u w'', (execOp (frm a (dsts l) vals).eval o).run P w' = .ok (.value u) w'' ∧ F d u w'' ∧ Fr0 w' w'') : Step P l Q F a w0 o :=
  fun vals w' hF hdep => by
    obtain ⟨u, w'', h1, h2, h3⟩ := h vals w' hF hdep
    refine ⟨by simp [Region.wanted, hg], ?_⟩
    unfold Oper.wp
    rw [h1]
    exact ⟨u, rfl, fun d' hd' => by rw [hd] at hd'; cases hd'; exact h2, h3⟩
/-- a call of a Go function -/
theorem call (hg : o.guard = none) (d : Nat) (hd : o.dst = some d) (f : FuncId) (xs : Array Operand) (ts : Array TypeId) (ho : o.op = .call { callee := .value (.func f), args := xs, argTypes := ts }) (fn : Func) (hfn : P.funcs[f]? = some fn) (hnm : (fn.name == "runtime.NumGoroutine") = false) (hbd : fn.body.isSome = true)
    (h : ∀ (vals : Nat → Value) (w' : World), Fr0 w0 w' → (∀ d ∈ depSlots l o, F d (vals d) w') → Calls P f (xs.map (frm a (dsts l) vals).eval) w' fun e w'' => ∃ u, e = .returned u ∧ F d u w'' ∧ Fr0 w' w'') : Step P l Q F a w0 o :=
  fun vals w' hF hdep => by
    have hc := h vals w' hF hdep
    refine ⟨by simp [Region.wanted, hg], ?_⟩
    unfold Oper.wp
    have he : (execOp (frm a (dsts l) vals).eval o).run P w' = .ok (.enter f (xs.map (frm a (dsts l) vals).eval)) w' := by
      obtain ⟨c, hc'⟩ := Option.isSome_iff_exists.1 hbd
      have hnm' : fn.name ≠ "runtime.NumGoroutine" := by simpa using hnm
      simp [execOp, ho, resolve, invoke, Act.eval, Deferred.ofValue, callFunc, hfn, hnm', hc']
    rw [he]
    exact hc.mono fun e w'' ⟨u, he, hu, hf⟩ => by
      subst he
      exact ⟨u, rfl, fun d' hd' => by rw [hd] at hd'; cases hd'; exact hu, hf⟩
/-- the last one stores a whole row into a block -/
theorem store (os : Oper) (hd : os.dst = none) (hg : os.guard = none) (ty : TypeId) (x y : Operand) (hop : os.op = .store ty x y) (vals : Nat → Value) (w' : World) (g : Nat) (cells old : Array Value) (t : TypeId) (hx : (frm a (dsts l) vals).eval x = .pointer (some ⟨g, 0, none⟩)) (hy : (frm a (dsts l) vals).eval y = .agg cells)
    (hr : w'.heap[g]? = some (.cells old t (0, 0))) (hi : (P.info? ty).map (·.size) = some cells.size) (hsz : old.size = cells.size) (h1 : cells.all (·.oneCell') = true) (hQ : Q .normal (frm a (dsts l) vals) (w'.setRow g cells)) :
    Region.wanted os (yielded l.toArray (frm a (dsts l) vals).tmps) = true ∧ Oper.wp P os (frm a (dsts l) vals) w' (fun a'' w'' => Q .normal a'' w'') Q := by
  refine ⟨by simp [Region.wanted, hg], ?_⟩
  unfold Oper.wp execOp
  simp only [hop, hx, hy, Instr.storeAt, Instr.sureAddr, Sem.run_bind, Sem.run_pure, Result.andThen_ok, run_storeVar_row w' g t ty old cells hr hi hsz h1]
  simp only [Oper.upon, hd]
  exact hQ
/-- it is carried out -/
def Want (l : List Oper) (F : Nat → Value → World → Prop) (a : Act) (o : Oper) : Prop := ∀ (vals : Nat → Value) (w : World), (∀ d ∈ depSlots l o, F d (vals d) w) → Region.wanted o (yielded l.toArray (frm a (dsts l) vals).tmps) = true
theorem Want.plain (h : o.guard = none) : Want l F a o := fun _ _ _ => by simp [Region.wanted, h]
theorem Want.dep (j : Nat) (b : Bool) (d : Nat) (h : o.guard = some (j, b)) (hj : (l[j]?).bind (·.dst) = some d) (D : Dep l a o d) (hF : ∀ v w, F d v w → v = .bool b) : Want l F a o := fun vals w hd => by
  have hv := hF _ _ (hd d D.dep)
  unfold Region.wanted yielded
  rw [h]
  simp only [List.getElem?_toArray, hj, Option.bind_some]
  have : (frm a (dsts l) vals).tmps[d]? = some (vals d) := by
    unfold frm
    simp only [Array.getElem?_mapIdx]
    rw [Array.getElem?_eq_getElem D.lt]
    simp only [Option.map_some]
    rw [if_pos (by simpa using D.mem)]
  rw [this, hv]
  simp
/-- it yields a value, and makes memory at most -/
theorem valueW (hw : Want l F a o) (d : Nat) (hd : o.dst = some d) (h : ∀ (vals : Nat → Value) (w' : World), Fr0 w0 w' → (∀ d ∈ depSlots l o, F d (vals d) w') →
    ∃ u w'', (execOp (frm a (dsts l) vals).eval o).run P w' = .ok (.value u) w'' ∧ F d u w'' ∧ Fr0 w' w'') : Step P l Q F a w0 o :=
  fun vals w' hF hdep => by
    obtain ⟨u, w'', h1, h2, h3⟩ := h vals w' hF hdep
    refine ⟨hw vals w' hdep, ?_⟩
    unfold Oper.wp
    rw [h1]
    exact ⟨u, rfl, fun d' hd' => by rw [hd] at hd'; cases hd'; exact h2, h3⟩
/-- it yields u, and leaves the world alone -/
theorem isW (hw : Want l F a o) (d : Nat) (hd : o.dst = some d) (u : Value) (hu : ∀ w, F d u w) (h : ∀ (vals : Nat → Value) (w' : World), Fr0 w0 w' → (∀ d ∈ depSlots l o, F d (vals d) w') → (execOp (frm a (dsts l) vals).eval o).run P w' = .ok (.value u) w') : Step P l Q F a w0 o :=
  valueW hw d hd fun vals w' hF hdep => ⟨u, w', h vals w' hF hdep, hu w', Fr.refl _ _⟩
/-- a call of a Go function -/
theorem callW (hw : Want l F a o) (d : Nat) (hd : o.dst = some d) (f : FuncId) (xs : Array Operand) (ts : Array TypeId) (ho : o.op = .call { callee := .value (.func f), args := xs, argTypes := ts }) (fn : Func) (hfn : P.funcs[f]? = some fn) (hnm : (fn.name == "runtime.NumGoroutine") = false) (hbd : fn.body.isSome = true)
    (h : ∀ (vals : Nat → Value) (w' : World), Fr0 w0 w' → (∀ d ∈ depSlots l o, F d (vals d) w') → Calls P f (xs.map (frm a (dsts l) vals).eval) w' fun e w'' => ∃ u, e = .returned u ∧ F d u w'' ∧ Fr0 w' w'') : Step P l Q F a w0 o :=
  fun vals w' hF hdep => by
    have hc := h vals w' hF hdep
    refine ⟨hw vals w' hdep, ?_⟩
    unfold Oper.wp
    have he : (execOp (frm a (dsts l) vals).eval o).run P w' = .ok (.enter f (xs.map (frm a (dsts l) vals).eval)) w' := by
      obtain ⟨c, hc'⟩ := Option.isSome_iff_exists.1 hbd
      have hnm' : fn.name ≠ "runtime.NumGoroutine" := by simpa using hnm
      simp [execOp, ho, resolve, invoke, Act.eval, Deferred.ofValue, callFunc, hfn, hnm', hc']
    rw [he]
    exact hc.mono fun e w'' ⟨u, he, hu, hf⟩ => by
      subst he
      exact ⟨u, rfl, fun d' hd' => by rw [hd] at hd'; cases hd'; exact hu, hf⟩
/-- all of them only make memory -/
theorem regionAll {id : Nat} {w : World} (F : Nat → Value → World → Prop) (hmono : ∀ d v w w', Fr0 w w' → F d v w → F d v w') (hm : P.follows .mixedOrders = true) (hl : lexical l = true) (hd : dstsOk l a.tmps.size = true)
    (hs : ∀ (i : Nat) (o : Oper), l[i]? = some o → Step P l Q F a w.drew o)
    (hQ : ∀ (vals : Nat → Value) (w' : World), Fr0 w.drew w' → (∀ (i : Nat) (o : Oper) (d : Nat), l[i]? = some o → o.dst = some d → F d (vals d) w') → Q .normal (frm a (dsts l) vals) w') : (Code.region id l.toArray true).wp P Q a w := by
  unfold dstsOk at hd
  simp only [Bool.and_eq_true, decide_eq_true_eq] at hd
  obtain ⟨hnd, _⟩ := hd
  have hmemd : ∀ (i : Nat) (o : Oper) (d : Nat), l[i]? = some o → o.dst = some d → d ∈ dsts l := fun i o d ho hdst => by
    unfold dsts
    rw [List.mem_filterMap]
    exact ⟨o, List.mem_of_getElem? ho, hdst⟩
  refine region_inv (fun L a' w' => ∃ vals, a' = frm a (dsts l) vals ∧ Fr0 w.drew w' ∧ ∀ (i : Nat) (o : Oper) (d : Nat), l[i]? = some o → o.dst = some d → L i = true → F d (vals d) w') hm hl
    ⟨fun j => a.tmps.getD j undef, (frm_start a _).symm, Fr.refl _ _, fun i o d _ _ h => by simp at h⟩ (fun i o ho L a' w' hL hw hI K hK => ?_) (fun L a' w' hall hI => ?_)
  · have hwaits : ∀ k ∈ waits o, L k = true := fun k hk => by
      unfold waits at hk
      rw [List.mem_map] at hk
      obtain ⟨e, he, rfl⟩ := hk
      rw [List.mem_filter] at he
      exact hw e he.1 he.2
    obtain ⟨vals, rfl, hF, hfacts⟩ := hI
    obtain ⟨h1, h2⟩ := hs i o ho vals w' hF (fun d hd => by
      unfold depSlots at hd
      rw [List.mem_filterMap] at hd
      obtain ⟨k, hk, hb⟩ := hd
      cases hlk : l[k]? with
      | none => rw [hlk] at hb; cases hb
      | some ok =>
        rw [hlk] at hb
        exact hfacts k ok d hlk hb (hwaits k hk))
    rw [if_pos h1]
    refine Oper.wp_mono (fun a'' w'' ⟨v, k1, k2, k3⟩ => ?_) h2
    subst k1
    cases hdst : o.dst with
    | none =>
      refine hK _ _ ⟨vals, rfl, hF.trans' k3, fun j oj d hj hdj hLjd => ?_⟩
      by_cases hji : j = i
      · subst hji; rw [ho] at hj; cases hj; rw [hdst] at hdj; cases hdj
      · unfold opDone at hLjd
        rw [if_neg hji] at hLjd
        exact hmono _ _ _ _ k3 (hfacts j oj d hj hdj hLjd)
    | some d0 =>
      refine hK _ _ ⟨upd vals d0 v, frm_put a _ vals d0 v (hmemd i o d0 ho hdst), hF.trans' k3, fun j oj d hj hdj hLjd => ?_⟩
      by_cases hji : j = i
      · subst hji
        rw [ho] at hj; cases hj
        rw [hdst] at hdj; cases hdj
        unfold upd
        rw [if_pos rfl]
        exact k2 _ hdst
      · have hne : d ≠ d0 := fun e => by
          subst e
          exact hji (dst_inj l hnd j i oj o d hj ho hdj hdst)
        unfold upd
        rw [if_neg hne]
        unfold opDone at hLjd
        rw [if_neg hji] at hLjd
        exact hmono _ _ _ _ k3 (hfacts j oj d hj hdj hLjd)
  · obtain ⟨vals, rfl, hF, hfacts⟩ := hI
    exact hQ vals w' hF (fun i o d ho hdd => hfacts i o d ho hdd (hall i (List.getElem?_eq_some_iff.1 ho).1))
end
end Loose
end Go.Proofs.YtbiokogihimboaaDoor.Base
