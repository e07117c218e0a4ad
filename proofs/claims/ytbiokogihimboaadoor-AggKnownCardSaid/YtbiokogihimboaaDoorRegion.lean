/-
  A region that draws its order, by an invariant: what holds when a set L of its operations has been carried out; one obligation an operation, whatever the orders.
-/
import Derived.Test.YtbiokogihimboaaDoorHeld
namespace Go.Proofs.YtbiokogihimboaaDoor.Base
open Go.RowKit

/-- each operation waits only for operations before it -/
def lexical (l : List Oper) : Bool := (List.range l.length).all fun i => match l[i]? with
  | some o => o.after.all fun e => !Region.binds .any e || decide (e.on < i)
  | none => true
def opDone (L : Nat → Bool) (i : Nat) : Nat → Bool := fun j => if j = i then true else L j

section
variable {P : Program} {l : List Oper} {Q : Exit → Act → World → Prop}
theorem all_listed (hl : lexical l = true) (listed : Array Bool) (hr : Region.ready .any l.toArray listed = []) (hsz : listed.size = l.length) : ∀ n i, i < n → i < l.length → listed.getD i false = true := by
  intro n
  induction n with
  | zero => intro i h; omega
  | succ n ih =>
    intro i h1 h2
    by_cases hb : listed.getD i false = true
    · exact hb
    · exfalso
      have hget : listed.getD i true = false := by
        simp only [Array.getD_eq_getD_getElem?] at hb ⊢
        rw [Array.getElem?_eq_getElem (by omega)] at hb ⊢
        simpa using hb
      have hdep : ∀ o, l[i]? = some o → ∀ e ∈ o.after.toList, Region.binds .any e = true → listed.getD e.on false = true := by
        intro o ho e he hbd
        have hx := hl
        unfold lexical at hx
        rw [List.all_eq_true] at hx
        have hx2 := hx i (by simpa using h2)
        rw [ho] at hx2
        simp only [Array.all_eq_true_iff_forall_mem] at hx2
        have hx3 := hx2 e (by simpa using he)
        rw [hbd] at hx3
        simp at hx3
        exact ih e.on (by omega) (by omega)
      have hmem : i ∈ Region.ready .any l.toArray listed := by
        unfold Region.ready
        rw [List.mem_filter]
        refine ⟨by simpa using h2, ?_⟩
        rw [hget]
        obtain ⟨o, ho⟩ : ∃ o, l[i]? = some o := ⟨l[i], List.getElem?_eq_getElem h2⟩
        have ho' : l.toArray[i]? = some o := by simpa using ho
        rw [ho']
        simp only [Bool.not_false, Bool.true_and, Option.map_some, Option.getD_some]
        rw [Array.all_eq_true_iff_forall_mem]
        intro e he
        by_cases hbd : Region.binds .any e = true
        · rw [hbd, hdep o ho e (by simpa using he) hbd]; rfl
        · simp at hbd; simp [hbd]
      rw [hr] at hmem
      simp at hmem
theorem wpAny_inv (I : (Nat → Bool) → Act → World → Prop) (hl : lexical l = true)
    (hs : ∀ (i : Nat) (o : Oper), l[i]? = some o → ∀ (L : Nat → Bool) (a' : Act) (w' : World), L i = false → (∀ e ∈ o.after.toList, Region.binds .any e = true → L e.on = true) → I L a' w' →
      ∀ K : Act → World → Prop, (∀ a'' w'', I (opDone L i) a'' w'' → K a'' w'') → if Region.wanted o (yielded l.toArray a'.tmps) = true then Oper.wp P o a' w' K Q else K (a'.put o.dst undef) w')
    (hd : ∀ (L : Nat → Bool) (a' : Act) (w' : World), (∀ i, i < l.length → L i = true) → I L a' w' → Q .normal a' w') :
    ∀ (fuel : Nat) (listed : Array Bool) (a : Act) (w : World), listed.size = l.length → listed.count false ≤ fuel → I (fun j => listed.getD j false) a w → wpAny P .any l.toArray Q fuel listed a w
  | 0, listed, a, w, hsz, hc, hI => by
    have hall : ∀ i, i < l.length → listed.getD i false = true := by
      intro i hi
      have h0 : listed.count false = 0 := by omega
      rw [Array.count_eq_zero] at h0
      rw [Array.getD_eq_getD_getElem?, Array.getElem?_eq_getElem (by omega)]
      simp only [Option.getD_some]
      cases hb : listed[i]'(by omega) with
      | true => rfl
      | false => exact absurd (hb ▸ Array.getElem_mem _) h0
    refine ⟨?_, hd _ a w hall hI⟩
    unfold Region.ready
    rw [List.filter_eq_nil_iff]
    intro i hi
    have hi' : i < l.length := by simpa using hi
    have := hall i hi'
    rw [Array.getD_eq_getD_getElem?, Array.getElem?_eq_getElem (by omega)] at this ⊢
    simp only [Option.getD_some] at this ⊢
    simp [this]
  | fuel + 1, listed, a, w, hsz, hc, hI => by
    refine ⟨fun hr => hd _ a w (fun i hi => all_listed hl listed hr hsz (i + 1) i (by omega) hi) hI, fun i hi => ?_⟩
    unfold Region.ready at hi
    rw [List.mem_filter] at hi
    obtain ⟨hi1, hi2⟩ := hi
    have hil : i < l.length := by simpa using hi1
    have ho : l[i]? = some l[i] := List.getElem?_eq_getElem hil
    have ho' : l.toArray[i]? = some l[i] := by simp [hil]
    rw [ho'] at hi2
    simp only [Option.map_some, Option.getD_some, Bool.and_eq_true, Bool.not_eq_true'] at hi2
    obtain ⟨h1, h2⟩ := hi2
    have hLi : listed.getD i false = false := by
      rw [Array.getD_eq_getD_getElem?, Array.getElem?_eq_getElem (by omega)] at h1 ⊢
      simpa using h1
    refine wpOp_step ho' (fun K hK => hs i _ ho _ a w hLi (fun e he hbd => ?_) hI K (fun a'' w'' hI' => hK _ _ ?_))
    · rw [Array.all_eq_true_iff_forall_mem] at h2
      have := h2 e (by simpa using he)
      rw [hbd] at this
      simpa using this
    · refine wpAny_inv I hl hs hd fuel _ a'' w'' (by simpa using hsz) ?_ ?_
      · have hg : listed[i]'(by omega) = false := by
          rw [Array.getD_eq_getD_getElem?, Array.getElem?_eq_getElem (by omega)] at hLi
          simpa using hLi
        rw [Array.setIfInBounds, dif_pos (by omega), Array.count_set]
        rw [hg]
        simp
        omega
      · have : (fun j => (listed.setIfInBounds i true).getD j false) = opDone (fun j => listed.getD j false) i := by
          funext j
          unfold opDone
          simp only [Array.getD_eq_getD_getElem?]
          by_cases h : j = i
          · subst h; rw [if_pos rfl, Array.getElem?_setIfInBounds_self_of_lt (by omega)]; rfl
          · rw [if_neg h, Array.getElem?_setIfInBounds_ne (by omega)]
        rw [this]
        exact hI'
/-- the law -/
theorem region_inv {id : Nat} {a : Act} {w : World} (I : (Nat → Bool) → Act → World → Prop) (hm : P.follows .mixedOrders = true) (hl : lexical l = true) (h0 : I (fun _ => false) a w.drew)
    (hs : ∀ (i : Nat) (o : Oper), l[i]? = some o → ∀ (L : Nat → Bool) (a' : Act) (w' : World), L i = false → (∀ e ∈ o.after.toList, Region.binds .any e = true → L e.on = true) → I L a' w' →
      ∀ K : Act → World → Prop, (∀ a'' w'', I (opDone L i) a'' w'' → K a'' w'') → if Region.wanted o (yielded l.toArray a'.tmps) = true then Oper.wp P o a' w' K Q else K (a'.put o.dst undef) w')
    (hd : ∀ (L : Nat → Bool) (a' : Act) (w' : World), (∀ i, i < l.length → L i = true) → I L a' w' → Q .normal a' w') : (Code.region id l.toArray true).wp P Q a w := by
  refine wp_region_any hm (wpAny_inv I hl hs hd _ _ _ _ (by simp) (by simp [Array.count_replicate]) ?_)
  have : (fun j => (Array.replicate l.toArray.size false).getD j false) = fun _ => false := by
    funext j
    rw [Array.getD_eq_getD_getElem?, Array.getElem?_replicate]
    split <;> rfl
  rw [this]
  exact h0
/-- the operations that o waits for -/
def waits (o : Oper) : List Nat := (o.after.toList.filter (Region.binds .any)).map (·.on)
/-- what has been carried out has all behind it that it waits for -/
def Closed (l : List Oper) (L : Nat → Bool) : Prop := ∀ (i : Nat) (o : Oper), l[i]? = some o → L i = true → ∀ k ∈ waits o, L k = true
/-- one obligation an operation -/
def Steps (P : Program) (l : List Oper) (Q : Exit → Act → World → Prop) (I : (Nat → Bool) → Act → World → Prop) : Nat → List Oper → Prop
  | _, [] => True
  | i, o :: rest => (∀ (L : Nat → Bool) (a' : Act) (w' : World), L i = false → Closed l L → (∀ k ∈ waits o, L k = true) → I L a' w' → ∀ K : Act → World → Prop, (∀ a'' w'', I (opDone L i) a'' w'' → K a'' w'') →
      if Region.wanted o (yielded l.toArray a'.tmps) = true then Oper.wp P o a' w' K Q else K (a'.put o.dst undef) w') ∧ Steps P l Q I (i + 1) rest
theorem Steps.get {I : (Nat → Bool) → Act → World → Prop} : ∀ (m : List Oper) (n : Nat), Steps P l Q I n m → ∀ (i : Nat) (o : Oper), m[i]? = some o → ∀ (L : Nat → Bool) (a' : Act) (w' : World), L (n + i) = false → Closed l L → (∀ k ∈ waits o, L k = true) → I L a' w' →
      ∀ K : Act → World → Prop, (∀ a'' w'', I (opDone L (n + i)) a'' w'' → K a'' w'') → if Region.wanted o (yielded l.toArray a'.tmps) = true then Oper.wp P o a' w' K Q else K (a'.put o.dst undef) w'
  | [], _, _, i, o, h => by simp at h
  | x :: m, n, hS, 0, o, h => by
    simp at h; subst h
    exact hS.1
  | x :: m, n, hS, i + 1, o, h => by
    have := Steps.get m (n + 1) hS.2 i o (by simpa using h)
    rw [show n + 1 + i = n + (i + 1) from by omega] at this
    exact this
theorem region_steps {id : Nat} {a : Act} {w : World} (I : (Nat → Bool) → Act → World → Prop) (hm : P.follows .mixedOrders = true) (hl : lexical l = true) (h0 : I (fun _ => false) a w.drew) (hs : Steps P l Q I 0 l)
    (hd : ∀ (L : Nat → Bool) (a' : Act) (w' : World), (∀ i, i < l.length → L i = true) → I L a' w' → Q .normal a' w') : (Code.region id l.toArray true).wp P Q a w :=
  region_inv (fun L a w => Closed l L ∧ I L a w) hm hl ⟨fun i o _ h => absurd h (by simp), h0⟩ (fun i o ho L a' w' hL hw hI K hK => by
    have := Steps.get l 0 hs i o ho L a' w'
    rw [Nat.zero_add] at this
    have hdep : ∀ k ∈ waits o, L k = true := fun k hk => by
      unfold waits at hk
      rw [List.mem_map] at hk
      obtain ⟨e, he, rfl⟩ := hk
      rw [List.mem_filter] at he
      exact hw e he.1 he.2
    refine this hL hI.1 hdep hI.2 K (fun a'' w'' h => hK _ _ ⟨fun j o' ho' hj k hk => ?_, h⟩)
    unfold opDone at hj ⊢
    by_cases hki : k = i
    · rw [if_pos hki]
    · rw [if_neg hki]
      by_cases hji : j = i
      · subst hji
        rw [ho] at ho'
        cases ho'
        exact hdep k hk
      · rw [if_neg hji] at hj
        exact hI.1 j o' ho' hj k hk) (fun L a' w' hall h => hd L a' w' hall h.2)
/-- steps of usual kinds -/
theorem step_load_row {ops : Array Oper} {o : Oper} {a : Act} {w : World} {K : Act → World → Prop} {E : Prop} (hgd : o.guard = none) (ty : TypeId) (x : Operand) (ho : o.op = .load ty x) (g : Nat) (hx : a.eval x = .pointer (some ⟨g, 0, none⟩)) (t : TypeId) (cs : Array Value) (fr : Nat × Nat) (d : TypeDesc)
    (hg : w.heap[g]? = some (.cells cs t fr)) (hu : P.underlying ty = some d) (hd : (match d with | .struct _ | .array _ _ => true | _ => false) = true) (hi : (P.info? ty).map (·.size) = some cs.size)
    (h : K (a.put o.dst (.agg cs)) w) : if Region.wanted o (yielded ops a.tmps) = true then Oper.wp P o a w K Q else E := by
  rw [if_pos (by simp [Region.wanted, hgd])]
  exact wp_load_row ty x ho g hx t cs fr d hg hu hd hi h
theorem step_store_row {ops : Array Oper} {o : Oper} {a : Act} {w : World} {K : Act → World → Prop} {E : Prop} (hgd : o.guard = none) (ty : TypeId) (x y : Operand) (ho : o.op = .store ty x y) (g : Nat) (cells : Array Value) (hx : a.eval x = .pointer (some ⟨g, 0, none⟩)) (hy : a.eval y = .agg cells) (t : TypeId) (old : Array Value)
    (hg : w.heap[g]? = some (.cells old t (0, 0))) (hi : (P.info? ty).map (·.size) = some cells.size) (hsz : old.size = cells.size) (h1 : cells.all (·.oneCell') = true)
    (h : K (a.put o.dst undef) (w.setRow g cells)) : if Region.wanted o (yielded ops a.tmps) = true then Oper.wp P o a w K Q else E := by
  rw [if_pos (by simp [Region.wanted, hgd])]
  unfold Oper.wp execOp
  simp only [ho, hx, hy, Instr.storeAt, Instr.sureAddr, Sem.run_bind, Sem.run_pure, Result.andThen_ok, run_storeVar_row w g t ty old cells hg hi hsz h1]
  exact h
theorem step_alloc {ops : Array Oper} {o : Oper} {a : Act} {w : World} {K : Act → World → Prop} {E : Prop} (hgd : o.guard = none) (ty : TypeId) (ho : o.op = .alloc ty) (z : Value) (hz : ∀ w, (zeroValue ty).run P w = .ok z w)
    (h : K (a.put o.dst (.pointer (some ⟨w.heap.size, 0, none⟩))) (w.alloc (.cells z.cells ty))) : if Region.wanted o (yielded ops a.tmps) = true then Oper.wp P o a w K Q else E := by
  rw [if_pos (by simp [Region.wanted, hgd])]
  unfold Oper.wp execOp
  simp [ho, hz, go_sem]
  exact h
theorem step_value {ops : Array Oper} {o : Oper} {a : Act} {w : World} {K : Act → World → Prop} {E : Prop} (hgd : o.guard = none) (v : Value) (w1 : World) (hv : (execOp a.eval o).run P w = .ok (.value v) w1) (h : K (a.put o.dst v) w1) :
    if Region.wanted o (yielded ops a.tmps) = true then Oper.wp P o a w K Q else E := by
  rw [if_pos (by simp [Region.wanted, hgd])]
  unfold Oper.wp
  rw [hv]
  exact h
theorem step_call {ops : Array Oper} {o : Oper} {a : Act} {w : World} {K : Act → World → Prop} {E : Prop} (hgd : o.guard = none) (f : FuncId) (args : Array Value) (he : (execOp a.eval o).run P w = .ok (.enter f args) w) (v : Value) (C : World → Prop)
    (hc : Calls P f args w fun e w' => e = .returned v ∧ C w') (h : ∀ w', C w' → K (a.put o.dst v) w') : if Region.wanted o (yielded ops a.tmps) = true then Oper.wp P o a w K Q else E := by
  rw [if_pos (by simp [Region.wanted, hgd])]
  unfold Oper.wp
  rw [he]
  exact hc.mono fun e w' ⟨he, hw'⟩ => by subst he; exact h _ hw'
end
end Go.Proofs.YtbiokogihimboaaDoor.Base
