/-
  A region that draws its order, some of whose operations turn the memory, each waiting for those before it: ONE walk, in an order told as a list of numbers, serves every order. No program stands here.
  Three kinds of operations: one that turns (in the walk nothing else can come up when it does); one that reads the world at hand (each that turns later waits for it); all others: they yield one value in every world of the class C, which every turn stays in.
-/
import Derived.Still
import Derived.StillTail
import Derived.StillTactics
import Derived.Tactics
import Derived.KernelRfl
import Derived.WalkKit
import Derived.Laws.Rows
namespace Go.Proofs.Ytnglmkombogheaa.Base
namespace Mix

section
variable {P : Program} {ops : Array Oper} {md : Region.Mode} {C : World → Prop}

/-- it yields v, and leaves the world -/
def upTo (P : Program) (w : World) (v : Value) : Result Next → Prop
  | .ok (.value u) w' => w' = w ∧ u = v
  | .ok .skip w' => w' = w ∧ undef = v
  | .ok (.enter f args) w' => Calls P f args w' (fun e w'' => e = .returned v ∧ w'' = w)
  | .ok (.row r args) w' => Rows P r args w' (fun u w'' => u = v ∧ w'' = w)
  | _ => False
def gives (P : Program) (o : Oper) (a : Act) (w : World) (v : Value) : Prop := upTo P w v ((execOp a.eval o).run P w)
/-- one value in every world of the class -/
def sure (P : Program) (C : World → Prop) (o : Oper) (next : Act → Prop) (a : Act) : Prop := ∃ v, (∀ w, C w → gives P o a w v) ∧ next (a.put o.dst v)
/-- one value in this world, which stays -/
def look (P : Program) (o : Oper) (next : Act → Prop) (a : Act) (w : World) : Prop := ∃ v, gives P o a w v ∧ next (a.put o.dst v)
theorem gives.wp {o : Oper} {a : Act} {w : World} {v : Value} {K : Act → World → Prop} {Q : Exit → Act → World → Prop} (h : gives P o a w v) (hK : K (a.put o.dst v) w) : o.wp P a w K Q := by
  unfold gives at h
  unfold Oper.wp
  generalize (execOp a.eval o).run P w = r at *
  cases r with
  | ok n w' =>
    cases n <;> simp only [upTo] at h <;> simp only [Oper.upon]
    case value u => obtain ⟨rfl, rfl⟩ := h; exact hK
    case skip => obtain ⟨rfl, rfl⟩ := h; exact hK
    case enter f args => exact h.mono fun e w'' ⟨he, hw⟩ => by subst he; subst hw; exact hK
    case row r args => exact Rows.mono h fun u w'' ⟨he, hw⟩ => by subst he; subst hw; exact hK
  | halt x w' => simp only [upTo] at h
theorem gives_put {o : Oper} (hs : ∀ cs b, o.op ≠ .select cs b) {a : Act} {x : Option Tmp} {u v : Value} {w : World} (h : ∀ d, x = some d → d ∉ o.looksAt ops) : gives P o (a.put x u) w v = gives P o a w v := by
  unfold gives
  rw [execOp_put o hs a x u h]
theorem gives_value {o : Oper} {a : Act} {w : World} {v : Value} (h : (execOp a.eval o).run P w = .ok (.value v) w) : gives P o a w v := by
  unfold gives
  rw [h]
  exact ⟨rfl, rfl⟩
def Then (C : World → Prop) (K : Act → World → Prop) : Exit → Act → World → Prop := fun e a w => e = .normal ∧ C w ∧ K a w
def turn (P : Program) (ops : Array Oper) (C : World → Prop) (o : Oper) (K : Act → World → Prop) (a : Act) (w : World) : Prop := wpList P ops (Then C K) [o] a w
/-- the class behind turn i: none is asked behind the one that ends the region -/
def cls (fin : Option Nat) (C : World → Prop) (i : Nat) : World → Prop := fun w => fin = some i ∨ C w
/-- what number i is asked when it comes up -/
def step (P : Program) (ops : Array Oper) (fin : Option Nat) (C : World → Prop) (tn rd : List Nat) (i : Nat) (K : Act → World → Prop) (a : Act) (w : World) : Prop :=
  match ops[i]? with
  | none => K a w
  | some o =>
    if tn.contains i then turn P ops (cls fin C i) o K a w
    else if Region.wanted o (yielded ops a.tmps) then
      if rd.contains i then look P o (fun a' => K a' w) a w else sure P C o (fun a' => K a' w) a
    else K (a.put o.dst undef) w
/-- the walk -/
def walk (P : Program) (ops : Array Oper) (fin : Option Nat) (C : World → Prop) (tn rd : List Nat) (Q : Act → World → Prop) : List Nat → Act → World → Prop
  | [], a, w => Q a w
  | i :: rest, a, w => step P ops fin C tn rd i (walk P ops fin C tn rd Q rest) a w
/-- whatever order -/
def every (P : Program) (md : Region.Mode) (ops : Array Oper) (fin : Option Nat) (C : World → Prop) (tn rd : List Nat) (Q : Act → World → Prop) : Nat → Array Bool → Act → World → Prop
  | 0, listed, a, w => Region.ready md ops listed = [] ∧ Q a w
  | f + 1, listed, a, w => (Region.ready md ops listed = [] → Q a w) ∧ ∀ i ∈ Region.ready md ops listed, step P ops fin C tn rd i (every P md ops fin C tn rd Q f (listed.setIfInBounds i true)) a w

theorem upon_nope {o : Oper} {a : Act} {w : World} {K K' : Act → World → Prop} {X : Exit → Act → World → Prop} {Q : Exit → Act → World → Prop} (hX : ∀ c a w, ¬ X (.panic c) a w) (hL : ¬ LetsOut X) (h : ∀ a w, K a w → K' a w) (hh : o.wp P a w K X) : o.wp P a w K' Q := by
  unfold Oper.wp at *
  generalize (execOp a.eval o).run P w = r at *
  cases r with
  | ok n w' =>
    cases n <;> simp only [Oper.upon] at hh ⊢ <;>
      first
        | exact h _ _ hh
        | exact Calls.mono hh (fun e w'' he => by
            cases e with
            | returned v => exact h _ _ he
            | panicked c => exact absurd he (hX _ _ _)
            | outgrown => exact absurd he hL)
        | exact Rows.mono hh (fun _ _ he => h _ _ he)
  | halt x w' =>
    cases x <;> simp only [Oper.upon] at hh ⊢
    case panic v => exact absurd hh (hX _ _ _)
theorem then_panic {K : Act → World → Prop} (c : _) (a : Act) (w : World) : ¬ Then C K (.panic c) a w := fun h => by cases h.1
theorem then_out {K : Act → World → Prop} : ¬ LetsOut (Then C K) := fun ⟨a, w, h⟩ => by cases h.1
/-- a turn, told by the operation alone -/
theorem turn_iff {o : Oper} {K : Act → World → Prop} {a : Act} {w : World} (h : turn P ops C o K a w) :
    if Region.wanted o (yielded ops a.tmps) then o.wp P a w (fun a' w' => C w' ∧ K a' w') (fun _ _ _ => False) else C w ∧ K (a.put o.dst undef) w := by
  unfold turn wpList at h
  by_cases hw : Region.wanted o (yielded ops a.tmps) = true
  · rw [if_pos hw] at h ⊢
    rcases h with h | h
    · exact upon_nope then_panic then_out (fun a' w' h' => by unfold wpList at h'; exact h'.2) h
    · exact absurd h.2 then_out
  · rw [if_neg hw] at h ⊢
    unfold wpList at h
    exact h.2
theorem turn_of {o : Oper} {K : Act → World → Prop} {a : Act} {w : World} (h : if Region.wanted o (yielded ops a.tmps) then o.wp P a w (fun a' w' => C w' ∧ K a' w') (fun _ _ _ => False) else C w ∧ K (a.put o.dst undef) w) : turn P ops C o K a w := by
  unfold turn wpList
  by_cases hw : Region.wanted o (yielded ops a.tmps) = true
  · rw [if_pos hw] at h ⊢
    exact .inl (upon_nope (fun _ _ _ h => h) (fun ⟨_, _, h⟩ => h) (fun a' w' h' => by unfold wpList; exact ⟨rfl, h'⟩) h)
  · rw [if_neg hw] at h ⊢
    unfold wpList
    exact ⟨rfl, h⟩
theorem step_mono {fin : Option Nat} {tn rd : List Nat} {i : Nat} {K K' : Act → World → Prop} {a : Act} {w : World} (h : ∀ a w, K a w → K' a w) (hh : step P ops fin C tn rd i K a w) : step P ops fin C tn rd i K' a w := by
  unfold step at *
  split
  · rename_i ho; rw [ho] at hh; exact h _ _ hh
  · rename_i o ho
    rw [ho] at hh
    simp only at hh ⊢
    split
    · rename_i ht
      rw [if_pos ht] at hh
      refine turn_of ?_
      have := turn_iff hh
      split
      · rename_i hw; rw [if_pos hw] at this; exact Oper.wp_mono (fun a' w' ⟨h1, h2⟩ => ⟨h1, h _ _ h2⟩) this
      · rename_i hw; rw [if_neg hw] at this; exact ⟨this.1, h _ _ this.2⟩
    · rename_i ht
      rw [if_neg ht] at hh
      split
      · rename_i hw
        rw [if_pos hw] at hh
        split
        · rename_i hr; rw [if_pos hr] at hh; obtain ⟨v, h1, h2⟩ := hh; exact ⟨v, h1, h _ _ h2⟩
        · rename_i hr; rw [if_neg hr] at hh; obtain ⟨v, h1, h2⟩ := hh; exact ⟨v, h1, h _ _ h2⟩
      · rename_i hw; rw [if_neg hw] at hh; exact h _ _ hh
/-- it is one of the base's steps -/
theorem op_of_step {fin : Option Nat} {tn rd : List Nat} {i : Nat} {K K' : Act → World → Prop} {Q : Exit → Act → World → Prop} {a : Act} {w : World} (hC : tn.contains i = false → rd.contains i = false → C w) (ht : ∀ a w, tn.contains i = true → cls fin C i w → K a w → K' a w) (h : ∀ a, tn.contains i = false → K a w → K' a w) (hi : i < ops.size) (hh : step P ops fin C tn rd i K a w) : wpOp P ops Q i K' a w := by
  unfold step at hh
  unfold wpOp
  split
  · rename_i ho; rw [Array.getElem?_eq_getElem hi] at ho; cases ho
  · rename_i o ho
    rw [ho] at hh
    simp only at hh
    by_cases htn : tn.contains i = true
    · rw [if_pos htn] at hh
      have := turn_iff hh
      split
      · rename_i hw
        rw [if_pos hw] at this
        exact .inl (upon_nope (fun _ _ _ h => h) (fun ⟨_, _, h⟩ => h) (fun a' w' h' => ht _ _ htn h'.1 h'.2) this)
      · rename_i hw
        rw [if_neg hw] at this
        exact ht _ _ htn this.1 this.2
    · rw [if_neg htn] at hh
      have htf : tn.contains i = false := by simpa using htn
      split
      · rename_i hw
        rw [if_pos hw] at hh
        refine .inl ?_
        by_cases hr : rd.contains i = true
        · rw [if_pos hr] at hh
          obtain ⟨v, h1, h2⟩ := hh
          exact h1.wp (h _ htf h2)
        · rw [if_neg hr] at hh
          obtain ⟨v, h1, h2⟩ := hh
          exact (h1 w (hC htf (by simpa using hr))).wp (h _ htf h2)
      · rename_i hw
        rw [if_neg hw] at hh
        exact h _ htf hh
/-- number i, not yet carried out, may as well be carried out behind j -/
theorem step_put {fin : Option Nat} {tn rd : List Nat} {j : Nat} {oi oj : Oper} {v : Value} {Y : Act → World → Prop} (hj : ops[j]? = some oj) (hap : oi.apart ops oj = true)
    (hsi : ∀ cs b, oi.op ≠ .select cs b) (hsj : ∀ cs b, oj.op ≠ .select cs b)
    (hst : ∀ (a a' : Act) (w : World), execOp a'.eval oi = execOp a.eval oi → Region.wanted oi (yielded ops a'.tmps) = Region.wanted oi (yielded ops a.tmps) → Y a w → Y a' w)
    (ht : tn.contains j = true → ∀ a w w', Y a w → Y a w') {K : Act → World → Prop} {a : Act} {w : World}
    (hy : Y a w) (h : step P ops fin C tn rd j K (a.put oi.dst v) w) : step P ops fin C tn rd j (fun a' w' => Y a' w' ∧ K (a'.put oi.dst v) w') a w := by
  obtain ⟨h1, h2, h3⟩ := Oper.apart_spec hap
  have keep : ∀ (a : Act) (w : World) (u : Value), Y a w → Y (a.put oj.dst u) w := fun a w u hy => hst a _ w (execOp_put oi hsi a oj.dst u h3) (wanted_put oi a oj.dst u h3) hy
  have keepD : ∀ (a : Act) (w : World) d, Y a w → Y { a with defers := d :: a.defers } w := fun a w d hy => hst a _ w rfl rfl hy
  unfold step at *
  simp only [hj] at *
  by_cases htn : tn.contains j = true
  · rw [if_pos htn] at h ⊢
    refine turn_of ?_
    have := turn_iff h
    rw [wanted_put oj a oi.dst v h1] at this
    have ht' := ht htn
    split
    · rename_i hw
      rw [if_pos hw] at this
      unfold Oper.wp at *
      rw [execOp_put oj hsj a oi.dst v h1] at this
      generalize (execOp a.eval oj).run P w = r at *
      cases r with
      | ok n w' =>
        cases n <;> simp only [Oper.upon] at this ⊢
        case value u => exact ⟨this.1, keep a w' u (ht' _ _ _ hy), by rw [← Act.put_comm a v u h2]; exact this.2⟩
        case skip => exact ⟨this.1, keep a w' undef (ht' _ _ _ hy), by rw [← Act.put_comm a v undef h2]; exact this.2⟩
        case defer d =>
          refine ⟨this.1, keep _ w' undef (keepD _ _ d (ht' _ _ _ hy)), ?_⟩
          rw [← Act.put_comm _ v undef h2, ← Act.put_defers]
          exact this.2
        case enter f args =>
          refine Calls.mono this fun e w'' he => ?_
          cases e with
          | returned u => exact ⟨he.1, keep a w'' u (ht' _ _ _ hy), by rw [← Act.put_comm a v u h2]; exact he.2⟩
          | panicked c => exact he
          | outgrown => exact he
        case row row args => exact Rows.mono this fun u w'' he => ⟨he.1, keep a w'' u (ht' _ _ _ hy), by rw [← Act.put_comm a v u h2]; exact he.2⟩
      | halt x w' => cases x <;> simp only [Oper.upon] at this ⊢
    · rename_i hw
      rw [if_neg hw] at this
      exact ⟨this.1, keep a w undef hy, by rw [← Act.put_comm a v undef h2]; exact this.2⟩
  · rw [if_neg htn] at h ⊢
    rw [wanted_put oj a oi.dst v h1] at h
    split
    · rename_i hw
      rw [if_pos hw] at h
      by_cases hr : rd.contains j = true
      · rw [if_pos hr] at h ⊢
        obtain ⟨u, hu, hn⟩ := h
        exact ⟨u, by rwa [gives_put hsj h1] at hu, keep a w u hy, by rw [← Act.put_comm a v u h2]; exact hn⟩
      · rw [if_neg hr] at h ⊢
        obtain ⟨u, hu, hn⟩ := h
        exact ⟨u, fun w hw => by have := hu w hw; rwa [gives_put hsj h1] at this, keep a w u hy, by rw [← Act.put_comm a v u h2]; exact hn⟩
    · rename_i hw
      rw [if_neg hw] at h
      exact ⟨keep a w undef hy, by rw [← Act.put_comm a v undef h2]; exact h⟩
/-- who is carried out has all behind it that it waits for -/
def Shut (md : Region.Mode) (ops : Array Oper) (listed : Array Bool) : Prop := listed.size = ops.size ∧ ∀ j oj, ops[j]? = some oj → listed.getD j false = true → ∀ e ∈ oj.after, Region.binds md e = true → listed.getD e.on false = true
theorem Shut.set {listed : Array Bool} {i : Nat} (h : Shut md ops listed) (hi : i ∈ Region.ready md ops listed) : Shut md ops (listed.setIfInBounds i true) := by
  obtain ⟨_, oi, hoi, hall⟩ := mem_ready.1 hi
  refine ⟨by simp [h.1], fun j oj hj hl e he hb => ?_⟩
  by_cases hij : i = j
  · subst hij
    have : oj = oi := Option.some.inj (hj.symm.trans hoi)
    subst this
    exact getD_set_true (hall e he hb)
  · rw [getD_set_ne false hij] at hl
    exact getD_set_true (h.2 j oj hj hl e he hb)
/-- who waits for i, through whomever -/
def behind (md : Region.Mode) (ops : Array Oper) (i : Nat) : List Nat := (List.range ops.size).foldl (fun S k => if S.any (fun s => Region.waitsFor md ops k s) then k :: S else S) [i]
theorem behind_spec {listed : Array Bool} (hs : Shut md ops listed) {i : Nat} (hi : listed.getD i false = false) : ∀ s ∈ behind md ops i, listed.getD s false = false := by
  unfold behind
  have : ∀ (l : List Nat) (S : List Nat), (∀ s ∈ S, listed.getD s false = false) → ∀ s ∈ l.foldl (fun S k => if S.any (fun s => Region.waitsFor md ops k s) then k :: S else S) S, listed.getD s false = false := by
    intro l
    induction l with
    | nil => intro S h; exact h
    | cons k l ih =>
      intro S h
      rw [List.foldl_cons]
      refine ih _ fun s hsm => ?_
      split at hsm
      · rename_i hany
        rcases List.mem_cons.1 hsm with rfl | hsm
        · obtain ⟨t, ht, hw⟩ := List.any_eq_true.1 hany
          obtain ⟨oj, hoj, e, he, hb, hon⟩ := Region.waitsFor_spec hw
          cases hl : listed.getD s false with
          | false => rfl
          | true =>
            have h2 := hs.2 s oj hoj hl e he hb
            rw [hon, h t ht] at h2
            cases h2
        · exact h s hsm
      · exact h s hsm
  exact this _ _ (fun s hsm => by simp at hsm; subst hsm; exact hi)
def waitsB (md : Region.Mode) (ops : Array Oper) (i j : Nat) : Bool := (behind md ops i).any fun s => Region.waitsFor md ops j s
theorem not_ready {listed : Array Bool} (hs : Shut md ops listed) {i j : Nat} (hi : listed.getD i true = false) (h : waitsB md ops i j = true) : j ∉ Region.ready md ops listed := fun hr => by
  obtain ⟨_, ot, hot, hall⟩ := mem_ready.1 hr
  obtain ⟨s, hsm, hw⟩ := List.any_eq_true.1 h
  obtain ⟨oj, hoj, e, he, hb, hon⟩ := Region.waitsFor_spec hw
  have : oj = ot := Option.some.inj (hoj.symm.trans hot)
  subst this
  have h2 := hall e he hb
  rw [hon, behind_spec hs (getD_both hi) s hsm] at h2
  cases h2
/-- none that is to yield one value is carried out behind the turn that ends the region -/
def finB (md : Region.Mode) (ops : Array Oper) (fin : Option Nat) (tn rd : List Nat) : Bool := match fin with
  | some t => tn.contains t && (List.range ops.size).all fun i => tn.contains i || rd.contains i || waitsB md ops i t
  | none => true
theorem any_of_every {fin : Option Nat} {tn rd : List Nat} {Q : Act → World → Prop} {Q' : Exit → Act → World → Prop} (hQ : ∀ a w, Q a w → Q' .normal a w) (hfin : finB md ops fin tn rd = true) : ∀ (f : Nat) (listed : Array Bool) (a : Act) (w : World), Shut md ops listed →
    (C w ∨ ∃ t, fin = some t ∧ listed.getD t false = true) → every P md ops fin C tn rd Q f listed a w → wpAny P md ops Q' f listed a w
  | 0, _, _, _, _, _, h => ⟨h.1, hQ _ _ h.2⟩
  | f + 1, listed, a, w, hsh, hC, h => ⟨fun h0 => hQ _ _ (h.1 h0), fun i hi => by
    have hun := (mem_ready.1 hi).1
    have hlt : i < ops.size := by obtain ⟨_, oi, hoi, _⟩ := mem_ready.1 hi; exact (Array.getElem?_eq_some_iff.1 hoi).1
    refine op_of_step (fun h1 h2 => ?_) (fun a' w' ht hc => any_of_every hQ hfin f _ a' w' (hsh.set hi) ?_) (fun a' ht => any_of_every hQ hfin f _ a' w (hsh.set hi) ?_) hlt (h.2 i hi)
    · rcases hC with hC | ⟨t, ht, hl⟩
      · exact hC
      · exfalso
        subst ht
        unfold finB at hfin
        simp only [Bool.and_eq_true, List.all_eq_true, List.mem_range] at hfin
        have := hfin.2 i hlt
        rw [h1, h2, Bool.false_or, Bool.false_or] at this
        unfold waitsB at this
        obtain ⟨s, hsm, hw⟩ := List.any_eq_true.1 this
        obtain ⟨oj, hoj, e, he, hb, hon⟩ := Region.waitsFor_spec hw
        have h3 := hsh.2 t oj hoj hl e he hb
        rw [hon, behind_spec hsh (getD_both hun) s hsm] at h3
        cases h3
    · rcases hc with hc | hc
      · exact .inr ⟨i, hc, by simp [hsh.1, hlt]⟩
      · exact .inl hc
    · rcases hC with hC | ⟨t, ht', hl⟩
      · exact .inl hC
      · exact .inr ⟨t, ht', getD_set_true hl⟩⟩
theorem first {fin : Option Nat} {tn rd : List Nat} {Q : Act → World → Prop} {i : Nat} {oi : Oper} {v : Value} {Y : Act → World → Prop} (hi : ops[i]? = some oi) (hsel : ∀ (j : Nat) (o : Oper) cs b, ops[j]? = some o → o.op ≠ .select cs b)
    (hst : ∀ (a a' : Act) (w : World), execOp a'.eval oi = execOp a.eval oi → Region.wanted oi (yielded ops a'.tmps) = Region.wanted oi (yielded ops a.tmps) → Y a w → Y a' w)
    (hY : ∀ (K : Act → World → Prop) a w, Y a w → K (a.put oi.dst v) w → step P ops fin C tn rd i K a w) :
    ∀ (f : Nat) (listed : Array Bool) (a : Act) (w : World), Shut md ops listed →
      (∀ j oj, ops[j]? = some oj → j ≠ i → listed.getD j true = false → (∀ e ∈ oj.after, Region.binds md e = true → e.on ≠ i) → oi.apart ops oj = true) →
      (∀ j, tn.contains j = true → j ≠ i → listed.getD j true = false → (∀ a w w', Y a w → Y a w') ∨ waitsB md ops i j = true) →
      i ∈ Region.ready md ops listed → Y a w → every P md ops fin C tn rd Q f (listed.setIfInBounds i true) (a.put oi.dst v) w → every P md ops fin C tn rd Q (f + 1) listed a w := by
  intro f
  induction f with
  | zero =>
    intro listed a w _ _ _ hr hy H
    refine ⟨fun h => (by rw [h] at hr; cases hr), fun j hj => ?_⟩
    by_cases hji : j = i
    · subst hji; exact hY _ _ _ hy H
    · have := ready_mono hj hji
      rw [H.1] at this
      cases this
  | succ f ih =>
    intro listed a w hsh hfree htn hr hy H
    have hun := (mem_ready.1 hr).1
    refine ⟨fun h => (by rw [h] at hr; cases hr), fun j hj => ?_⟩
    by_cases hji : j = i
    · subst hji; exact hY _ _ _ hy H
    · have h1 := H.2 j (ready_mono hj hji)
      obtain ⟨hjun, oj, hoj, hall⟩ := mem_ready.1 hj
      have hnot : ∀ e ∈ oj.after, Region.binds md e = true → e.on ≠ i := fun e he hb heq => by
        have h1 := hall e he hb
        rw [heq, getD_both hun] at h1
        cases h1
      have h2 := step_put hoj (hfree j oj hoj hji hjun hnot) (fun cs b => hsel i oi cs b hi) (fun cs b => hsel j oj cs b hoj) hst
        (fun ht => (htn j ht hji hjun).resolve_right (fun hb => not_ready hsh hun hb hj)) hy h1
      refine step_mono (fun a' w' h3 => ih (listed.setIfInBounds j true) a' w' (hsh.set hj) ?_ ?_ (ready_mono hr (Ne.symm hji)) h3.1 ?_) h2
      · intro k ok hk hki hun' hno
        refine hfree k ok hk hki ?_ hno
        by_cases hjk : j = k
        · subst hjk; exact hjun
        · rw [getD_set_ne true hjk] at hun'; exact hun'
      · intro k hk hki hun'
        refine htn k hk hki ?_
        by_cases hjk : j = k
        · subst hjk; exact hjun
        · rw [getD_set_ne true hjk] at hun'; exact hun'
      · rw [Array.setIfInBounds_comm _ _ hji]
        exact h3.2
/-- the order is one that serves -/
def orderB (md : Region.Mode) (ops : Array Oper) (tn rd : List Nat) : List Nat → Array Bool → Bool
  | [], listed => (Region.ready md ops listed).isEmpty
  | i :: rest, listed => (if tn.contains i then decide (Region.ready md ops listed = [i]) else (Region.ready md ops listed).contains i && Region.free md ops listed i &&
      (!rd.contains i || tn.all fun j => j == i || listed.getD j true || waitsB md ops i j)) && orderB md ops tn rd rest (listed.setIfInBounds i true)
theorem every_of_walk {fin : Option Nat} {tn rd : List Nat} {Q : Act → World → Prop} (hs : Region.noSelect ops = true) : ∀ (l : List Nat) (listed : Array Bool) (a : Act) (w : World), Shut md ops listed → orderB md ops tn rd l listed = true → walk P ops fin C tn rd Q l a w → every P md ops fin C tn rd Q l.length listed a w
  | [], _, _, _, _, hB, h => ⟨by simpa [orderB] using hB, h⟩
  | i :: l, listed, a, w, hsh, hB, h => by
    simp only [orderB, Bool.and_eq_true] at hB
    obtain ⟨hB, hB'⟩ := hB
    by_cases ht : tn.contains i = true
    · rw [if_pos ht] at hB
      have hr : Region.ready md ops listed = [i] := by simpa using hB
      have hri : i ∈ Region.ready md ops listed := by rw [hr]; simp
      refine ⟨fun h0 => (by rw [h0] at hr; cases hr), fun j hj => ?_⟩
      rw [hr] at hj
      obtain rfl : j = i := by simpa using hj
      exact step_mono (fun a' w' h' => every_of_walk hs l _ a' w' (hsh.set hri) hB' h') h
    · rw [if_neg ht] at hB
      simp only [Bool.and_eq_true] at hB
      obtain ⟨⟨hr, hf⟩, hrd⟩ := hB
      have hri : i ∈ Region.ready md ops listed := by simpa using hr
      obtain ⟨hun, oi, hoi, hall⟩ := mem_ready.1 hri
      unfold walk at h
      have hstep := h
      unfold step at h
      rw [hoi] at h
      simp only at h
      rw [if_neg ht] at h
      by_cases hw : Region.wanted oi (yielded ops a.tmps) = true
      · rw [if_pos hw] at h
        by_cases hrdi : rd.contains i = true
        · rw [if_pos hrdi] at h
          obtain ⟨v, h1, h2⟩ := h
          refine first (Y := fun a w => Region.wanted oi (yielded ops a.tmps) = true ∧ gives P oi a w v) (v := v) hoi (Region.noSelect_spec hs) ?_ ?_ l.length listed a w hsh (Region.free_spec hoi hf) ?_ hri ⟨hw, h1⟩ (every_of_walk hs l _ _ w (hsh.set hri) hB' h2)
          · intro a a' w e1 e2 hy
            unfold gives at *
            rw [e1, e2]
            exact hy
          · intro K a w hy hK
            unfold step
            rw [hoi]
            simp only
            rw [if_neg ht, if_pos hy.1, if_pos hrdi]
            exact ⟨v, hy.2, hK⟩
          · intro j hj hji hjun
            right
            rw [hrdi] at hrd
            simp only [Bool.not_true, Bool.false_or, List.all_eq_true] at hrd
            have := hrd j (by simpa using hj)
            simp only [Bool.or_eq_true, beq_iff_eq, hji, hjun, false_or, Bool.false_eq_true] at this
            exact this
        · rw [if_neg hrdi] at h
          obtain ⟨v, h1, h2⟩ := h
          refine first (Y := fun a _ => Region.wanted oi (yielded ops a.tmps) = true ∧ ∀ w, C w → gives P oi a w v) (v := v) hoi (Region.noSelect_spec hs) ?_ ?_ l.length listed a w hsh (Region.free_spec hoi hf) ?_ hri ⟨hw, h1⟩ (every_of_walk hs l _ _ w (hsh.set hri) hB' h2)
          · intro a a' w e1 e2 hy
            unfold gives at *
            rw [e1, e2]
            exact hy
          · intro K a w hy hK
            unfold step
            rw [hoi]
            simp only
            rw [if_neg ht, if_pos hy.1, if_neg hrdi]
            exact ⟨v, hy.2, hK⟩
          · intro j hj hji hjun
            left
            intro a w w' hy
            exact hy
      · rw [if_neg hw] at h
        refine first (Y := fun a _ => ¬ Region.wanted oi (yielded ops a.tmps) = true) (v := undef) hoi (Region.noSelect_spec hs) ?_ ?_ l.length listed a w hsh (Region.free_spec hoi hf) ?_ hri hw (every_of_walk hs l _ _ w (hsh.set hri) hB' h)
        · intro a a' w e1 e2 hy
          rw [e2]
          exact hy
        · intro K a w hy hK
          unfold step
          rw [hoi]
          simp only
          rw [if_neg ht, if_neg hy]
          exact hK
        · intro j hj hji hjun
          left
          intro a w w' hy
          exact hy
def allB (ops : Array Oper) (fin : Option Nat) (tn rd perm : List Nat) : Bool := Region.noSelect ops && finB .any ops fin tn rd && decide (perm.length = ops.size) && orderB .any ops tn rd perm (Array.replicate ops.size false)
/-- THE LAW -/
theorem region {id : Nat} {Q : Exit → Act → World → Prop} {a : Act} {w : World} {l : List Oper} (fin : Option Nat) (C : World → Prop) (tn rd perm : List Nat) (hm : P.follows .mixedOrders = true) (hB : allB l.toArray fin tn rd perm = true) (hC : C w.drew)
    (h : walk P l.toArray fin C tn rd (fun a' w' => Q .normal a' w') perm a w.drew) : (Code.region id l.toArray true).wp P Q a w := by
  simp only [allB, Bool.and_eq_true, decide_eq_true_eq] at hB
  obtain ⟨⟨⟨hs, hf⟩, hn⟩, hB⟩ := hB
  have hsh : Shut .any l.toArray (Array.replicate l.toArray.size false) := ⟨by simp, fun j oj _ hl => by rw [getD_replicate_false] at hl; cases hl⟩
  refine wp_region_any hm (any_of_every (tn := tn) (rd := rd) (Q := fun a w => Q .normal a w) (fun _ _ h => h) hf _ _ _ _ hsh (.inl hC) ?_)
  have := every_of_walk (md := .any) hs perm _ a w.drew hsh hB h
  rwa [hn] at this
/-! the walk over the operations themselves -/
inductive Kd | sure | look | turn | last
  deriving DecidableEq
def nth : List Oper → Nat → Oper
  | [], _ => default
  | o :: _, 0 => o
  | _ :: l, k + 1 => nth l k
theorem nth_zero (o : Oper) (l : List Oper) : nth (o :: l) 0 = o := rfl
theorem nth_succ (o : Oper) (l : List Oper) (k : Nat) : nth (o :: l) (k + 1) = nth l k := rfl
theorem nth_get : ∀ (l : List Oper) (i : Nat), i < l.length → l[i]? = some (nth l i)
  | [], i, h => by simp at h
  | o :: l, 0, _ => rfl
  | o :: l, i + 1, h => by
    rw [List.getElem?_cons_succ, nth_get l i (by simpa using h)]
    rfl
def goes (P : Program) (ops : Array Oper) (C : World → Prop) (Q : Act → World → Prop) : List (Kd × Oper) → Act → World → Prop
  | [], a, w => Q a w
  | (.turn, o) :: rest, a, w => wpList P ops (Then C (goes P ops C Q rest)) [o] a w
  | (.last, o) :: rest, a, w => wpList P ops (Then (fun _ => True) (goes P ops C Q rest)) [o] a w
  | (.look, o) :: rest, a, w => if Region.wanted o (yielded ops a.tmps) then look P o (fun a' => goes P ops C Q rest a' w) a w else goes P ops C Q rest (a.put o.dst undef) w
  | (.sure, o) :: rest, a, w => if Region.wanted o (yielded ops a.tmps) then sure P C o (fun a' => goes P ops C Q rest a' w) a else goes P ops C Q rest (a.put o.dst undef) w
def kinds (f : Kd → Bool) (l : List (Kd × Nat)) : List Nat := (l.filter fun p => f p.1).map (·.2)
def isTurn : Kd → Bool
  | .turn | .last => true
  | _ => false
def isLook : Kd → Bool
  | .look => true
  | _ => false
def isLast : Kd → Bool
  | .last => true
  | _ => false
theorem turn_mono {C' : World → Prop} {o : Oper} {K : Act → World → Prop} {a : Act} {w : World} (h : ∀ w, C w → C' w) (hh : turn P ops C o K a w) : turn P ops C' o K a w := by
  refine turn_of ?_
  have := turn_iff hh
  split
  · rename_i hw; rw [if_pos hw] at this; exact Oper.wp_mono (fun a' w' ⟨h1, h2⟩ => ⟨h _ h1, h2⟩) this
  · rename_i hw; rw [if_neg hw] at this; exact ⟨h _ this.1, this.2⟩
theorem walk_of_goes {l : List Oper} {fin : Option Nat} {tn rd : List Nat} {Q : Act → World → Prop} : ∀ (p : List (Kd × Nat)), (∀ x ∈ p, x.2 < l.length ∧ isTurn x.1 = tn.contains x.2 ∧ isLook x.1 = rd.contains x.2 ∧ (isLast x.1 = true → fin = some x.2)) → ∀ (a : Act) (w : World),
    goes P l.toArray C Q (p.map fun x => (x.1, nth l x.2)) a w → walk P l.toArray fin C tn rd Q (p.map (·.2)) a w
  | [], _, _, _, h => h
  | (k, i) :: p, hp, a, w, h => by
    obtain ⟨hlt, ht, hr, hl⟩ := hp (k, i) (by simp)
    have hp' := fun x hx => hp x (List.mem_cons_of_mem _ hx)
    simp only at hlt ht hr hl
    have hget : l.toArray[i]? = some (nth l i) := by rw [List.getElem?_toArray]; exact nth_get l i hlt
    show step P l.toArray fin C tn rd i (walk P l.toArray fin C tn rd Q (p.map (·.2))) a w
    refine step_mono (fun a' w' => walk_of_goes p hp' a' w') ?_
    unfold step
    rw [hget]
    simp only
    cases k with
    | turn =>
      rw [if_pos (by rw [← ht]; rfl)]
      exact turn_mono (fun w h => .inr h) h
    | last =>
      rw [if_pos (by rw [← ht]; rfl)]
      exact turn_mono (fun w _ => .inl (hl rfl)) h
    | look =>
      rw [if_neg (by rw [← ht]; decide), ← hr]
      exact h
    | sure =>
      rw [if_neg (by rw [← ht]; decide), ← hr]
      exact h
def finOf (p : List (Kd × Nat)) : Option Nat := (kinds isLast p).head?
def goodB (n : Nat) (p : List (Kd × Nat)) : Bool := p.all fun x => decide (x.2 < n) && (isTurn x.1 == (kinds isTurn p).contains x.2) && (isLook x.1 == (kinds isLook p).contains x.2) && (!isLast x.1 || decide (finOf p = some x.2))
def okB (ops : Array Oper) (p : List (Kd × Nat)) : Bool := goodB ops.size p && allB ops (finOf p) (kinds isTurn p) (kinds isLook p) (p.map (·.2))
/-- THE LAW: the operations in the order p, each with its kind -/
theorem law {id : Nat} {Q : Exit → Act → World → Prop} {a : Act} {w : World} {l : List Oper} (C : World → Prop) (p : List (Kd × Nat)) (hm : P.follows .mixedOrders = true) (hB : okB l.toArray p = true) (hC : C w.drew)
    (h : goes P l.toArray C (fun a' w' => Q .normal a' w') (p.map fun x => (x.1, nth l x.2)) a w.drew) : (Code.region id l.toArray true).wp P Q a w := by
  simp only [okB, Bool.and_eq_true] at hB
  obtain ⟨hg, hB⟩ := hB
  refine region _ C _ _ _ hm hB hC (walk_of_goes p (fun x hx => ?_) a w.drew h)
  unfold goodB at hg
  rw [List.all_eq_true] at hg
  have := hg x hx
  simp only [Bool.and_eq_true, decide_eq_true_eq, beq_iff_eq, Bool.or_eq_true, Bool.not_eq_true'] at this
  obtain ⟨⟨⟨h1, h2⟩, h3⟩, h4⟩ := this
  exact ⟨by simpa using h1, h2, h3, fun e => h4.resolve_left (fun hn => by rw [e] at hn; cases hn)⟩
/-! its steps -/
variable {Q : Act → World → Prop} {o : Oper} {rest : List (Kd × Oper)} {a : Act} {w : World}
theorem wanted_none (hg : o.guard = none) : Region.wanted o (yielded ops a.tmps) = true := by
  unfold Region.wanted
  rw [hg]
theorem wanted_yes {j d : Nat} {b : Bool} (hg : o.guard = some (j, b)) (hd : (ops[j]?).bind (·.dst) = some d) (hv : a.tmps[d]? = some (.bool b)) : Region.wanted o (yielded ops a.tmps) = true := by
  unfold Region.wanted yielded
  rw [hg]
  simp only [hd, Option.bind_some, hv, beq_self_eq_true]
theorem wanted_no {j d : Nat} {b b' : Bool} (hg : o.guard = some (j, b)) (hd : (ops[j]?).bind (·.dst) = some d) (hv : a.tmps[d]? = some (.bool b')) (hb : b' = !b) : Region.wanted o (yielded ops a.tmps) = false := by
  subst hb
  unfold Region.wanted yielded
  rw [hg]
  simp only [hd, Option.bind_some, hv]
  cases b <;> rfl
theorem go_end (h : Q a w) : goes P ops C Q [] a w := h
theorem go_sure (hw : Region.wanted o (yielded ops a.tmps) = true) (v : Value) (h1 : ∀ w, C w → gives P o a w v) (h2 : goes P ops C Q rest (a.put o.dst v) w) : goes P ops C Q ((.sure, o) :: rest) a w := by
  unfold goes
  rw [if_pos hw]
  exact ⟨v, h1, h2⟩
theorem go_move (hw : Region.wanted o (yielded ops a.tmps) = true) (x : Operand) (hop : o.op = .move x) (v : Value) (hv : a.eval x = v) (h2 : goes P ops C Q rest (a.put o.dst v) w) : goes P ops C Q ((.sure, o) :: rest) a w :=
  go_sure hw v (fun w _ => gives_value (by simp only [execOp, hop, hv, Sem.run_pure])) h2
theorem go_assign (hw : Region.wanted o (yielded ops a.tmps) = true) (x : Operand) (hop : o.op = .assign x) (v : Value) (hv : a.eval x = v) (h2 : goes P ops C Q rest (a.put o.dst v) w) : goes P ops C Q ((.sure, o) :: rest) a w :=
  go_sure hw v (fun w _ => gives_value (by simp only [execOp, hop, hv, Sem.run_pure])) h2
theorem go_look (hw : Region.wanted o (yielded ops a.tmps) = true) (v : Value) (h1 : gives P o a w v) (h2 : goes P ops C Q rest (a.put o.dst v) w) : goes P ops C Q ((.look, o) :: rest) a w := by
  unfold goes
  rw [if_pos hw]
  exact ⟨v, h1, h2⟩
theorem put_inj {a : Act} {d : Tmp} (hd : d < a.tmps.size) {u v : Value} (h : a.put (some d) u = a.put (some d) v) : u = v := by
  have h1 := congrArg (fun b : Act => b.tmps[d]?) h
  simpa [Act.put, hd] using h1
/-- told by a walk of the operation alone -/
def Stays (w : World) (b : Act) : Exit → Act → World → Prop := fun e a' w' => e = .normal ∧ w' = w ∧ a' = b
theorem gives_walk {d : Tmp} (hd : o.dst = some d) (hlt : d < a.tmps.size) (hw : Region.wanted o (yielded ops a.tmps) = true) {v : Value} (h : wpList P ops (Stays w (a.put (some d) v)) [o] a w) : gives P o a w v := by
  unfold wpList at h
  rw [if_pos hw] at h
  rcases h with h | h
  · have h : o.wp P a w (fun a' w' => w' = w ∧ a' = a.put (some d) v) (Stays w (a.put (some d) v)) := Oper.wp_mono (fun a' w' h' => by unfold wpList at h'; exact h'.2) h
    unfold Oper.wp at h
    unfold gives
    generalize (execOp a.eval o).run P w = r at *
    cases r with
    | ok n w' =>
      cases n <;> simp only [Oper.upon] at h <;> simp only [upTo]
      case value u => rw [hd] at h; exact ⟨h.1, put_inj hlt h.2⟩
      case skip => rw [hd] at h; exact ⟨h.1, put_inj hlt h.2⟩
      case defer d' =>
        rw [hd] at h
        have h2 := congrArg (fun b : Act => b.defers.length) h.2
        simp [Act.put] at h2
      case enter f args =>
        refine Calls.mono h fun e w'' he => ?_
        cases e with
        | returned u => rw [hd] at he; exact ⟨by rw [put_inj hlt he.2], he.1⟩
        | panicked c => cases he.1
        | outgrown => obtain ⟨_, _, he⟩ := he; cases he.1
      case row r args => exact Rows.mono h fun u w'' he => by rw [hd] at he; exact ⟨put_inj hlt he.2, he.1⟩
    | halt x w' =>
      cases x <;> simp only [Oper.upon] at h
      case panic u => cases h.1
  · obtain ⟨_, _, _, h⟩ := h
    cases h.1
theorem go_sureW (hw : Region.wanted o (yielded ops a.tmps) = true) (d : Tmp) (hd : o.dst = some d) (hlt : Nat.ble (d + 1) a.tmps.size = true) (v : Value) (h1 : ∀ w, C w → wpList P ops (Stays w (a.put (some d) v)) [o] a w) (h2 : goes P ops C Q rest (a.put (some d) v) w) : goes P ops C Q ((.sure, o) :: rest) a w :=
  go_sure hw v (fun w hC => gives_walk hd (Nat.le_of_ble_eq_true hlt) hw (h1 w hC)) (by rw [hd]; exact h2)
theorem go_lookW (hw : Region.wanted o (yielded ops a.tmps) = true) (d : Tmp) (hd : o.dst = some d) (hlt : Nat.ble (d + 1) a.tmps.size = true) (v : Value) (h1 : wpList P ops (Stays w (a.put (some d) v)) [o] a w) (h2 : goes P ops C Q rest (a.put (some d) v) w) : goes P ops C Q ((.look, o) :: rest) a w :=
  go_look hw v (gives_walk hd (Nat.le_of_ble_eq_true hlt) hw h1) (by rw [hd]; exact h2)
theorem stays {w : World} {a b : Act} (h : a = b) : Stays w b .normal a w := ⟨rfl, rfl, h⟩
theorem go_skipS (hw : Region.wanted o (yielded ops a.tmps) = false) (h2 : goes P ops C Q rest (a.put o.dst undef) w) : goes P ops C Q ((.sure, o) :: rest) a w := by
  unfold goes
  rw [if_neg (by rw [hw]; decide)]
  exact h2
theorem go_skipL (hw : Region.wanted o (yielded ops a.tmps) = false) (h2 : goes P ops C Q rest (a.put o.dst undef) w) : goes P ops C Q ((.look, o) :: rest) a w := by
  unfold goes
  rw [if_neg (by rw [hw]; decide)]
  exact h2
theorem go_turn (h : wpList P ops (Then C (goes P ops C Q rest)) [o] a w) : goes P ops C Q ((.turn, o) :: rest) a w := by
  unfold goes
  exact h
theorem go_last (h : wpList P ops (Then (fun _ => True) (goes P ops C Q rest)) [o] a w) : goes P ops C Q ((.last, o) :: rest) a w := by
  unfold goes
  exact h
/-- a struct loaded whole -/
theorem go_load_row (hw : Region.wanted o (yielded ops a.tmps) = true) (ty : TypeId) (x : Operand) (ho : o.op = .load ty x) (g : Nat) (hx : a.eval x = .pointer (some ⟨g, 0, none⟩)) (t : TypeId) (cs : Array Value) (fr : Nat × Nat) (d : TypeDesc) (hg : w.heap[g]? = some (.cells cs t fr))
    (hu : P.underlying ty = some d) (hd : (match d with | .struct _ | .array _ _ => true | _ => false) = true) (hi : (P.info? ty).map (·.size) = some cs.size) (h2 : goes P ops C Q rest (a.put o.dst (.agg cs)) w) : goes P ops C Q ((.look, o) :: rest) a w :=
  go_look hw _ (gives_value (by simp only [execOp, ho, hx, Instr.loadAt, Instr.sureAddr, Sem.run_bind, Sem.run_pure, Result.andThen_ok, run_loadVar_row w g t ty cs fr d hg hu hd hi])) h2
theorem then_go {K : Act → World → Prop} (hC : C w) (h : K a w) : Then C K .normal a w := ⟨rfl, hC, h⟩
end
end Mix
end Go.Proofs.Ytnglmkombogheaa.Base
