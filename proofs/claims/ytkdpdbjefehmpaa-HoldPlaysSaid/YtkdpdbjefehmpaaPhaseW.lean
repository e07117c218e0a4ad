/-
  (made by wip/tools/phasew.py) A region that draws its order, whose calls turn what was there, one behind the other ('return r.U8() == a && r.U16() == b && ..'): a fact a slot, and a phase of the memory: how many of the chain's calls have been done.
-/
import Derived.Test.YtkdpdbjefehmpaaFacts
import Derived.Test.YtkdpdbjefehmpaaLaw
namespace Go.Proofs.Ytkdpdbjefehmpaa.Base
open Go.RowKit
namespace Pw

/-- which blocks may turn, and two things that stay once they hold -/
structure Keep where
  S : Nat → Prop
  X : World → Prop
  Y : World → Prop
  hX : ∀ w w', Fr0 w w' → X w → X w'
  hY : ∀ w w', Fr0 w w' → Y w → Y w'
/-- what the region's operations do to what was there -/
structure GB (S : Keep) (w w' : World) : Prop where
  fr : Fr S.S w w'
  x : S.X w → S.X w'
  y : S.Y w → S.Y w'
theorem GB.refl (S : Keep) (w : World) : GB S w w := ⟨Fr.refl S.S w, fun h => h, fun h => h⟩
theorem GB.trans {S : Keep} {a b c : World} (h : GB S a b) (k : GB S b c) : GB S a c := ⟨h.fr.trans' k.fr, fun v => k.x (h.x v), fun v => k.y (h.y v)⟩
theorem GB.of_fr0 {S : Keep} {a b : World} (h : Fr0 a b) : GB S a b := ⟨h.zero, S.hX _ _ h, S.hY _ _ h⟩
structure Fact (S : Keep) where
  holds : Value → World → Prop
  mono : ∀ v w w', GB S w w' → holds v w → holds v w'
def Fact.any {S : Keep} : Fact S := ⟨fun _ _ => True, fun _ _ _ _ h => h⟩
def Fact.is {S : Keep} (u : Value) : Fact S := ⟨fun v _ => v = u, fun _ _ _ _ h => h⟩
def Fact.isX {S : Keep} (u : Value) : Fact S := ⟨fun v w => v = u ∧ S.X w, fun _ _ _ g h => ⟨h.1, g.x h.2⟩⟩
def Fact.isY {S : Keep} (u : Value) : Fact S := ⟨fun v w => v = u ∧ S.Y w, fun _ _ _ g h => ⟨h.1, g.y h.2⟩⟩
def Fact.isXY {S : Keep} (u : Value) : Fact S := ⟨fun v w => v = u ∧ S.X w ∧ S.Y w, fun _ _ _ g h => ⟨h.1, g.x h.2.1, g.y h.2.2⟩⟩
def Fact.bytes {S : Keep} (l : List UInt8) : Fact S := ⟨fun v w => BytesIs w v l ∧ ∀ a n c, v = .slice (some a) n c → ¬ S.S a.block, fun _ _ _ hg h => ⟨h.1.fr hg.fr h.2, h.2⟩⟩
def Fact.ints {S : Keep} (l : List Int) : Fact S := ⟨fun v w => IntsIs w v l ∧ ∀ a n c, v = .slice (some a) n c → ¬ S.S a.block, fun _ _ _ hg h => ⟨h.1.fr hg.fr h.2, h.2⟩⟩

/-- o waits for p, or for one that does -/
def reach2 (l : List Oper) (i p : Nat) : Bool := match l[i]? with
  | some o => (waits o).contains p || (waits o).any fun m => match l[m]? with
    | some om => (waits om).contains p
    | none => false
  | none => false
def chainOk (l : List Oper) : List Nat → Bool
  | [] => true
  | [_] => true
  | p :: i :: rest => decide (p < i) && reach2 l i p && chainOk l (i :: rest)
theorem chainOk_tail {l : List Oper} {p : Nat} {c : List Nat} (h : chainOk l (p :: c) = true) : chainOk l c = true := by
  cases c with
  | nil => rfl
  | cons i rest => simp only [chainOk, Bool.and_eq_true] at h; exact h.2
theorem chainOk_at {l : List Oper} : ∀ (c : List Nat) (k : Nat) (p i : Nat), chainOk l c = true → c[k]? = some p → c[k + 1]? = some i → p < i ∧ reach2 l i p = true
  | [], k, p, i, _, h, _ => by simp at h
  | [x], k, p, i, _, _, h => by simp at h
  | x :: y :: rest, 0, p, i, hc, h1, h2 => by
    simp at h1 h2
    subst h1 h2
    simp only [chainOk, Bool.and_eq_true, decide_eq_true_eq] at hc
    exact hc.1
  | x :: y :: rest, k + 1, p, i, hc, h1, h2 => chainOk_at (y :: rest) k p i (chainOk_tail hc) (by simpa using h1) (by simpa using h2)
theorem chain_lt {l : List Oper} (c : List Nat) (hc : chainOk l c = true) : ∀ (d k : Nat) (p i : Nat), c[k]? = some p → c[k + d + 1]? = some i → p < i
  | 0, k, p, i, h1, h2 => (chainOk_at c k p i hc h1 h2).1
  | d + 1, k, p, i, h1, h2 => by
    have hlt : k + d + 1 < c.length := by have := (List.getElem?_eq_some_iff.1 h2).1; omega
    obtain ⟨q, hq⟩ : ∃ q, c[k + d + 1]? = some q := ⟨c[k + d + 1], List.getElem?_eq_getElem hlt⟩
    have := chain_lt c hc d k p q h1 hq
    have := (chainOk_at c (k + d + 1) q i hc hq (by rw [← h2]; congr 1)).1
    omega
theorem chain_inj {l : List Oper} (c : List Nat) (hc : chainOk l c = true) (j k i : Nat) (hj : c[j]? = some i) (hk : c[k]? = some i) : j = k := by
  rcases Nat.lt_trichotomy j k with h | h | h
  · have := chain_lt c hc (k - j - 1) j i i hj (by rw [← hk]; congr 1; omega)
    omega
  · exact h
  · have := chain_lt c hc (j - k - 1) k i i hk (by rw [← hj]; congr 1; omega)
    omega

section
variable {S : Keep} {P : Program} {Q : Exit → Act → World → Prop}
/-- an operation's obligation; J: the memory's phase ahead of it, J': behind it -/
def PStep (P : Program) (l : List Oper) (Q : Exit → Act → World → Prop) (F : Nat → Fact S) (a : Act) (w0 : World) (J : World → Prop) (J' : World → Prop) (o : Oper) : Prop :=
  ∀ (vals : Nat → Value) (w' : World), GB S w0 w' → J w' → (∀ d ∈ depSlots l o, (F d).holds (vals d) w') →
    Region.wanted o (yielded l.toArray (frm a (dsts l) vals).tmps) = true ∧
      Oper.wp P o (frm a (dsts l) vals) w' (fun a'' w'' => ∃ v, a'' = (frm a (dsts l) vals).put o.dst v ∧ (∀ d, o.dst = some d → (F d).holds v w'') ∧ GB S w' w'' ∧ J' w'') Q
theorem region_phase {id : Nat} {l : List Oper} {a : Act} {w : World} (F : Nat → Fact S) (J : Nat → World → Prop) (chain : List Nat) (hm : P.follows .mixedOrders = true) (hl : lexical l = true) (hd : dstsOk l a.tmps.size = true) (hch : chainOk l chain = true) (h0 : J 0 w.drew)
    (hs : ∀ (i : Nat) (o : Oper), l[i]? = some o → i ∉ chain → ∀ k, k ≤ chain.length → PStep P l Q F a w.drew (J k) (J k) o)
    (hc : ∀ (k i : Nat) (o : Oper), chain[k]? = some i → l[i]? = some o → PStep P l Q F a w.drew (J k) (J (k + 1)) o)
    (hlen : ∀ i ∈ chain, i < l.length)
    (hQ : ∀ (vals : Nat → Value) (w' : World), GB S w.drew w' → J chain.length w' → (∀ d ∈ dsts l, (F d).holds (vals d) w') → Q .normal (frm a (dsts l) vals) w') : (Code.region id l.toArray true).wp P Q a w := by
  unfold dstsOk at hd
  simp only [Bool.and_eq_true, decide_eq_true_eq] at hd
  obtain ⟨hnd, _⟩ := hd
  refine region_inv (fun L a' w' => Closed l L ∧ (∃ vals, a' = frm a (dsts l) vals ∧ GB S w.drew w' ∧ ∀ (i : Nat) (o : Oper) (d : Nat), l[i]? = some o → o.dst = some d → L i = true → (F d).holds (vals d) w') ∧
      ∃ k, k ≤ chain.length ∧ J k w' ∧ ∀ (j i : Nat), chain[j]? = some i → (L i = true ↔ j < k)) hm hl
    ⟨fun i o _ h => absurd h (by simp), ⟨fun j => a.tmps.getD j undef, (frm_start a _).symm, GB.refl _ _, fun i o d _ _ h => by cases h⟩, 0, Nat.zero_le _, h0, fun j i _ => by simp⟩ (fun i o ho L a' w' hL hw hI K hK => ?_) (fun L a' w' hall hI => ?_)
  · obtain ⟨hcl, ⟨vals, rfl, hF, hfacts⟩, k, hk, hJ, hiff⟩ := hI
    have hwaits : ∀ k ∈ waits o, L k = true := fun k hk => by
      unfold waits at hk
      rw [List.mem_map] at hk
      obtain ⟨e, he, rfl⟩ := hk
      rw [List.mem_filter] at he
      exact hw e he.1 he.2
    have hcl' : Closed l (opDone L i) := fun j o' ho' hj k hk => by
      unfold opDone at hj ⊢
      by_cases hki : k = i
      · rw [if_pos hki]
      · rw [if_neg hki]
        by_cases hji : j = i
        · subst hji
          rw [ho] at ho'
          cases ho'
          exact hwaits k hk
        · rw [if_neg hji] at hj
          exact hcl j o' ho' hj k hk
    have hdep : ∀ d ∈ depSlots l o, (F d).holds (vals d) w' := fun d hd => by
      unfold depSlots at hd
      rw [List.mem_filterMap] at hd
      obtain ⟨k, hk, hb⟩ := hd
      cases hlk : l[k]? with
      | none => rw [hlk] at hb; cases hb
      | some ok =>
        rw [hlk] at hb
        exact hfacts k ok d hlk hb (hwaits k hk)
    have fin : ∀ (k' : Nat) (v : Value) (w'' : World), k' ≤ chain.length → (∀ (j i' : Nat), chain[j]? = some i' → (opDone L i i' = true ↔ j < k')) → (∀ d, o.dst = some d → (F d).holds v w'') → GB S w' w'' → J k' w'' → K ((frm a (dsts l) vals).put o.dst v) w'' := fun k' v w'' hk' hiff' hv hG hJ' => by
      cases hdst : o.dst with
      | none =>
        refine hK _ _ ⟨hcl', ⟨vals, rfl, hF.trans hG, fun j oj d hj hdj hLj => ?_⟩, k', hk', hJ', hiff'⟩
        unfold opDone at hLj
        by_cases hji : j = i
        · subst hji; rw [ho] at hj; cases hj; rw [hdst] at hdj; cases hdj
        · rw [if_neg hji] at hLj
          exact (F d).mono _ _ _ hG (hfacts j oj d hj hdj hLj)
      | some d0 =>
        have hmem : d0 ∈ dsts l := by
          unfold dsts
          rw [List.mem_filterMap]
          exact ⟨o, List.mem_of_getElem? ho, hdst⟩
        refine hK _ _ ⟨hcl', ⟨upd vals d0 v, frm_put a _ vals d0 v hmem, hF.trans hG, fun j oj d hj hdj hLj => ?_⟩, k', hk', hJ', hiff'⟩
        unfold opDone at hLj
        by_cases hji : j = i
        · subst hji
          rw [ho] at hj; cases hj
          rw [hdst] at hdj; cases hdj
          unfold upd
          rw [if_pos rfl]
          exact hv _ hdst
        · rw [if_neg hji] at hLj
          have hne : d ≠ d0 := fun e => by
            subst e
            exact hji (dst_inj l hnd j i oj o d hj ho hdj hdst)
          unfold upd
          rw [if_neg hne]
          exact (F d).mono _ _ _ hG (hfacts j oj d hj hdj hLj)
    by_cases hic : i ∈ chain
    · obtain ⟨k1, hk1⟩ := List.getElem?_of_mem hic
      have e1 : k ≤ k1 := by
        have := hiff k1 i hk1
        rw [hL] at this
        simp at this
        exact this
      have e2 : k1 ≤ k := by
        cases k1 with
        | zero => omega
        | succ k0 =>
          have hlt : k0 < chain.length := by have := (List.getElem?_eq_some_iff.1 hk1).1; omega
          obtain ⟨p, hp⟩ : ∃ p, chain[k0]? = some p := ⟨chain[k0], List.getElem?_eq_getElem hlt⟩
          have hr := (chainOk_at chain k0 p i hch hp hk1).2
          unfold reach2 at hr
          rw [ho] at hr
          simp only [Bool.or_eq_true, List.contains_iff_mem, List.any_eq_true] at hr
          have hLp : L p = true := by
            rcases hr with hr | ⟨m, hm', hr⟩
            · exact hwaits p hr
            · have hLm := hwaits m hm'
              cases hlm : l[m]? with
              | none => rw [hlm] at hr; cases hr
              | some om =>
                rw [hlm] at hr
                exact hcl m om hlm hLm p (by simpa using hr)
          have := (hiff k0 p hp).1 hLp
          omega
      obtain rfl : k = k1 := by omega
      obtain ⟨hwt, hst⟩ := hc k i o hk1 ho vals w' hF hJ hdep
      rw [if_pos hwt]
      have hiff' : ∀ (j i' : Nat), chain[j]? = some i' → (opDone L i i' = true ↔ j < k + 1) := fun j i' hj => by
        unfold opDone
        by_cases hi : i' = i
        · subst hi
          have := chain_inj chain hch j k i' hj hk1
          simp [this]
        · rw [if_neg hi, hiff j i' hj]
          have : j ≠ k := fun e => by subst e; rw [hk1] at hj; exact hi (Option.some.inj hj).symm
          omega
      exact Oper.wp_mono (fun a'' w'' ⟨v, h1, h2, h3, h4⟩ => by
        subst h1
        exact fin (k + 1) v w'' (by have := (List.getElem?_eq_some_iff.1 hk1).1; omega) hiff' h2 h3 h4) hst
    · obtain ⟨hwt, hst⟩ := hs i o ho hic k hk vals w' hF hJ hdep
      rw [if_pos hwt]
      have hiff' : ∀ (j i' : Nat), chain[j]? = some i' → (opDone L i i' = true ↔ j < k) := fun j i' hj => by
        unfold opDone
        rw [if_neg (fun e => by subst e; exact hic (List.mem_of_getElem? hj))]
        exact hiff j i' hj
      exact Oper.wp_mono (fun a'' w'' ⟨v, h1, h2, h3, h4⟩ => by
        subst h1
        exact fin k v w'' hk hiff' h2 h3 h4) hst
  · obtain ⟨_, ⟨vals, rfl, hF, hfacts⟩, k, hk, hJ, hiff⟩ := hI
    have hkl : k = chain.length := by
      rcases Nat.lt_or_ge k chain.length with h | h
      · exfalso
        have hp : chain[k]? = some chain[k] := List.getElem?_eq_getElem h
        have := (hiff k _ hp).1 (hall _ (hlen _ (List.getElem_mem h)))
        omega
      · omega
    subst hkl
    refine hQ vals w' hF hJ (fun d hd => ?_)
    unfold dsts at hd
    rw [List.mem_filterMap] at hd
    obtain ⟨o, ho, hdd⟩ := hd
    obtain ⟨i, hi⟩ := List.getElem?_of_mem ho
    exact hfacts i o d hi hdd (hall i (List.getElem?_eq_some_iff.1 hi).1)
end

section
variable {S : Keep} {P : Program} {Q : Exit → Act → World → Prop} {l : List Oper} {F : Nat → Fact S} {a : Act} {w0 : World} {o : Oper} {J J' : World → Prop}
/-- slot k is one that o waits for -/
structure Dep (l : List Oper) (a : Act) (o : Oper) (k : Nat) : Prop where
  mem : k ∈ dsts l
  lt : k < a.tmps.size
  dep : k ∈ depSlots l o
theorem Dep.eval {vals : Nat → Value} {k : Nat} (h : Dep l a o k) : (frm a (dsts l) vals).eval (.tmp k) = vals k := frm_eval a _ vals k h.mem h.lt
def depB (l : List Oper) (n : Nat) (o : Oper) (k : Nat) : Bool := (dsts l).contains k && decide (k < n) && (depSlots l o).contains k
def depBi (l : List Oper) (n i k : Nat) : Bool := match l[i]? with
  | some o => depB l n o k
  | none => false
theorem Dep.at {n i k : Nat} (hn : a.tmps.size = n) (ho : l[i]? = some o) (h : depBi l n i k = true) : Dep l a o k := by
  unfold depBi at h
  rw [ho] at h
  unfold depB at h
  simp only [Bool.and_eq_true, decide_eq_true_eq, List.contains_iff_mem] at h
  exact ⟨h.1.1, by rw [hn]; exact h.1.2, h.2⟩
theorem op_of {i : Nat} (ho : l[i]? = some o) {d : Option Tmp} {p : Op} {g : Option (Nat × Bool)} (h : (l[i]?).map (fun o => (o.dst, o.op, o.guard)) = some (d, p, g)) : o.dst = d ∧ o.op = p ∧ o.guard = g := by
  rw [ho] at h
  simp only [Option.map_some, Option.some.injEq, Prod.mk.injEq] at h
  exact h
/-- it is carried out -/
def Want (l : List Oper) (F : Nat → Fact S) (a : Act) (o : Oper) : Prop := ∀ (vals : Nat → Value) (w : World), (∀ d ∈ depSlots l o, (F d).holds (vals d) w) → Region.wanted o (yielded l.toArray (frm a (dsts l) vals).tmps) = true
theorem Want.plain (h : o.guard = none) : Want l F a o := fun _ _ _ => by simp [Region.wanted, h]
theorem Want.dep (j : Nat) (b : Bool) (d : Nat) (h : o.guard = some (j, b)) (hj : (l[j]?).bind (·.dst) = some d) (hD : Dep l a o d) (hF : F d = Fact.is (.bool b)) : Want l F a o := fun vals w hd => by
  have hv := hd d hD.dep
  rw [hF] at hv
  replace hv : vals d = .bool b := hv
  unfold Region.wanted yielded
  rw [h]
  simp only [List.getElem?_toArray, hj, Option.bind_some]
  have : (frm a (dsts l) vals).tmps[d]? = some (vals d) := by
    unfold frm
    simp only [Array.getElem?_mapIdx]
    rw [Array.getElem?_eq_getElem hD.lt]
    simp only [Option.map_some]
    rw [if_pos (by simpa using hD.mem)]
  rw [this, hv]
  simp
theorem Want.depF (j : Nat) (b : Bool) (d : Nat) (h : o.guard = some (j, b)) (hj : (l[j]?).bind (·.dst) = some d) (hD : Dep l a o d) (hF : ∀ v w, (F d).holds v w → v = .bool b) : Want l F a o := fun vals w hd => by
  have hv := hF _ _ (hd d hD.dep)
  unfold Region.wanted yielded
  rw [h]
  simp only [List.getElem?_toArray, hj, Option.bind_some]
  have : (frm a (dsts l) vals).tmps[d]? = some (vals d) := by
    unfold frm
    simp only [Array.getElem?_mapIdx]
    rw [Array.getElem?_eq_getElem hD.lt]
    simp only [Option.map_some]
    rw [if_pos (by simpa using hD.mem)]
  rw [this, hv]
  simp
/-- an operand's value -/
def Ev (l : List Oper) (F : Nat → Fact S) (a : Act) (o : Oper) (x : Operand) (X : Value) : Prop := ∀ (vals : Nat → Value) (w : World), (∀ d ∈ depSlots l o, (F d).holds (vals d) w) → (frm a (dsts l) vals).eval x = X
theorem Ev.const (X : Value) : Ev l F a o (.const X) X := fun _ _ _ => rfl
theorem Ev.dep {k : Nat} {X : Value} (h : Dep l a o k) (hF : F k = Fact.is X) : Ev l F a o (.tmp k) X := fun vals w hd => by
  rw [h.eval]
  have := hd k h.dep
  rw [hF] at this
  exact this
theorem Ev.depF {k : Nat} {X : Value} (h : Dep l a o k) (hF : ∀ v w, (F k).holds v w → v = X) : Ev l F a o (.tmp k) X := fun vals w hd => by
  rw [h.eval]
  exact hF _ _ (hd k h.dep)
theorem Ev.old {k : Nat} {X : Value} (h : (dsts l).contains k = false) (hX : a.eval (.tmp k) = X) : Ev l F a o (.tmp k) X := fun vals w _ => (frm_eval_old a _ vals k h).trans hX
theorem run_value {a' : Act} {w' : World} {K : Act → World → Prop} (v : Value) (w1 : World) (hv : (execOp a'.eval o).run P w' = .ok (.value v) w1) (h : K (a'.put o.dst v) w1) : Oper.wp P o a' w' K Q := by
  unfold Oper.wp
  rw [hv]
  exact h
/-- it yields u, and leaves the world alone -/
theorem ph_value (hw : Want l F a o) (d : Nat) (hd : o.dst = some d) (h : ∀ (vals : Nat → Value) (w' : World), GB S w0 w' → J w' → (∀ d ∈ depSlots l o, (F d).holds (vals d) w') → ∃ u, (execOp (frm a (dsts l) vals).eval o).run P w' = .ok (.value u) w' ∧ (F d).holds u w') : PStep P l Q F a w0 J J o :=
  fun vals w' hG hJ hdep => by
    obtain ⟨u, h1, h2⟩ := h vals w' hG hJ hdep
    exact ⟨hw vals w' hdep, run_value u w' h1 ⟨u, rfl, fun d' hd' => by rw [hd] at hd'; cases hd'; exact h2, GB.refl _ _, hJ⟩⟩
theorem ph_move (hw : Want l F a o) (d : Nat) (hd : o.dst = some d) (x : Operand) (ho : o.op = .move x) (X : Value) (hx : Ev l F a o x X) (hF : F d = Fact.is X) : PStep P l Q F a w0 J J o :=
  ph_value hw d hd fun vals w' _ _ hdp => ⟨X, by simp only [execOp, ho, hx vals w' hdp, Sem.run_pure], by rw [hF]; rfl⟩
theorem ph_assign (hw : Want l F a o) (d : Nat) (hd : o.dst = some d) (x : Operand) (ho : o.op = .assign x) (X : Value) (hx : Ev l F a o x X) (hF : F d = Fact.is X) : PStep P l Q F a w0 J J o :=
  ph_value hw d hd fun vals w' _ _ hdp => ⟨X, by simp only [execOp, ho, hx vals w' hdp, Sem.run_pure], by rw [hF]; rfl⟩
theorem ph_bin (hw : Want l F a o) (d : Nat) (hd : o.dst = some d) (op : BinOp) (t t' : TypeId) (x y : Operand) (ho : o.op = .binOp op t x y t') (X Y R : Value) (hx : Ev l F a o x X) (hy : Ev l F a o y Y) (hF : F d = Fact.is R)
    (hrun : ∀ (w' : World), (do eqGuard op t x y X Y; binOp op t X Y : Sem Value).run P w' = .ok R w') : PStep P l Q F a w0 J J o :=
  ph_value hw d hd fun vals w' _ _ hdp => by
    refine ⟨R, ?_, by rw [hF]; rfl⟩
    have := hrun w'
    simp only [execOp, ho, hx vals w' hdp, hy vals w' hdp, Sem.run_bind, Sem.run_pure] at this ⊢
    rw [this]
    rfl
theorem ph_pick (hw : Want l F a o) (d : Nat) (hd : o.dst = some d) (c x z : Operand) (ho : o.op = .pick c x z) (b : Bool) (R : Value) (hc : Ev l F a o c (.bool b)) (hx : b = true → Ev l F a o x R) (hz : b = false → Ev l F a o z R) (hF : F d = Fact.is R) : PStep P l Q F a w0 J J o :=
  ph_value hw d hd fun vals w' _ _ hdp => by
    refine ⟨R, ?_, by rw [hF]; rfl⟩
    cases b with
    | true => simp [execOp, ho, hc vals w' hdp, hx rfl vals w' hdp, asBool]
    | false => simp [execOp, ho, hc vals w' hdp, hz rfl vals w' hdp, asBool]
theorem ph_not (hw : Want l F a o) (d : Nat) (hd : o.dst = some d) (t : TypeId) (x : Operand) (ho : o.op = .unOp .not t x) (b : Bool) (hx : Ev l F a o x (.bool b)) (hF : F d = Fact.is (.bool !b)) : PStep P l Q F a w0 J J o :=
  ph_value hw d hd fun vals w' _ _ hdp => ⟨.bool !b, by simp [execOp, ho, hx vals w' hdp, Op.unary, asBool], by rw [hF]; rfl⟩
theorem ph_conv (hw : Want l F a o) (d : Nat) (hd : o.dst = some d) (t s : TypeId) (x : Operand) (ho : o.op = .convert t s x) (X R : Value) (hx : Ev l F a o x X) (hF : F d = Fact.is R) (hrun : ∀ w' : World, GB S w0 w' → (Go.convert t s X).run P w' = .ok R w') : PStep P l Q F a w0 J J o :=
  ph_value hw d hd fun vals w' hG _ hdp => ⟨R, by simp only [execOp, ho, hx vals w' hdp, Sem.run_bind, hrun w' hG, Result.andThen_ok, Sem.run_pure], by rw [hF]; rfl⟩
theorem ph_convstr (hw : Want l F a o) (d k : Nat) (hd : o.dst = some d) (t e s : TypeId) (ho : o.op = .convert t s (.tmp k)) (ht : P.underlying t = some (.slice e)) (he : P.underlying e = some (.int .u8)) (hs : P.underlying s = some .string) (hk : Dep l a o k) (bs : List UInt8) (hFk : F k = Fact.bytes bs) (hF : F d = Fact.is (.string ⟨bs.toArray⟩)) : PStep P l Q F a w0 J J o :=
  ph_value hw d hd fun vals w' _ _ hdp => by
    have hx := hdp k hk.dep
    rw [hFk] at hx
    have hx' : BytesIs w' (vals k) bs := hx.1
    refine ⟨.string ⟨bs.toArray⟩, ?_, by rw [hF]; rfl⟩
    simp only [execOp, ho, hk.eval, Sem.run_bind, hx'.convert (P := P) t s e ht he hs, Result.andThen_ok, Sem.run_pure]
theorem ph_len (hw : Want l F a o) (d : Nat) (hd : o.dst = some d) (t : TypeId) (x : Operand) (ho : o.op = .call { callee := .builtin .len, args := #[x], argTypes := #[t] }) (X R : Value) (hx : Ev l F a o x X) (hF : F d = Fact.is R)
    (hrun : ∀ (ρ : Operand → Value) (w' : World), ρ x = X → (execOp ρ { o with op := .call { callee := .builtin .len, args := #[x], argTypes := #[t] } }).run P w' = .ok (.value R) w') : PStep P l Q F a w0 J J o :=
  ph_value hw d hd fun vals w' _ _ hdp => ⟨R, by have := hrun _ w' (hx vals w' hdp); rw [← ho] at this; exact this, by rw [hF]; rfl⟩
theorem ph_call (hw : Want l F a o) (d : Nat) (hd : o.dst = some d) (f : FuncId) (xs : Array Operand) (ts : Array TypeId) (ho : o.op = .call { callee := .value (.func f), args := xs, argTypes := ts }) (fn : Func) (hfn : P.funcs[f]? = some fn) (hnm : (fn.name == "runtime.NumGoroutine") = false) (hbd : fn.body.isSome = true) (args : Array Value)
    (hargs : ∀ (vals : Nat → Value) (w : World), (∀ d ∈ depSlots l o, (F d).holds (vals d) w) → xs.map (frm a (dsts l) vals).eval = args)
    (h : ∀ (w' : World), GB S w0 w' → J w' → Calls P f args w' fun e w'' => ∃ u, e = .returned u ∧ (F d).holds u w'' ∧ GB S w' w'' ∧ J' w'') : PStep P l Q F a w0 J J' o :=
  fun vals w' hG hJ hdp => by
    refine ⟨hw vals w' hdp, ?_⟩
    have hc := h w' hG hJ
    unfold Oper.wp
    have he : (execOp (frm a (dsts l) vals).eval o).run P w' = .ok (.enter f args) w' := by
      obtain ⟨c, hc'⟩ := Option.isSome_iff_exists.1 hbd
      have hnm' : fn.name ≠ "runtime.NumGoroutine" := by simpa using hnm
      have hx := hargs vals w' hdp
      simp [execOp, ho, resolve, invoke, Act.eval, Deferred.ofValue, callFunc, hfn, hnm', hc']
      simpa using hx
    rw [he]
    exact hc.mono fun e w'' ⟨u, he, h1, h2, h3⟩ => by
      subst he
      exact ⟨u, rfl, fun d' hd' => by rw [hd] at hd'; cases hd'; exact h1, h2, h3⟩
theorem ph_callD (hw : Want l F a o) (d : Nat) (hd : o.dst = some d) (f : FuncId) (xs : Array Operand) (ts : Array TypeId) (ho : o.op = .call { callee := .value (.func f), args := xs, argTypes := ts }) (fn : Func) (hfn : P.funcs[f]? = some fn) (hnm : (fn.name == "runtime.NumGoroutine") = false) (hbd : fn.body.isSome = true) (args : Array Value)
    (hargs : ∀ (vals : Nat → Value) (w : World), (∀ d ∈ depSlots l o, (F d).holds (vals d) w) → xs.map (frm a (dsts l) vals).eval = args)
    (h : ∀ (vals : Nat → Value) (w' : World), GB S w0 w' → J w' → (∀ d ∈ depSlots l o, (F d).holds (vals d) w') → Calls P f args w' fun e w'' => ∃ u, e = .returned u ∧ (F d).holds u w'' ∧ GB S w' w'' ∧ J' w'') : PStep P l Q F a w0 J J' o :=
  fun vals w' hG hJ hdp => by
    refine ⟨hw vals w' hdp, ?_⟩
    have hc := h vals w' hG hJ hdp
    unfold Oper.wp
    have he : (execOp (frm a (dsts l) vals).eval o).run P w' = .ok (.enter f args) w' := by
      obtain ⟨c, hc'⟩ := Option.isSome_iff_exists.1 hbd
      have hnm' : fn.name ≠ "runtime.NumGoroutine" := by simpa using hnm
      have hx := hargs vals w' hdp
      simp [execOp, ho, resolve, invoke, Act.eval, Deferred.ofValue, callFunc, hfn, hnm', hc']
      simpa using hx
    rw [he]
    exact hc.mono fun e w'' ⟨u, he, h1, h2, h3⟩ => by
      subst he
      exact ⟨u, rfl, fun d' hd' => by rw [hd] at hd'; cases hd'; exact h1, h2, h3⟩
theorem ph_callV (hw : Want l F a o) (d : Nat) (hd : o.dst = some d) (f : FuncId) (xs : Array Operand) (ts : Array TypeId) (ho : o.op = .call { callee := .value (.func f), args := xs, argTypes := ts }) (fn : Func) (hfn : P.funcs[f]? = some fn) (hnm : (fn.name == "runtime.NumGoroutine") = false) (hbd : fn.body.isSome = true) (args : (Nat → Value) → Array Value)
    (hargs : ∀ (vals : Nat → Value) (w : World), (∀ d ∈ depSlots l o, (F d).holds (vals d) w) → xs.map (frm a (dsts l) vals).eval = args vals)
    (h : ∀ (vals : Nat → Value) (w' : World), GB S w0 w' → J w' → (∀ d ∈ depSlots l o, (F d).holds (vals d) w') → Calls P f (args vals) w' fun e w'' => ∃ u, e = .returned u ∧ (F d).holds u w'' ∧ GB S w' w'' ∧ J' w'') : PStep P l Q F a w0 J J' o :=
  fun vals w' hG hJ hdp => by
    refine ⟨hw vals w' hdp, ?_⟩
    have hc := h vals w' hG hJ hdp
    unfold Oper.wp
    have he : (execOp (frm a (dsts l) vals).eval o).run P w' = .ok (.enter f (args vals)) w' := by
      obtain ⟨c, hc'⟩ := Option.isSome_iff_exists.1 hbd
      have hnm' : fn.name ≠ "runtime.NumGoroutine" := by simpa using hnm
      have hx := hargs vals w' hdp
      simp [execOp, ho, resolve, invoke, Act.eval, Deferred.ofValue, callFunc, hfn, hnm', hc']
      simpa using hx
    rw [he]
    exact hc.mono fun e w'' ⟨u, he, h1, h2, h3⟩ => by
      subst he
      exact ⟨u, rfl, fun d' hd' => by rw [hd] at hd'; cases hd'; exact h1, h2, h3⟩
theorem ev4 {x y z u : Operand} {X Y Z U : Value} (h : Ev l F a o x X) (k : Ev l F a o y Y) (m : Ev l F a o z Z) (n : Ev l F a o u U) : ∀ (vals : Nat → Value) (w : World), (∀ d ∈ depSlots l o, (F d).holds (vals d) w) → #[x, y, z, u].map (frm a (dsts l) vals).eval = #[X, Y, Z, U] := fun vals w hd => by simp [h vals w hd, k vals w hd, m vals w hd, n vals w hd]
theorem ev1 {x : Operand} {X : Value} (h : Ev l F a o x X) : ∀ (vals : Nat → Value) (w : World), (∀ d ∈ depSlots l o, (F d).holds (vals d) w) → #[x].map (frm a (dsts l) vals).eval = #[X] := fun vals w hd => by simp [h vals w hd]
theorem ev2 {x y : Operand} {X Y : Value} (h : Ev l F a o x X) (k : Ev l F a o y Y) : ∀ (vals : Nat → Value) (w : World), (∀ d ∈ depSlots l o, (F d).holds (vals d) w) → #[x, y].map (frm a (dsts l) vals).eval = #[X, Y] := fun vals w hd => by simp [h vals w hd, k vals w hd]
end
end Pw
end Go.Proofs.Ytkdpdbjefehmpaa.Base
