/-
  The usual kinds of operations of a region by facts with one operation that uses facts up (region_factsC), an obligation each.
-/
import Derived.Test.YtcdfflieooopjaaDoorFactsC
namespace Go.Proofs.YtcdfflieooopjaaDoor.Base
open Go.RowKit
namespace C

/-- what a slot holds, which no later operation undoes but the one that uses it up -/
structure Fact where
  holds : Value → World → Prop
  mono : ∀ v w w', Fr0 w w' → holds v w → holds v w'
def Fact.is (u : Value) : Fact := ⟨fun v _ => v = u, fun _ _ _ _ h => h⟩
def Fact.any : Fact := ⟨fun _ _ => True, fun _ _ _ _ h => h⟩
def Fact.raw (n : Nat) (t : TypeId) (l : List UInt8) : Fact := ⟨fun v w => ∃ (g : Nat) (fr : Nat × Nat), v = .slice (some ⟨g, 0, none⟩) l.length l.length ∧ n ≤ g ∧ w.heap[g]? = some (.cells (bvals l).toArray t fr),
  fun _ _ _ hg ⟨g, fr, h1, h2, h3⟩ => ⟨g, fr, h1, h2, hg.heap h3 (fun f => f)⟩⟩
def Fact.bytes (l : List UInt8) : Fact := ⟨fun v w => BytesIs w v l, fun _ _ _ hg h => (Gr.of_fr0 hg).bytes h⟩
def Fact.parts (ps : List (List UInt8)) : Fact := ⟨fun v w => PartsIs w v ps, fun _ _ _ hg h => (Gr.of_fr0 hg).parts h⟩
/-- bytes of the first world -/
def Fact.old (w0 : World) (l : List UInt8) : Fact := ⟨fun v _ => BytesIs w0 v l, fun _ _ _ _ h => h⟩
/-- a literal of two parts of the first world -/
def Fact.oldParts2 (w0 : World) (t : TypeId) (b c : List UInt8) : Fact := ⟨fun v w => ∃ (g : Nat) (fr : Nat × Nat) (x y : Value), v = .slice (some ⟨g, 0, none⟩) 2 2 ∧ w.heap[g]? = some (.cells #[x, y] t fr) ∧ BytesIs w0 x b ∧ BytesIs w0 y c,
  fun _ _ _ hg ⟨g, fr, x, y, h1, h2, h3⟩ => ⟨g, fr, x, y, h1, hg.heap h2 (fun f => f), h3⟩⟩
/-- what the region itself appends to -/
def Fact.owns (base : Nat) (e : TypeId) (l : List UInt8) : Fact := ⟨fun v w => w.ownsRow base e 1 v l.length (bvals l), fun _ _ _ hg ⟨h1, h2⟩ => ⟨h1, by
  rcases h2 with h2 | ⟨g, cap, cur, a, b, c, d⟩
  · exact .inl h2
  · exact .inr ⟨g, cap, cur, a, b, hg.heap c (fun f => f), d⟩⟩⟩
def FStep (P : Program) (l : List Oper) (Q : Exit → Act → World → Prop) (F : Nat → Fact) (a : Act) (w0 : World) (o : Oper) : Prop :=
  CStep P l Q (fun d => (F d).holds) a w0 (fun w' w'' _ => Fr0 w' w'') o

section
variable {P : Program} {Q : Exit → Act → World → Prop} {l : List Oper} {F : Nat → Fact} {a : Act} {w0 : World} {o : Oper}

/-- it is carried out -/
def Want (l : List Oper) (F : Nat → Fact) (a : Act) (o : Oper) : Prop := ∀ (vals : Nat → Value) (w : World), (∀ d ∈ depSlots l o, (F d).holds (vals d) w) → Region.wanted o (yielded l.toArray (frm a (dsts l) vals).tmps) = true
theorem Want.plain (h : o.guard = none) : Want l F a o := fun _ _ _ => by simp [Region.wanted, h]
theorem Want.guarded (j : Nat) (b : Bool) (d : Nat) (h : o.guard = some (j, b)) (hj : (l[j]?).bind (·.dst) = some d) (hm : d ∈ dsts l) (hn : d < a.tmps.size) (hdep : d ∈ depSlots l o) (hF : ∀ v w, (F d).holds v w → v = .bool b) : Want l F a o := fun vals w hd => by
  have hv := hF _ _ (hd d hdep)
  unfold Region.wanted yielded
  rw [h]
  simp only [List.getElem?_toArray, hj, Option.bind_some]
  have : (frm a (dsts l) vals).tmps[d]? = some (vals d) := by
    unfold frm
    simp only [Array.getElem?_mapIdx]
    rw [Array.getElem?_eq_getElem hn]
    simp only [Option.map_some]
    rw [if_pos (by simpa using hm)]
  rw [this, hv]
  simp
theorem FStep.mk (hw : Want l F a o) (h : ∀ (vals : Nat → Value) (w' : World), Fr0 w0 w' → (∀ d ∈ depSlots l o, (F d).holds (vals d) w') →
    Oper.wp P o (frm a (dsts l) vals) w' (fun a'' w'' => ∃ v, a'' = (frm a (dsts l) vals).put o.dst v ∧ (∀ d, o.dst = some d → (F d).holds v w'') ∧ Fr0 w' w'' ∧ Fr0 w0 w'') Q) : FStep P l Q F a w0 o := fun vals w' hF hd => by
  rw [if_pos (hw vals w' hd)]
  exact h vals w' hF hd
theorem run_value {a' : Act} {w' : World} {K : Act → World → Prop} (v : Value) (w1 : World) (hv : (execOp a'.eval o).run P w' = .ok (.value v) w1) (h : K (a'.put o.dst v) w1) : Oper.wp P o a' w' K Q := by
  unfold Oper.wp
  rw [hv]
  exact h
/-- it yields u, and leaves the world alone -/
theorem fs_value (hw : Want l F a o) (d : Nat) (hd : o.dst = some d) (h : ∀ (vals : Nat → Value) (w' : World), Fr0 w0 w' → (∀ d ∈ depSlots l o, (F d).holds (vals d) w') → ∃ u, (execOp (frm a (dsts l) vals).eval o).run P w' = .ok (.value u) w' ∧ (F d).holds u w') : FStep P l Q F a w0 o :=
  FStep.mk hw fun vals w' hF hdep => by
    obtain ⟨u, h1, h2⟩ := h vals w' hF hdep
    exact run_value u w' h1 ⟨u, rfl, fun d' hd' => by rw [hd] at hd'; cases hd'; exact h2, Fr.refl _ _, hF⟩
theorem fs_move (hw : Want l F a o) (d k : Nat) (hd : o.dst = some d) (ho : o.op = .move (.tmp k)) (hk : k ∈ dsts l) (hn : k < a.tmps.size) (hdep : k ∈ depSlots l o) (himp : ∀ v w, (F k).holds v w → (F d).holds v w) : FStep P l Q F a w0 o :=
  fs_value hw d hd fun vals w' _ hdp => ⟨vals k, by simp only [execOp, ho, frm_eval a _ vals k hk hn, Sem.run_pure], himp _ _ (hdp k hdep)⟩
theorem fs_assign (hw : Want l F a o) (d k : Nat) (hd : o.dst = some d) (ho : o.op = .assign (.tmp k)) (hk : k ∈ dsts l) (hn : k < a.tmps.size) (hdep : k ∈ depSlots l o) (himp : ∀ v w, (F k).holds v w → (F d).holds v w) : FStep P l Q F a w0 o :=
  fs_value hw d hd fun vals w' _ hdp => ⟨vals k, by simp only [execOp, ho, frm_eval a _ vals k hk hn, Sem.run_pure], himp _ _ (hdp k hdep)⟩
theorem fs_old (hw : Want l F a o) (d k : Nat) (hd : o.dst = some d) (ho : o.op = .move (.tmp k)) (hk : (dsts l).contains k = false) (u : Value) (hu : a.eval (.tmp k) = u) (hf : ∀ w', Fr0 w0 w' → (F d).holds u w') : FStep P l Q F a w0 o :=
  fs_value hw d hd fun vals w' hF _ => ⟨u, by simp only [execOp, ho, frm_eval_old a _ vals k hk, hu, Sem.run_pure], hf w' hF⟩
/-- a literal of bytes -/
theorem fs_raw (hw : Want l F a o) (d : Nat) (hd : o.dst = some d) (t : TypeId) (bs : List UInt8) (hF : F d = Fact.raw w0.heap.size t bs)
    (h : ∀ (vals : Nat → Value) (w' : World), (execOp (frm a (dsts l) vals).eval o).run P w' = .ok (.value (.slice (some ⟨w'.heap.size, 0, none⟩) bs.length bs.length)) (w'.alloc (.cells (bvals bs).toArray t))) : FStep P l Q F a w0 o :=
  FStep.mk hw fun vals w' hF0 _ => run_value _ _ (h vals w') ⟨_, rfl, fun d' hd' => by
    rw [hd] at hd'; cases hd'
    rw [hF]
    exact ⟨w'.heap.size, (0, 0), rfl, hF0.size, heap_alloc_new w' _⟩, ((Fr.refl _ _).alloc _), hF0.alloc _⟩
/-- a call of a Go function -/
theorem fs_call (hw : Want l F a o) (d : Nat) (hd : o.dst = some d) (f : FuncId) (xs : Array Operand) (ts : Array TypeId) (ho : o.op = .call { callee := .value (.func f), args := xs, argTypes := ts }) (fn : Func) (hfn : P.funcs[f]? = some fn) (hnm : (fn.name == "runtime.NumGoroutine") = false) (hbd : fn.body.isSome = true)
    (h : ∀ (vals : Nat → Value) (w' : World), Fr0 w0 w' → (∀ d ∈ depSlots l o, (F d).holds (vals d) w') → ∃ u, (Calls P f (xs.map (frm a (dsts l) vals).eval) w' fun e w'' => e = .returned u ∧ Fr0 w' w'') ∧ ∀ w'', Fr0 w' w'' → (F d).holds u w'') : FStep P l Q F a w0 o :=
  FStep.mk hw fun vals w' hF0 hdp => by
    obtain ⟨u, hc, hu⟩ := h vals w' hF0 hdp
    unfold Oper.wp
    have he : (execOp (frm a (dsts l) vals).eval o).run P w' = .ok (.enter f (xs.map (frm a (dsts l) vals).eval)) w' := by
      obtain ⟨c, hc'⟩ := Option.isSome_iff_exists.1 hbd
      have hnm' : fn.name ≠ "runtime.NumGoroutine" := by simpa using hnm
      simp [execOp, ho, resolve, invoke, Act.eval, Deferred.ofValue, callFunc, hfn, hnm', hc']
    rw [he]
    exact hc.mono fun e w'' ⟨he, hf⟩ => by
      subst he
      exact ⟨u, rfl, fun d' hd' => by rw [hd] at hd'; cases hd'; exact hu w'' hf, hf, hF0.trans' hf⟩
/-- slot k is one that o waits for -/
structure Dep (l : List Oper) (a : Act) (o : Oper) (k : Nat) : Prop where
  mem : k ∈ dsts l
  lt : k < a.tmps.size
  dep : k ∈ depSlots l o
theorem Dep.eval {vals : Nat → Value} {k : Nat} (h : Dep l a o k) : (frm a (dsts l) vals).eval (.tmp k) = vals k := frm_eval a _ vals k h.mem h.lt
theorem fs_pick (hw : Want l F a o) (d c x : Nat) (z : Operand) (hd : o.dst = some d) (ho : o.op = .pick (.tmp c) (.tmp x) z) (hc : Dep l a o c) (hx : Dep l a o x) (hFc : F c = Fact.is (.bool true)) (hFx : F x = Fact.is (.bool true)) (hF : F d = Fact.is (.bool true)) : FStep P l Q F a w0 o :=
  fs_value hw d hd fun vals w' _ hdp => by
    have h1 := hdp c hc.dep
    have h2 := hdp x hx.dep
    rw [hFc] at h1
    rw [hFx] at h2
    have h2' : vals x = .bool true := h2
    have h1' : vals c = .bool true := h1
    refine ⟨.bool true, ?_, by rw [hF]; rfl⟩
    simp [execOp, ho, hc.eval, hx.eval, h1', h2', asBool]
theorem fs_not (hw : Want l F a o) (d k : Nat) (t : TypeId) (b : Bool) (hd : o.dst = some d) (ho : o.op = .unOp .not t (.tmp k)) (hk : Dep l a o k) (hFk : F k = Fact.is (.bool b)) (hF : F d = Fact.is (.bool !b)) : FStep P l Q F a w0 o :=
  fs_value hw d hd fun vals w' _ hdp => by
    have h1 := hdp k hk.dep
    rw [hFk] at h1
    have h1' : vals k = .bool b := h1
    refine ⟨.bool !b, ?_, by rw [hF]; rfl⟩
    simp [execOp, ho, hk.eval, h1', Op.unary, asBool]
theorem fs_eql (hw : Want l F a o) (d x y : Nat) (t t' : TypeId) (hd : o.dst = some d) (ho : o.op = .binOp .eql t (.tmp x) (.tmp y) t') (hx : Dep l a o x) (hy : Dep l a o y) (X Y : Value) (b : Bool) (hFx : F x = Fact.is X) (hFy : F y = Fact.is Y) (hF : F d = Fact.is (.bool b))
    (hrun : ∀ (w' : World), (do eqGuard .eql t (.tmp x) (.tmp y) X Y; binOp .eql t X Y : Sem Value).run P w' = .ok (.bool b) w') : FStep P l Q F a w0 o :=
  fs_value hw d hd fun vals w' _ hdp => by
    have h1 := hdp x hx.dep
    have h2 := hdp y hy.dep
    rw [hFx] at h1
    rw [hFy] at h2
    have h1' : vals x = X := h1
    have h2' : vals y = Y := h2
    refine ⟨.bool b, ?_, by rw [hF]; rfl⟩
    have := hrun w'
    simp only [execOp, ho, hx.eval, hy.eval, h1', h2', Sem.run_bind, Sem.run_pure] at this ⊢
    rw [this]
    rfl
theorem fs_load_old (hw : Want l F a o) (d k : Nat) (ty : TypeId) (hd : o.dst = some d) (ho : o.op = .load ty (.tmp k)) (hk : (dsts l).contains k = false) (g : Nat) (hx : a.eval (.tmp k) = .pointer (some ⟨g, 0, none⟩)) (t : TypeId) (cs : Array Value) (fr : Nat × Nat) (ds : TypeDesc)
    (hg : w0.heap[g]? = some (.cells cs t fr)) (hu : P.underlying ty = some ds) (hds : (match ds with | .struct _ | .array _ _ => true | _ => false) = true) (hi : (P.info? ty).map (·.size) = some cs.size) (hF : F d = Fact.is (.agg cs)) : FStep P l Q F a w0 o :=
  fs_value hw d hd fun vals w' hF0 _ => ⟨.agg cs, by
    unfold execOp
    simp only [ho, frm_eval_old a _ vals k hk, hx, Instr.loadAt, Instr.sureAddr, Sem.run_bind, Sem.run_pure, Result.andThen_ok, run_loadVar_row w' g t ty cs fr ds (hF0.heap hg (fun f => f)) hu hds hi], by rw [hF]; rfl⟩
theorem fs_pure_old (hw : Want l F a o) (d : Nat) (hd : o.dst = some d) (u : Value) (h : ∀ (vals : Nat → Value) (w' : World), (execOp (frm a (dsts l) vals).eval o).run P w' = .ok (.value u) w') (hf : ∀ w', Fr0 w0 w' → (F d).holds u w') : FStep P l Q F a w0 o :=
  fs_value hw d hd fun vals w' hF _ => ⟨u, h vals w', hf w' hF⟩
theorem fs_part1 (hw : Want l F a o) (d k : Nat) (hd : o.dst = some d) (tP t : TypeId) (ho : o.op = .buildSlice tP 1 #[(0, .tmp k)]) (hu : P.underlying tP = some (.slice t)) (hs : (P.info? t).map (fun i => (i.zero, i.size)) = some (some (.slice none 0 0), 1)) (hk : Dep l a o k) (bs : List UInt8) (hFk : ∀ v w, (F k).holds v w → BytesIs w v bs) (hF : F d = Fact.parts [bs]) : FStep P l Q F a w0 o :=
  FStep.mk hw fun vals w' hF0 hdp => by
    have hb := hFk _ _ (hdp k hk.dep)
    obtain ⟨sa, sn, sc, hv⟩ := hb.slice
    have hrun : (execOp (frm a (dsts l) vals).eval o).run P w' = .ok (.value (.slice (some ⟨w'.heap.size, 0, none⟩) 1 1)) (w'.alloc (.cells #[.slice sa sn sc] t)) := by
      obtain ⟨i, hi, hz0, hz1⟩ : ∃ i, P.info? t = some i ∧ i.zero = some (.slice none 0 0) ∧ i.size = 1 := by
        cases hq : P.info? t with
        | none => simp [hq] at hs
        | some i => simp [hq] at hs; exact ⟨i, rfl, hs.1, hs.2⟩
      have he := hk.eval (vals := vals)
      rw [hv] at he
      simp only [execOp, ho, List.map_toArray, List.map_cons, List.map_nil, he]
      simp [run_underlying hu, sizeOf, typeInfo, zeroValue, hi, hz0, hz1, go_sem]
    rw [hv] at hb
    exact run_value _ _ hrun ⟨_, rfl, fun d' hd' => by
      rw [hd] at hd'; cases hd'
      rw [hF]
      exact PartsIs.one w' _ bs hb t _ rfl, ((Fr.refl _ _).alloc _), hF0.alloc _⟩
theorem fs_part2 (hw : Want l F a o) (d k m : Nat) (hd : o.dst = some d) (tP t : TypeId) (ho : o.op = .buildSlice tP 2 #[(0, .tmp k), (1, .tmp m)]) (hu : P.underlying tP = some (.slice t)) (hs : (P.info? t).map (fun i => (i.zero, i.size)) = some (some (.slice none 0 0), 1)) (hk : Dep l a o k) (hm : Dep l a o m) (bs cs : List UInt8) (hFk : ∀ v w, (F k).holds v w → BytesIs w v bs) (hFm : ∀ v w, (F m).holds v w → BytesIs w v cs) (hF : F d = Fact.parts [bs, cs]) : FStep P l Q F a w0 o :=
  FStep.mk hw fun vals w' hF0 hdp => by
    have hb := hFk _ _ (hdp k hk.dep)
    have hc := hFm _ _ (hdp m hm.dep)
    obtain ⟨sa, sn, sc, hv⟩ := hb.slice
    obtain ⟨ta, tn, tc, hv2⟩ := hc.slice
    have hrun : (execOp (frm a (dsts l) vals).eval o).run P w' = .ok (.value (.slice (some ⟨w'.heap.size, 0, none⟩) 2 2)) (w'.alloc (.cells #[.slice sa sn sc, .slice ta tn tc] t)) := by
      obtain ⟨i, hi, hz0, hz1⟩ : ∃ i, P.info? t = some i ∧ i.zero = some (.slice none 0 0) ∧ i.size = 1 := by
        cases hq : P.info? t with
        | none => simp [hq] at hs
        | some i => simp [hq] at hs; exact ⟨i, rfl, hs.1, hs.2⟩
      have he := hk.eval (vals := vals)
      have he2 := hm.eval (vals := vals)
      rw [hv] at he
      rw [hv2] at he2
      simp only [execOp, ho, List.map_toArray, List.map_cons, List.map_nil, he, he2]
      simp [run_underlying hu, sizeOf, typeInfo, zeroValue, hi, hz0, hz1, go_sem]
    rw [hv] at hb
    rw [hv2] at hc
    exact run_value _ _ hrun ⟨_, rfl, fun d' hd' => by
      rw [hd] at hd'; cases hd'
      rw [hF]
      exact PartsIs.two w' _ _ bs cs hb hc t _ rfl, ((Fr.refl _ _).alloc _), hF0.alloc _⟩
theorem fs_convstr (hw : Want l F a o) (d k : Nat) (hd : o.dst = some d) (t e s : TypeId) (ho : o.op = .convert t s (.tmp k)) (ht : P.underlying t = some (.slice e)) (he : P.underlying e = some (.int .u8)) (hs : P.underlying s = some .string) (hk : Dep l a o k) (bs : List UInt8) (hFk : F k = Fact.bytes bs) (hF : F d = Fact.is (.string ⟨bs.toArray⟩)) : FStep P l Q F a w0 o :=
  fs_value hw d hd fun vals w' _ hdp => by
    have hx := hdp k hk.dep
    rw [hFk] at hx
    have hx' : BytesIs w' (vals k) bs := hx
    refine ⟨.string ⟨bs.toArray⟩, ?_, by rw [hF]; rfl⟩
    simp only [execOp, ho, hk.eval, Sem.run_bind, hx'.convert (P := P) t s e ht he hs, Result.andThen_ok, Sem.run_pure]
def depB (l : List Oper) (n : Nat) (o : Oper) (k : Nat) : Bool := (dsts l).contains k && decide (k < n) && (depSlots l o).contains k
theorem Dep.of {n k : Nat} (hn : a.tmps.size = n) (h : depB l n o k = true) : Dep l a o k := by
  unfold depB at h
  simp only [Bool.and_eq_true, decide_eq_true_eq, List.contains_iff_mem] at h
  exact ⟨h.1.1, by rw [hn]; exact h.1.2, h.2⟩
def depBi (l : List Oper) (n i k : Nat) : Bool := match l[i]? with
  | some o => depB l n o k
  | none => false
theorem Dep.at {n i k : Nat} (hn : a.tmps.size = n) (ho : l[i]? = some o) (h : depBi l n i k = true) : Dep l a o k := by
  unfold depBi at h
  rw [ho] at h
  exact Dep.of hn h
theorem op_of {i : Nat} (ho : l[i]? = some o) {d : Option Tmp} {p : Op} {g : Option (Nat × Bool)} (h : (l[i]?).map (fun o => (o.dst, o.op, o.guard)) = some (d, p, g)) : o.dst = d ∧ o.op = p ∧ o.guard = g := by
  rw [ho] at h
  simp only [Option.map_some, Option.some.injEq, Prod.mk.injEq] at h
  exact h
theorem Want.dep (j : Nat) (b : Bool) (d : Nat) (h : o.guard = some (j, b)) (hj : (l[j]?).bind (·.dst) = some d) (hD : Dep l a o d) (hF : F d = Fact.is (.bool b)) : Want l F a o :=
  Want.guarded j b d h hj hD.mem hD.lt hD.dep (fun v w hv => by rw [hF] at hv; exact hv)
theorem Fact.raw_bytes {n : Nat} {t : TypeId} {bs : List UInt8} {v : Value} {w : World} (h : (Fact.raw n t bs).holds v w) : BytesIs w v bs := by
  obtain ⟨g, fr, rfl, _, h3⟩ := h
  exact BytesIs.block h3 _ _ rfl (Nat.le_refl _)
theorem map2 {ρ : Operand → Value} {x y : Operand} {u v : Value} (h1 : ρ x = u) (h2 : ρ y = v) : #[x, y].map ρ = #[u, v] := by simp [h1, h2]
theorem map3 {ρ : Operand → Value} {x y z : Operand} {u v t : Value} (h1 : ρ x = u) (h2 : ρ y = v) (h3 : ρ z = t) : #[x, y, z].map ρ = #[u, v, t] := by simp [h1, h2, h3]
end
end C
end Go.Proofs.YtcdfflieooopjaaDoor.Base
