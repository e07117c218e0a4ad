/-
  'append([]byte{}, b...)' and 'append(own, b...)' as operations of a region by facts.
-/
import Derived.Test.YtcdfflieooopjaaDoorFactKindsC
import Derived.Test.YtcdfflieooopjaaDoorAppend
namespace Go.Proofs.YtcdfflieooopjaaDoor.Base
open Go.RowKit

section
variable {P : Program}
/-- the first append behind an empty literal: what was there stays -/
theorem run_append_first (w : World) (base : Nat) (t ty e : TypeId) (ht : P.underlying t = some (.slice e)) (hinfo : (P.info? e).map (fun i => (i.zero, i.size, i.bytes)) = some (some (.int .u8 0), 1, 1))
    (v v2 : Value) (l : List UInt8) (hown : w.ownsRow base e 1 v 0 []) (hv : ∃ g, v = .slice (some ⟨g, 0, none⟩) 0 0) (hB : BytesIs w v2 l) (hlen : l.length ≤ 140737488355328) (hbase : base ≤ w.heap.size) :
    ∃ v' w', (Builtin.append_ #[t, t] ty #[v, v2]).run P w = .ok v' w' ∧ w'.ownsRow base e 1 v' l.length (bvals l) ∧ Fr0 w w' := by
  obtain ⟨i, hi, hz0, hz1, hz2⟩ := info_parts hinfo
  obtain ⟨a, cap, pb, po, rfl, hcap, ha, hc⟩ := hB
  obtain ⟨g, rfl⟩ := hv
  by_cases h : 0 < l.length
  · have := ha h
    subst this
    have hz63 : l.length ≤ maxLen := by unfold maxLen; omega
    have hr := run_append_grow (P := P) w t ty e i (.int .u8 0) ht hi hz0 ⟨g, 0, none⟩ 0 0 [] (by simp) (by simp) ⟨pb, po, none⟩ l.length cap (bvals l) (by rw [hz1, bvals_length, Nat.mul_one])
      (fun j u hj => by
        have hj' : j < l.length := by have := (List.getElem?_eq_some_iff.1 hj).1; rwa [bvals_length] at this
        rw [Addr.add_mid, hc j hj', ← hj, bvals_get l j hj']) (by omega) (by unfold maxLen at hz63; omega) (growslice_fits (by omega) (by rw [hz2]; omega))
    have hge := grownCap_ge w (0 + l.length) 0 e
    have hcm : grownCap w (0 + l.length) 0 e ≤ maxLen := grownCap_le_maxLen w (0 + l.length) 0 e (by omega)
    refine ⟨_, _, hr, ⟨by rw [bvals_length, Nat.mul_one], .inr ⟨w.heap.size, _, _, by simp only [Nat.zero_add]; rfl, hbase, heap_alloc_new w.drew _, by simpa using hge, by simpa using hcm, ?_, ?_⟩⟩, ?_⟩
    · simp [size_zeroCells, bvals_length, Value.cells]
      simp at hge
      omega
    · simp only [List.nil_append, Array.toList_append, Nat.mul_one]
      rw [← bvals_length l]
      simp
    · exact (Fr.refl _ _).drew.alloc _
  · have h0 : l = [] := List.eq_nil_of_length_eq_zero (by omega)
    subst h0
    refine ⟨.slice (some ⟨g, 0, none⟩) 0 0, w, ?_, hown, Fr.refl _ _⟩
    cases a with
    | none => exact run_append_none w base t ty e i 1 ht hi _ _ cap [] hown
    | some ad => simp [Builtin.append_, run_underlying ht, sizeOf, typeInfo, hi, Builtin.lenOf, Builtin.firstCells, loadCells, loadCellsFrom, storeCells]
end
namespace C
section
variable {P : Program} {Q : Exit → Act → World → Prop} {l : List Oper} {F : Nat → Fact} {a : Act} {w0 : World} {o : Oper}
/-- an empty literal of the region's own -/
def Fact.empty (base : Nat) (e : TypeId) : Fact := ⟨fun v w => w.ownsRow base e 1 v 0 [] ∧ ∃ g, v = .slice (some ⟨g, 0, none⟩) 0 0, fun v w w' hg ⟨h, k⟩ => ⟨(Fact.owns base e []).mono v w w' hg h, k⟩⟩
theorem fs_empty (hw : Want l F a o) (d : Nat) (hd : o.dst = some d) (e : TypeId) (hF : F d = Fact.empty w0.heap.size e)
    (h : ∀ (vals : Nat → Value) (w' : World), (execOp (frm a (dsts l) vals).eval o).run P w' = .ok (.value (.slice (some ⟨w'.heap.size, 0, none⟩) 0 0)) (w'.alloc (.cells #[] e))) : FStep P l Q F a w0 o :=
  FStep.mk hw fun vals w' hF0 _ => run_value _ _ (h vals w') ⟨_, rfl, fun d' hd' => by
    rw [hd] at hd'; cases hd'
    rw [hF]
    exact ⟨owns_empty w' _ e hF0.size _ rfl, _, rfl⟩, (Fr.refl _ _).alloc _, hF0.alloc _⟩
theorem fs_first (hw : Want l F a o) (d s x : Nat) (hd : o.dst = some d) (t e : TypeId) (ho : o.op = .call { callee := .builtin .append, args := #[.tmp s, .tmp x], argTypes := #[t, t] })
    (ht : P.underlying t = some (.slice e)) (hinfo : (P.info? e).map (fun i => (i.zero, i.size, i.bytes)) = some (some (.int .u8 0), 1, 1)) (hs : Dep l a o s) (hx : Dep l a o x) (bs : List UInt8) (hlen : bs.length ≤ 140737488355328)
    (hFs : F s = Fact.empty w0.heap.size e) (hFx : F x = Fact.old w0 bs) (hF : F d = Fact.owns w0.heap.size e bs) : FStep P l Q F a w0 o :=
  FStep.mk hw fun vals w' hF0 hdp => by
    have h1 := hdp s hs.dep
    rw [hFs] at h1
    have h2 := hdp x hx.dep
    rw [hFx] at h2
    obtain ⟨v', w'', hr, h3, h4⟩ := run_append_first (P := P) w' w0.heap.size t o.type e ht hinfo (vals s) (vals x) bs h1.1 h1.2 ((Gr.of_fr0 hF0).bytes h2) hlen hF0.size
    refine run_value v' w'' ?_ ⟨v', rfl, fun d' hd' => by rw [hd] at hd'; cases hd'; rw [hF]; exact h3, h4, hF0.trans' h4⟩
    simp only [execOp, ho, resolve, invoke, builtin, Sem.run_bind, Sem.run_pure, Result.andThen_ok, List.map_toArray, List.map_cons, List.map_nil, hs.eval, hx.eval, hr]
/-- what a fact keeps when one row of bytes of the region's own grows -/
def Fact.keeps (G : Fact) (base : Nat) (e : TypeId) : Prop := ∀ v w w' row, World.grownBy w w' row → (∀ k, row = some k → base ≤ k ∧ ∃ c, w.heap[k]? = some (.cells c e (0, 0))) → G.holds v w → G.holds v w'
theorem Fact.keeps_is (u : Value) (base : Nat) (e : TypeId) : (Fact.is u).keeps base e := fun _ _ _ _ _ _ h => h
theorem Fact.keeps_any (base : Nat) (e : TypeId) : Fact.any.keeps base e := fun _ _ _ _ _ _ h => h
theorem Fact.keeps_old (w0 : World) (bs : List UInt8) (base : Nat) (e : TypeId) : (Fact.old w0 bs).keeps base e := fun _ _ _ _ _ _ h => h
theorem Fact.keeps_parts (w0 : World) (t : TypeId) (b c : List UInt8) (base : Nat) (e : TypeId) (hte : t ≠ e) : (Fact.oldParts2 w0 t b c).keeps base e := fun v w w' row hg hr ⟨g, fr, x, y, h1, h2, h3⟩ => by
  refine ⟨g, fr, x, y, h1, ?_, h3⟩
  have hlt : g < w.heap.size := (Array.getElem?_eq_some_iff.1 h2).1
  rw [hg.block g hlt (fun e' => ?_), h2]
  obtain ⟨_, cs, hc⟩ := hr g e'.symm
  rw [h2] at hc
  simp only [Option.some.injEq, Obj.cells.injEq] at hc
  exact hte hc.2.1
theorem cs_last (hw : Want l F a o) (d s x : Nat) (hd : o.dst = some d) (t e : TypeId) (ho : o.op = .call { callee := .builtin .append, args := #[.tmp s, .tmp x], argTypes := #[t, t] }) (cons : List Nat) (hcons : ∀ d' ∈ dsts l, d' ≠ d → d' ∉ cons → (F d').keeps w0.heap.size e)
    (ht : P.underlying t = some (.slice e)) (hinfo : (P.info? e).map (fun i => (i.zero, i.size, i.bytes)) = some (some (.int .u8 0), 1, 1)) (hs : Dep l a o s) (hx : Dep l a o x) (bs cs : List UInt8) (hlen : bs.length + cs.length ≤ 140737488355328)
    (hFs : F s = Fact.owns w0.heap.size e bs) (hFx : F x = Fact.old w0 cs) (hF : ∀ v w, w.ownsRow w0.heap.size e 1 v (bs.length + cs.length) (bvals (bs ++ cs)) → (F d).holds v w) :
    CStep P l Q (fun d => (F d).holds) a w0 (fun w' w'' vals => ∀ d ∈ dsts l, o.dst ≠ some d → d ∉ cons → (F d).holds (vals d) w' → (F d).holds (vals d) w'') o := fun vals w' hF0 hdp => by
  rw [if_pos (hw vals w' hdp)]
  have h1 := hdp s hs.dep
  simp only [hFs] at h1
  have h2 := hdp x hx.dep
  simp only [hFx] at h2
  obtain ⟨v', w'', hr, h3, h4⟩ := run_append_bytes (P := P) w' w0.heap.size t o.type e ht hinfo (vals s) (vals x) bs.length bs cs h1 ((Gr.of_fr0 hF0).bytes h2) hlen hF0.size
  have hrow : ∀ k, (vals s).ownBlock = some k → w0.heap.size ≤ k ∧ ∃ c, w'.heap[k]? = some (.cells c e (0, 0)) := fun k hk => by
    have h1' : w'.ownsRow w0.heap.size e 1 (vals s) bs.length (bvals bs) := h1
    rcases h1'.2 with ⟨hv, _⟩ | ⟨g, cap, cur, hv, hb, hc, _⟩
    · rw [hv] at hk; cases hk
    · rw [hv] at hk
      simp only [Value.ownBlock, Option.some.injEq] at hk
      subst hk
      exact ⟨hb, cur, hc⟩
  have hF2 : Fr0 w0 w'' := ⟨h4.os.trans hF0.os, h4.tape.trans hF0.tape, h4.output.trans hF0.output, Nat.le_trans hF0.size h4.size, fun k hk hs' => by
    rw [h4.block k (Nat.lt_of_lt_of_le hk hF0.size) (fun e' => by have := (hrow k e'.symm).1; omega)]
    exact hF0.block k hk hs'⟩
  refine run_value v' w'' ?_ ⟨v', rfl, fun d' hd' => by rw [hd] at hd'; cases hd'; exact hF _ _ h3, fun d' hd' hne hc h => hcons d' hd' (fun e' => hne (by rw [hd, e'])) hc _ _ _ _ h4 hrow h, hF2⟩
  simp only [execOp, ho, resolve, invoke, builtin, Sem.run_bind, Sem.run_pure, Result.andThen_ok, List.map_toArray, List.map_cons, List.map_nil, hs.eval, hx.eval, hr]
theorem fs_oldParts2 (hw : Want l F a o) (d k m : Nat) (hd : o.dst = some d) (tP t : TypeId) (ho : o.op = .buildSlice tP 2 #[(0, .tmp k), (1, .tmp m)]) (hu : P.underlying tP = some (.slice t)) (hs : (P.info? t).map (fun i => (i.zero, i.size)) = some (some (.slice none 0 0), 1)) (hk : Dep l a o k) (hm : Dep l a o m) (bs cs : List UInt8) (hFk : F k = Fact.old w0 bs) (hFm : F m = Fact.old w0 cs) (hF : F d = Fact.oldParts2 w0 t bs cs) : FStep P l Q F a w0 o :=
  FStep.mk hw fun vals w' hF0 hdp => by
    have hb := hdp k hk.dep
    rw [hFk] at hb
    replace hb : BytesIs w0 (vals k) bs := hb
    have hc := hdp m hm.dep
    rw [hFm] at hc
    replace hc : BytesIs w0 (vals m) cs := hc
    obtain ⟨sa, sn, sc, hv⟩ := hb.slice
    obtain ⟨ta, tn, tc, hv2⟩ := hc.slice
    have hrun : (execOp (frm a (dsts l) vals).eval o).run P w' = .ok (.value (.slice (some ⟨w'.heap.size, 0, none⟩) 2 2)) (w'.alloc (.cells #[.slice sa sn sc, .slice ta tn tc] t)) := by
      obtain ⟨i, hi, hz0, hz1⟩ : ∃ i, P.info? t = some i ∧ i.zero = some (.slice none 0 0) ∧ i.size = 1 := by
        cases hq : P.info? t with
        | none => simp [hq] at hs
        | some i => simp [hq] at hs; exact ⟨i, rfl, hs.1, hs.2⟩
      have he := hk.eval (vals := vals)
      have he2 := hm.eval (vals := vals)
      rw [hv] at he
      rw [hv2] at he2
      simp only [execOp, ho, List.map_toArray, List.map_cons, List.map_nil, he, he2]
      simp [run_underlying hu, sizeOf, typeInfo, zeroValue, hi, hz0, hz1, go_sem]
    rw [hv] at hb
    rw [hv2] at hc
    exact run_value _ _ hrun ⟨_, rfl, fun d' hd' => by
      rw [hd] at hd'; cases hd'
      rw [hF]
      exact ⟨w'.heap.size, (0, 0), _, _, rfl, heap_alloc_new w' _, hb, hc⟩, ((Fr.refl _ _).alloc _), hF0.alloc _⟩
theorem map1 {ρ : Operand → Value} {x : Operand} {u : Value} (h1 : ρ x = u) : #[x].map ρ = #[u] := by simp [h1]
theorem Fact.oldParts2_parts {w0 w : World} (h : Fr0 w0 w) {t : TypeId} {b c : List UInt8} {v : Value} (hv : (Fact.oldParts2 w0 t b c).holds v w) : PartsIs w v [b, c] := by
  obtain ⟨g, fr, x, y, rfl, h2, hb, hc⟩ := hv
  refine ⟨_, 2, g, 0, rfl, by simp, by simp, fun _ => rfl, fun i hi => ?_⟩
  match i, hi with
  | 0, _ => exact ⟨x, by rw [cell_of_row _ _ _ _ _ _ h2]; rfl, hb.fr0 h⟩
  | 1, _ => exact ⟨y, by rw [cell_of_row _ _ _ _ _ _ h2]; rfl, hc.fr0 h⟩
end
end C
end Go.Proofs.YtcdfflieooopjaaDoor.Base
