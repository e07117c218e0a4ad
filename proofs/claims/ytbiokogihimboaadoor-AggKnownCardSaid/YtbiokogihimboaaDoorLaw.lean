/-
  From a law's walk to its row: arguments opened, the post of a law that turns nothing.
-/
import Derived.Test.YtbiokogihimboaaDoorBytes
import Derived.ProofKit
import Derived.OpenShut
import Derived.Carry
import Derived.ChangeShapes
import Derived.WideShapes
namespace Go.Proofs.YtbiokogihimboaaDoor.Base
open Go.RowKit Go.ChangeShapes Go.WideShapes Go.ChangeAt

section
variable {H : Type} {enc : TypeId × Value → H} {P : Program} {w : World}

theorem u8_of_wf {n : Int} (h : (Lit.int .u8 n).wf = true) : ((UInt8.ofNat n.toNat).toNat : Int) = n := by
  have := bounds_u8 h
  simp
  omega

/-- a []byte that came in -/
theorem open_bytes {r : Reach} {b0 : Nat} {t e : TypeId} {v : Value} {d : DataW H} {ps : List MemPlace} (ht : P.underlying t = some (.slice e)) (he : P.underlying e = some (.int .u8)) (hc : P.cellsOf e = 1)
    (hval : Value.okWide P w r b0 t v) (hd : DataW.Trod enc P w 0 (fun _ => true) true t v d ps) : ∃ l, BytesIs w v l ∧ l.length ≤ 9223372036854775807 := by
  obtain ⟨a0, len0, cap0, rfl⟩ := okWide_slice ht hval
  obtain ⟨fuel, hf⟩ := hd
  rcases open_ints ht he hc hf with ⟨h0, _⟩ | ⟨a, len, cap, zs, h1, _, hle, hmax, hlen, _, hcell, hwf⟩
  · simp [Value.cells] at h0
    obtain ⟨rfl, rfl, rfl⟩ := h0
    exact ⟨[], BytesIs.nil w, by simp⟩
  · simp [Value.cells] at h1
    obtain ⟨rfl, rfl, rfl⟩ := h1
    simp at hlen
    have hl : ((zs.take len0).map fun n => UInt8.ofNat n.toNat).length = len0 := by simp; omega
    refine ⟨(zs.take len0).map fun n => UInt8.ofNat n.toNat, ?_, by rw [hl]; unfold maxLen at hmax; omega⟩
    obtain ⟨ab, ao, sp⟩ := a
    by_cases h0 : len0 = 0
    · subst h0
      exact ⟨some ⟨ab, ao, sp⟩, cap0, 0, 0, by rw [hl], by rw [hl]; omega, fun h => absurd h (by simp), fun j hj => absurd hj (by simp)⟩
    · have hsp : sp = none := by
        have := hcell 0 (by omega)
        rw [show (⟨ab, ao, sp⟩ : Addr).add 0 = ⟨ab, ao, sp⟩ from by simp [Addr.add]] at this
        cases sp with
        | none => rfl
        | some q => simp [World.cell?] at this; split at this <;> simp_all
      subst hsp
      refine ⟨_, cap0, ab, ao, by rw [hl], by rw [hl]; exact hle, fun _ => rfl, fun j hj => ?_⟩
      rw [hl] at hj
      have h1 := hcell j (by omega)
      rw [Addr.add_mid] at h1
      rw [h1]
      have hm : zs.getD j 0 ∈ zs := by
        rw [List.getD_eq_getElem?_getD, List.getElem?_eq_getElem (by omega)]
        exact List.getElem_mem _
      have e : ((zs.take len0).map fun n => UInt8.ofNat n.toNat).getD j 0 = UInt8.ofNat (zs.getD j 0).toNat := by
        simp [hj, show j < zs.length from by omega]
      rw [e, u8_of_wf (hwf _ hm)]

/-- a []int that reads as l -/
def IntsIs (w : World) (v : Value) (l : List Int) : Prop :=
  ∃ (a : Option Addr) (cap pb po : Nat), v = .slice a l.length cap ∧ l.length ≤ cap ∧ (0 < l.length → a = some ⟨pb, po, none⟩) ∧ (∀ j, j < l.length → w.cell? ⟨pb, po + j, none⟩ = some (.int .i64 (l.getD j 0)))
theorem IntsIs.nil (w : World) : IntsIs w (.slice none 0 0) [] := ⟨none, 0, 0, 0, rfl, Nat.le_refl _, fun h => absurd h (by simp), fun j h => absurd h (by simp)⟩
theorem IntsIs.fr {S : Nat → Prop} {w w' : World} {v : Value} {l : List Int} (h : IntsIs w v l) (hf : Fr S w w') (hs : ∀ a n c, v = .slice (some a) n c → ¬ S a.block) : IntsIs w' v l := by
  obtain ⟨a, cap, pb, po, hv, hle, ha, hc⟩ := h
  refine ⟨a, cap, pb, po, hv, hle, ha, fun j hj => ?_⟩
  have h1 := hc j hj
  have h2 := ha (by omega)
  subst h2
  rw [hf.cell (p := ⟨pb, po + j, none⟩) (World.block_lt_of_cell? w _ h1) (by have := hs ⟨pb, po, none⟩ _ _ hv; exact this)]
  exact h1
theorem IntsIs.fr0 {w w' : World} {v : Value} {l : List Int} (h : IntsIs w v l) (hf : Fr0 w w') : IntsIs w' v l := by
  obtain ⟨a, cap, pb, po, hv, hle, ha, hc⟩ := h
  refine ⟨a, cap, pb, po, hv, hle, ha, fun j hj => ?_⟩
  have h1 := hc j hj
  rw [hf.cell (p := ⟨pb, po + j, none⟩) (World.block_lt_of_cell? w _ h1) (fun f => f)]
  exact h1
theorem open_intsIs {r : Reach} {b0 : Nat} {t e : TypeId} {v : Value} {d : DataW H} {ps : List MemPlace} (ht : P.underlying t = some (.slice e)) (he : P.underlying e = some (.int .i64)) (hc : P.cellsOf e = 1)
    (hval : Value.okWide P w r b0 t v) (hd : DataW.Trod enc P w 0 (fun _ => true) true t v d ps) : ∃ l, IntsIs w v l ∧ l.length ≤ 9223372036854775807 ∧ ∀ n ∈ l, -9223372036854775808 ≤ n ∧ n ≤ 9223372036854775807 := by
  obtain ⟨a0, len0, cap0, rfl⟩ := okWide_slice ht hval
  obtain ⟨fuel, hf⟩ := hd
  rcases open_ints ht he hc hf with ⟨h0, _⟩ | ⟨a, len, cap, zs, h1, _, hle, hmax, hlen, _, hcell, hwf⟩
  · simp [Value.cells] at h0
    obtain ⟨rfl, rfl, rfl⟩ := h0
    exact ⟨[], IntsIs.nil w, by simp, fun n hn => by simp at hn⟩
  · simp [Value.cells] at h1
    obtain ⟨rfl, rfl, rfl⟩ := h1
    simp at hlen
    have hl : (zs.take len0).length = len0 := by simp; omega
    refine ⟨zs.take len0, ?_, by rw [hl]; unfold maxLen at hmax; omega, fun n hn => bounds_i64 (hwf n (List.mem_of_mem_take hn))⟩
    obtain ⟨ab, ao, sp⟩ := a
    by_cases h0 : len0 = 0
    · subst h0
      exact ⟨some ⟨ab, ao, sp⟩, cap0, 0, 0, by rw [hl], by rw [hl]; omega, fun h => absurd h (by simp), fun j hj => absurd hj (by simp)⟩
    · have hsp : sp = none := by
        have := hcell 0 (by omega)
        rw [show (⟨ab, ao, sp⟩ : Addr).add 0 = ⟨ab, ao, sp⟩ from by simp [Addr.add]] at this
        cases sp with
        | none => rfl
        | some q => simp [World.cell?] at this; split at this <;> simp_all
      subst hsp
      refine ⟨_, cap0, ab, ao, by rw [hl], by rw [hl]; exact hle, fun _ => rfl, fun j hj => ?_⟩
      rw [hl] at hj
      have h1 := hcell j (by omega)
      rw [Addr.add_mid] at h1
      rw [h1]
      simp [hj, show j < zs.length from by omega]

/-- an array of bytes that came in, by value -/
theorem open_barr {r : Reach} {b0 n : Nat} {t e : TypeId} {v : Value} {d : DataW H} {ps : List MemPlace} (ht : P.underlying t = some (.array n e)) (he : P.underlying e = some (.int .u8)) (hc : P.cellsOf e = 1) (hct : P.cellsOf t = n)
    (hval : Value.okWide P w r b0 t v) (hd : DataW.Trod enc P w 0 (fun _ => true) true t v d ps) : ∃ l : List UInt8, v = .agg (bvals l).toArray ∧ l.length = n := by
  simp only [Value.okWide, ht] at hval
  obtain ⟨cs, rfl, hcs, _⟩ := hval
  obtain ⟨fuel, hf⟩ := hd
  obtain ⟨xs, m, _, _, hlen, hxs, hall⟩ := DataW.trod_array ht hf
  simp [Value.cells] at hlen hall
  rw [hct] at hlen
  have each : ∀ i, i < n → ∃ q : Int, cs[i]? = some (.int .u8 q) ∧ (Lit.int .u8 q).wf = true := by
    intro i hi
    have h1 := hall i hi
    rw [hc, Nat.mul_one] at h1
    obtain ⟨x, hx⟩ : ∃ x, xs[i]? = some x := ⟨xs[i]'(by omega), List.getElem?_eq_getElem (by omega)⟩
    rw [hx] at h1
    obtain ⟨q, hq, _, hw⟩ := DataW.trod_int he h1
    refine ⟨q, ?_, hw⟩
    have h2 : ((cs.toList.drop i).take 1)[0]? = some (.int .u8 q) := by rw [hq]; rfl
    rw [List.getElem?_take_of_lt (by omega), List.getElem?_drop] at h2
    simpa using h2
  refine ⟨(List.range n).map fun i => UInt8.ofNat (intOf (cs[i]?.getD (.bool false))).toNat, ?_, by simp⟩
  congr 1
  apply Array.ext_getElem?
  intro i
  by_cases hi : i < n
  · obtain ⟨q, hq, hw⟩ := each i hi
    rw [hq]
    have := u8_of_wf hw
    simp [bvals, hi, hq, intOf]
    simpa using this.symm
  · rw [Array.getElem?_eq_none (by omega), Array.getElem?_eq_none (by simp [bvals]; omega)]

/-- the arguments read as they did -/
theorem trodAll_below (hl : laidOutB P = true) {W W' : World} (hb : Below W.heap.size W W') : ∀ (ts : List TypeId) (vs : List Value) (ds : List (DataW H)) (ps : List MemPlace),
    (∀ t ∈ ts, P.readableRec t = true ∧ t < P.types.size) → DataW.TrodAll enc P W 0 (fun _ => true) true ts vs ds ps → (∀ x ∈ ps, x.block < W.heap.size) →
    DataW.TrodAll enc P W' 0 (fun b => decide (b < W.heap.size)) true ts vs ds ps
  | [], vs, ds, ps, _, h, _ => by
    obtain ⟨rfl, rfl, rfl⟩ := trodAll_nil h
    exact trodAll_mk0
  | t :: ts, vs, ds, ps, hr, h, hlt => by
    obtain ⟨v, vs', d, ds', p, q, rfl, rfl, rfl, h0, hrest⟩ := trodAll_cons h
    have hr0 := hr t (by simp)
    exact trodAll_cons_mk (Below.trod hl hr0.1 hr0.2 h0 hb (fun x hx => hlt x (by simp [hx]))) (trodAll_below hl hb ts vs' ds' q (fun u hu => hr u (by simp [hu])) hrest (fun x hx => hlt x (by simp [hx])))

/-- THE POST OF A LAW: it returns true, nothing that was there has turned. -/
theorem law_post {f : Func} {s : ChangeSpec} {W W' : World} {args : Array Value} {ds gs : List (DataW H)} {before : List MemPlace} {tb : TypeId}
    (hW : DataW.Whole enc P f.params.toList s.vars false W args.toList ds gs before) (hv : s.vars = []) (hres : f.resultTypes = #[tb]) (htb : P.underlying tb = some .bool)
    (hfn : s.fn H ds = { results := [.lit (.bool true)], args := ds }) (hl : laidOutB P = true) (hr : ∀ t ∈ f.params.toList, P.readableRec t = true ∧ t < P.types.size) (hb : Below W.heap.size W W') :
    s.post enc P f false true false false W args (.bool true) W' := by
  have hW' := hW
  obtain ⟨p, q, hA, hV, rfl, _, _⟩ := hW
  rw [hv] at hV
  obtain ⟨rfl, rfl⟩ := trodVars_none hV
  simp only [List.append_nil] at hW'
  refine ⟨ds, [], p, [], p, [], hW', ?_, ?_, ?_, hb.frame _, fun h => by cases h⟩
  · rw [List.append_nil, hfn, hres]
    exact trodAll_cons_mk (p := []) (p' := []) (shut_bool htb true) trodAll_mk0
  · rw [List.append_nil, hfn]
    exact trodAll_below hl hb _ _ _ _ hr hA (fun x hx => hW'.lt x (by simpa using hx))
  · rw [hv, List.append_nil, hfn]
    rfl
end
end Go.Proofs.YtbiokogihimboaaDoor.Base
