/-
  From a law's walk to its row: arguments opened, the post of a law that turns nothing.
  A slice of structs of two ints that came in.
  'append(own, it...)' with the new block told: the old one or one that was made now.
  'append(own, it...)' of any count, none among them, with the new block told.
  Own rows while other blocks turn.
  'append(nil, make([]T, m)...)' of any type.
  Arrays of bytes held against each other.
  Regions that draw their order, by facts of which each may be used up by one operation (a row that is appended to in place, say): behind it that fact is asked no more. A slot that is written last keeps its old value till then.
  As Use.region, and one operation more (a store, say), that waits for all others: it stands alone behind them.
-/
import Derived.Test.YtilddigiljappaaGround
import Derived.ProofKit
import Derived.OpenShut
import Derived.Carry
import Derived.ChangeShapes
import Derived.WideShapes
import Derived.Deep.SlicePairs
import Derived.ChangeKeysEq
import Derived.Laws.StructEq
namespace Go.Proofs.Ytilddigiljappaa.Base
open Go.RowKit Go.ChangeShapes Go.WideShapes Go.ChangeAt

section
variable {H : Type} {enc : TypeId × Value → H} {P : Program} {w : World}

theorem u8_of_wf {n : Int} (h : (Lit.int .u8 n).wf = true) : ((UInt8.ofNat n.toNat).toNat : Int) = n := by
  have := bounds_u8 h
  simp
  omega

/-- a []byte that came in -/
theorem open_bytes {r : Reach} {b0 : Nat} {t e : TypeId} {v : Value} {d : DataW H} {ps : List MemPlace} (ht : P.underlying t = some (.slice e)) (he : P.underlying e = some (.int .u8)) (hc : P.cellsOf e = 1)
    (hval : Value.okWide P w r b0 t v) (hd : DataW.Trod enc P w 0 (fun _ => true) true t v d ps) : ∃ l, BytesIs w v l ∧ l.length ≤ 9223372036854775807 := by
  obtain ⟨a0, len0, cap0, rfl⟩ := okWide_slice ht hval
  obtain ⟨fuel, hf⟩ := hd
  rcases open_ints ht he hc hf with ⟨h0, _⟩ | ⟨a, len, cap, zs, h1, _, hle, hmax, hlen, _, hcell, hwf⟩
  · simp [Value.cells] at h0
    obtain ⟨rfl, rfl, rfl⟩ := h0
    exact ⟨[], BytesIs.nil w, by simp⟩
  · simp [Value.cells] at h1
    obtain ⟨rfl, rfl, rfl⟩ := h1
    simp at hlen
    have hl : ((zs.take len0).map fun n => UInt8.ofNat n.toNat).length = len0 := by simp; omega
    refine ⟨(zs.take len0).map fun n => UInt8.ofNat n.toNat, ?_, by rw [hl]; unfold maxLen at hmax; omega⟩
    obtain ⟨ab, ao, sp⟩ := a
    by_cases h0 : len0 = 0
    · subst h0
      exact ⟨some ⟨ab, ao, sp⟩, cap0, 0, 0, by rw [hl], by rw [hl]; omega, fun h => absurd h (by simp), fun j hj => absurd hj (by simp)⟩
    · have hsp : sp = none := by
        have := hcell 0 (by omega)
        rw [show (⟨ab, ao, sp⟩ : Addr).add 0 = ⟨ab, ao, sp⟩ from by simp [Addr.add]] at this
        cases sp with
        | none => rfl
        | some q => simp [World.cell?] at this; split at this <;> simp_all
      subst hsp
      refine ⟨_, cap0, ab, ao, by rw [hl], by rw [hl]; exact hle, fun _ => rfl, fun j hj => ?_⟩
      rw [hl] at hj
      have h1 := hcell j (by omega)
      rw [Addr.add_mid] at h1
      rw [h1]
      have hm : zs.getD j 0 ∈ zs := by
        rw [List.getD_eq_getElem?_getD, List.getElem?_eq_getElem (by omega)]
        exact List.getElem_mem _
      have e : ((zs.take len0).map fun n => UInt8.ofNat n.toNat).getD j 0 = UInt8.ofNat (zs.getD j 0).toNat := by
        simp [hj, show j < zs.length from by omega]
      rw [e, u8_of_wf (hwf _ hm)]

/-- a []int that reads as l -/
def IntsIs (w : World) (v : Value) (l : List Int) : Prop :=
  ∃ (a : Option Addr) (cap pb po : Nat), v = .slice a l.length cap ∧ l.length ≤ cap ∧ (0 < l.length → a = some ⟨pb, po, none⟩) ∧ (∀ j, j < l.length → w.cell? ⟨pb, po + j, none⟩ = some (.int .i64 (l.getD j 0)))
theorem IntsIs.nil (w : World) : IntsIs w (.slice none 0 0) [] := ⟨none, 0, 0, 0, rfl, Nat.le_refl _, fun h => absurd h (by simp), fun j h => absurd h (by simp)⟩
theorem IntsIs.fr {S : Nat → Prop} {w w' : World} {v : Value} {l : List Int} (h : IntsIs w v l) (hf : Fr S w w') (hs : ∀ a n c, v = .slice (some a) n c → ¬ S a.block) : IntsIs w' v l := by
  obtain ⟨a, cap, pb, po, hv, hle, ha, hc⟩ := h
  refine ⟨a, cap, pb, po, hv, hle, ha, fun j hj => ?_⟩
  have h1 := hc j hj
  have h2 := ha (by omega)
  subst h2
  rw [hf.cell (p := ⟨pb, po + j, none⟩) (World.block_lt_of_cell? w _ h1) (by have := hs ⟨pb, po, none⟩ _ _ hv; exact this)]
  exact h1
theorem IntsIs.fr0 {w w' : World} {v : Value} {l : List Int} (h : IntsIs w v l) (hf : Fr0 w w') : IntsIs w' v l := by
  obtain ⟨a, cap, pb, po, hv, hle, ha, hc⟩ := h
  refine ⟨a, cap, pb, po, hv, hle, ha, fun j hj => ?_⟩
  have h1 := hc j hj
  rw [hf.cell (p := ⟨pb, po + j, none⟩) (World.block_lt_of_cell? w _ h1) (fun f => f)]
  exact h1
theorem open_intsIs {r : Reach} {b0 : Nat} {t e : TypeId} {v : Value} {d : DataW H} {ps : List MemPlace} (ht : P.underlying t = some (.slice e)) (he : P.underlying e = some (.int .i64)) (hc : P.cellsOf e = 1)
    (hval : Value.okWide P w r b0 t v) (hd : DataW.Trod enc P w 0 (fun _ => true) true t v d ps) : ∃ l, IntsIs w v l ∧ l.length ≤ 9223372036854775807 ∧ ∀ n ∈ l, -9223372036854775808 ≤ n ∧ n ≤ 9223372036854775807 := by
  obtain ⟨a0, len0, cap0, rfl⟩ := okWide_slice ht hval
  obtain ⟨fuel, hf⟩ := hd
  rcases open_ints ht he hc hf with ⟨h0, _⟩ | ⟨a, len, cap, zs, h1, _, hle, hmax, hlen, _, hcell, hwf⟩
  · simp [Value.cells] at h0
    obtain ⟨rfl, rfl, rfl⟩ := h0
    exact ⟨[], IntsIs.nil w, by simp, fun n hn => by simp at hn⟩
  · simp [Value.cells] at h1
    obtain ⟨rfl, rfl, rfl⟩ := h1
    simp at hlen
    have hl : (zs.take len0).length = len0 := by simp; omega
    refine ⟨zs.take len0, ?_, by rw [hl]; unfold maxLen at hmax; omega, fun n hn => bounds_i64 (hwf n (List.mem_of_mem_take hn))⟩
    obtain ⟨ab, ao, sp⟩ := a
    by_cases h0 : len0 = 0
    · subst h0
      exact ⟨some ⟨ab, ao, sp⟩, cap0, 0, 0, by rw [hl], by rw [hl]; omega, fun h => absurd h (by simp), fun j hj => absurd hj (by simp)⟩
    · have hsp : sp = none := by
        have := hcell 0 (by omega)
        rw [show (⟨ab, ao, sp⟩ : Addr).add 0 = ⟨ab, ao, sp⟩ from by simp [Addr.add]] at this
        cases sp with
        | none => rfl
        | some q => simp [World.cell?] at this; split at this <;> simp_all
      subst hsp
      refine ⟨_, cap0, ab, ao, by rw [hl], by rw [hl]; exact hle, fun _ => rfl, fun j hj => ?_⟩
      rw [hl] at hj
      have h1 := hcell j (by omega)
      rw [Addr.add_mid] at h1
      rw [h1]
      simp [hj, show j < zs.length from by omega]

/-- an array of bytes that came in, by value -/
theorem open_barr {r : Reach} {b0 n : Nat} {t e : TypeId} {v : Value} {d : DataW H} {ps : List MemPlace} (ht : P.underlying t = some (.array n e)) (he : P.underlying e = some (.int .u8)) (hc : P.cellsOf e = 1) (hct : P.cellsOf t = n)
    (hval : Value.okWide P w r b0 t v) (hd : DataW.Trod enc P w 0 (fun _ => true) true t v d ps) : ∃ l : List UInt8, v = .agg (bvals l).toArray ∧ l.length = n := by
  simp only [Value.okWide, ht] at hval
  obtain ⟨cs, rfl, hcs, _⟩ := hval
  obtain ⟨fuel, hf⟩ := hd
  obtain ⟨xs, m, _, _, hlen, hxs, hall⟩ := DataW.trod_array ht hf
  simp [Value.cells] at hlen hall
  rw [hct] at hlen
  have each : ∀ i, i < n → ∃ q : Int, cs[i]? = some (.int .u8 q) ∧ (Lit.int .u8 q).wf = true := by
    intro i hi
    have h1 := hall i hi
    rw [hc, Nat.mul_one] at h1
    obtain ⟨x, hx⟩ : ∃ x, xs[i]? = some x := ⟨xs[i]'(by omega), List.getElem?_eq_getElem (by omega)⟩
    rw [hx] at h1
    obtain ⟨q, hq, _, hw⟩ := DataW.trod_int he h1
    refine ⟨q, ?_, hw⟩
    have h2 : ((cs.toList.drop i).take 1)[0]? = some (.int .u8 q) := by rw [hq]; rfl
    rw [List.getElem?_take_of_lt (by omega), List.getElem?_drop] at h2
    simpa using h2
  refine ⟨(List.range n).map fun i => UInt8.ofNat (intOf (cs[i]?.getD (.bool false))).toNat, ?_, by simp⟩
  congr 1
  apply Array.ext_getElem?
  intro i
  by_cases hi : i < n
  · obtain ⟨q, hq, hw⟩ := each i hi
    rw [hq]
    have := u8_of_wf hw
    simp [bvals, hi, hq, intOf]
    simpa using this.symm
  · rw [Array.getElem?_eq_none (by omega), Array.getElem?_eq_none (by simp [bvals]; omega)]

/-- the arguments read as they did -/
theorem trodAll_below (hl : laidOutB P = true) {W W' : World} (hb : Below W.heap.size W W') : ∀ (ts : List TypeId) (vs : List Value) (ds : List (DataW H)) (ps : List MemPlace),
    (∀ t ∈ ts, P.readableRec t = true ∧ t < P.types.size) → DataW.TrodAll enc P W 0 (fun _ => true) true ts vs ds ps → (∀ x ∈ ps, x.block < W.heap.size) →
    DataW.TrodAll enc P W' 0 (fun b => decide (b < W.heap.size)) true ts vs ds ps
  | [], vs, ds, ps, _, h, _ => by
    obtain ⟨rfl, rfl, rfl⟩ := trodAll_nil h
    exact trodAll_mk0
  | t :: ts, vs, ds, ps, hr, h, hlt => by
    obtain ⟨v, vs', d, ds', p, q, rfl, rfl, rfl, h0, hrest⟩ := trodAll_cons h
    have hr0 := hr t (by simp)
    exact trodAll_cons_mk (Below.trod hl hr0.1 hr0.2 h0 hb (fun x hx => hlt x (by simp [hx]))) (trodAll_below hl hb ts vs' ds' q (fun u hu => hr u (by simp [hu])) hrest (fun x hx => hlt x (by simp [hx])))

/-- THE POST OF A LAW: it returns true, nothing that was there has turned. -/
theorem law_post {f : Func} {s : ChangeSpec} {W W' : World} {args : Array Value} {ds gs : List (DataW H)} {before : List MemPlace} {tb : TypeId}
    (hW : DataW.Whole enc P f.params.toList s.vars false W args.toList ds gs before) (hv : s.vars = []) (hres : f.resultTypes = #[tb]) (htb : P.underlying tb = some .bool)
    (hfn : s.fn H ds = { results := [.lit (.bool true)], args := ds }) (hl : laidOutB P = true) (hr : ∀ t ∈ f.params.toList, P.readableRec t = true ∧ t < P.types.size) (hb : Below W.heap.size W W') :
    s.post enc P f false true false false W args (.bool true) W' := by
  have hW' := hW
  obtain ⟨p, q, hA, hV, rfl, _, _⟩ := hW
  rw [hv] at hV
  obtain ⟨rfl, rfl⟩ := trodVars_none hV
  simp only [List.append_nil] at hW'
  refine ⟨ds, [], p, [], p, [], hW', ?_, ?_, ?_, hb.frame _, fun h => by cases h⟩
  · rw [List.append_nil, hfn, hres]
    exact trodAll_cons_mk (p := []) (p' := []) (shut_bool htb true) trodAll_mk0
  · rw [List.append_nil, hfn]
    exact trodAll_below hl hb _ _ _ _ hr hA (fun x hx => hW'.lt x (by simpa using hx))
  · rw [hv, List.append_nil, hfn]
    rfl
end
end Go.Proofs.Ytilddigiljappaa.Base
namespace Go.Proofs.Ytilddigiljappaa.Base
open Go.RowKit Go.ChangeShapes Go.WideShapes Go.ChangeAt

/-- v is a slice of pairs of ints that reads as l -/
def PairsIs (w : World) (v : Value) (l : List (Int × Int)) : Prop :=
  ∃ (a : Option Addr) (cap pb po : Nat), v = .slice a l.length cap ∧ l.length ≤ cap ∧ (0 < l.length → a = some ⟨pb, po, none⟩) ∧
    (∀ j, j < l.length → w.cell? ⟨pb, po + j * 2, none⟩ = some (.int .i64 (l.getD j (0, 0)).1) ∧ w.cell? ⟨pb, po + j * 2 + 1, none⟩ = some (.int .i64 (l.getD j (0, 0)).2))
theorem PairsIs.fr0 {w w' : World} {v : Value} {l : List (Int × Int)} (h : PairsIs w v l) (hf : Fr0 w w') : PairsIs w' v l := by
  obtain ⟨a, cap, pb, po, hv, hle, ha, hc⟩ := h
  refine ⟨a, cap, pb, po, hv, hle, ha, fun j hj => ?_⟩
  obtain ⟨h1, h2⟩ := hc j hj
  exact ⟨(hf.cell (p := ⟨pb, po + j * 2, none⟩) (World.block_lt_of_cell? w _ h1) (fun f => f)).trans h1, (hf.cell (p := ⟨pb, po + j * 2 + 1, none⟩) (World.block_lt_of_cell? w _ h2) (fun f => f)).trans h2⟩
section
variable {H : Type} {enc : TypeId × Value → H} {P : Program} {w : World}
theorem open_pairs {r : Reach} {b0 : Nat} {t e : TypeId} {f0 f1 : Field} {v : Value} {d : DataW H} {ps : List MemPlace} (ht : P.underlying t = some (.slice e)) (he : P.underlying e = some (.struct #[f0, f1]))
    (ce : P.cellsOf e = 2) (o0 : f0.offset = 0) (o1 : f1.offset = 1) (c0 : P.cellsOf f0.type = 1) (c1 : P.cellsOf f1.type = 1) (u0 : P.underlying f0.type = some (.int .i64)) (u1 : P.underlying f1.type = some (.int .i64))
    (hval : Value.okWide P w r b0 t v) (hd : DataW.Trod enc P w 0 (fun _ => true) true t v d ps) :
    ∃ l, PairsIs w v l ∧ l.length ≤ 9223372036854775807 ∧ ∀ q ∈ l, (-9223372036854775808 ≤ q.1 ∧ q.1 ≤ 9223372036854775807) ∧ (-9223372036854775808 ≤ q.2 ∧ q.2 ≤ 9223372036854775807) := by
  obtain ⟨a0, len0, cap0, rfl⟩ := okWide_slice ht hval
  obtain ⟨fuel, hf⟩ := hd
  rcases Deep.open_slice_pairs ht he ce o0 o1 c0 c1 hf with ⟨h0, _⟩ | ⟨a, len, cap, m, n, V0, V1, D0, D1, P0, P1, h1, _, hle, hmax, hm, _, hcell⟩
  · simp [Value.cells] at h0
    obtain ⟨rfl, rfl, rfl⟩ := h0
    exact ⟨[], ⟨none, 0, 0, 0, rfl, Nat.le_refl _, fun h => absurd h (by simp), fun j hj => absurd hj (by simp)⟩, by simp, fun q hq => by simp at hq⟩
  · simp [Value.cells] at h1
    obtain ⟨rfl, rfl, rfl⟩ := h1
    have hlm : len0 ≤ m := by rw [hm]; split <;> omega
    have key : ∀ i, i < m → V0 i = .int .i64 (intOf (V0 i)) ∧ V1 i = .int .i64 (intOf (V1 i)) ∧ (-9223372036854775808 ≤ intOf (V0 i) ∧ intOf (V0 i) ≤ 9223372036854775807) ∧ (-9223372036854775808 ≤ intOf (V1 i) ∧ intOf (V1 i) ≤ 9223372036854775807) := fun i hi => by
      obtain ⟨_, _, h3, h4⟩ := hcell i hi
      obtain ⟨n0, e0, _, w0⟩ := DataW.trod_int u0 h3
      obtain ⟨n1, e1, _, w1⟩ := DataW.trod_int u1 h4
      simp only [List.cons.injEq, and_true] at e0 e1
      rw [e0, e1]
      exact ⟨rfl, rfl, bounds_i64 w0, bounds_i64 w1⟩
    obtain ⟨ab, ao, sp⟩ := a
    have hlen : ((List.range len0).map fun i => (intOf (V0 i), intOf (V1 i))).length = len0 := by simp
    refine ⟨(List.range len0).map fun i => (intOf (V0 i), intOf (V1 i)), ?_, by rw [hlen]; unfold maxLen at hmax; omega, fun q hq => ?_⟩
    · by_cases h0 : len0 = 0
      · subst h0
        exact ⟨some ⟨ab, ao, sp⟩, cap0, 0, 0, by simp, by simp, fun h => absurd h (by simp), fun j hj => absurd hj (by simp)⟩
      · have hsp : sp = none := by
          have h0 := (hcell 0 (by omega)).1
          simpa [Addr.add] using World.cell?_spot h0
        subst hsp
        refine ⟨some ⟨ab, ao, none⟩, cap0, ab, ao, by rw [hlen], by rw [hlen]; exact hle, fun _ => rfl, fun j hj => ?_⟩
        rw [hlen] at hj
        obtain ⟨h1, h2, _, _⟩ := hcell j (by omega)
        obtain ⟨k0, k1, _, _⟩ := key j (by omega)
        have hg : ((List.range len0).map fun i => (intOf (V0 i), intOf (V1 i))).getD j (0, 0) = (intOf (V0 j), intOf (V1 j)) := by
          rw [List.getD_eq_getElem?_getD, List.getElem?_map, List.getElem?_range hj]
          rfl
        rw [hg]
        rw [Addr.add_mid] at h1 h2
        exact ⟨by rw [h1, ← k0], by rw [Nat.add_assoc, h2, ← k1]⟩
    · simp only [List.mem_map, List.mem_range] at hq
      obtain ⟨i, hi, rfl⟩ := hq
      obtain ⟨_, _, k2, k3⟩ := key i (by omega)
      exact ⟨k2, k3⟩
end
end Go.Proofs.Ytilddigiljappaa.Base
namespace Go.Proofs.Ytilddigiljappaa.Base
open Go.RowKit

/-- the block of a row that was appended to -/
def NewRow (w : World) (v v' : Value) : Prop := v'.ownBlock = v.ownBlock ∨ ∀ b, v'.ownBlock = some b → w.heap.size ≤ b
section
variable {P : Program}
theorem run_append_valsN (w : World) (base : Nat) (t ty e : TypeId) (ht : P.underlying t = some (.slice e)) (z : Value) (size bytes : Nat) (hinfo : (P.info? e).map (fun i => (i.zero, i.size, i.bytes)) = some (some z, size, bytes)) (hzs : z.cells.size = size) (hsz : 0 < size)
    (v v2 : Value) (n m : Nat) (xs news : List Value) (hown : w.ownsRow base e size v n xs) (hB : ValsIs w v2 m news) (hm : 0 < m) (hl : news.length = m * size) (h1 : ∀ u ∈ news, u.oneCell' = true) (h63 : n + m ≤ maxLen) (hlen : (n + m) * bytes ≤ 140737488355328) (hbase : base ≤ w.heap.size) :
    ∃ v' w', (Builtin.append_ #[t, t] ty #[v, v2]).run P w = .ok v' w' ∧ w'.ownsRow base e size v' (n + m) (xs ++ news) ∧ w.grownBy w' v.ownBlock ∧ NewRow w v v' := by
  obtain ⟨i, hi, hz0, hz1, hz2⟩ := info_parts hinfo
  obtain ⟨a, cap, pb, po, rfl, hcap, ha, hc⟩ := hB
  obtain rfl := ha hm
  have hnews : ∀ j u, news[j]? = some u → w.cell? ((⟨pb, po, none⟩ : Addr).add j) = some u := fun j u hj => by
    have hj' : j < news.length := (List.getElem?_eq_some_iff.1 hj).1
    rw [Addr.add_mid, hc j hj', List.getD_eq_getElem?_getD, hj]; rfl
  obtain ⟨v', w', hr, h2, h3, _⟩ := run_append_own (P := P) w base t ty e i z size bytes ht hi hz0 hz1 hz2 hzs hsz v n xs hown ⟨pb, po, none⟩ m cap news hl hnews h1 h63 hlen hbase
  refine ⟨v', w', hr, h2, h3, ?_⟩
  have h63' := h63
  simp only [maxLen] at h63'
  rcases hown.2 with ⟨rfl, rfl⟩ | ⟨g, gcap, cur, rfl, hbg, hg, hnc, hcm, hcs, htake⟩
  · obtain ⟨v2, w2, hr', h2', _, _⟩ := run_append_own (P := P) w w.heap.size t ty e i z size bytes ht hi hz0 hz1 hz2 hzs hsz (.slice none 0 0) 0 [] (World.ownsRow_nil w _ _ _) ⟨pb, po, none⟩ m cap news hl hnews h1 h63 hlen (Nat.le_refl _)
    rw [hr] at hr'
    cases hr'
    exact .inr fun b hb => (h2'.lt b hb).1
  · subst hz1
    subst hz2
    by_cases hroom : n + m ≤ gcap
    · have hfit : n * i.size + news.length ≤ cur.size := by rw [hl, hcs, ← Nat.add_mul]; exact Nat.mul_le_mul_right _ hroom
      have hr' := run_append_room (P := P) w t ty e i ht hi g n gcap cur hg ⟨pb, po, none⟩ m cap news hl hnews h1 hroom hfit
      rw [hr] at hr'
      cases hr'
      exact .inl rfl
    · have holds : ∀ j u, xs[j]? = some u → w.cell? ((⟨g, 0, none⟩ : Addr).add j) = some u := hown.cells (g := g) rfl
      have hr' := run_append_grow (P := P) w t ty e i z ht hi hz0 ⟨g, 0, none⟩ n gcap xs hown.1 holds ⟨pb, po, none⟩ m cap news hl hnews (by omega) (by omega) (growslice_fits (by omega) hlen)
      rw [hr] at hr'
      cases hr'
      exact .inr fun b hb => by cases hb; exact Nat.le_refl _
theorem wpList_append_valsN {w : World} {ops : Array Oper} {rest : List Oper} {o : Oper} {a : Act} {Q : Exit → Act → World → Prop} (hgd : o.guard = none) (s x : Operand) (t : TypeId)
    (ho : o.op = .call { callee := .builtin .append, args := #[s, x], argTypes := #[t, t] }) (base : Nat) (e : TypeId) (ht : P.underlying t = some (.slice e)) (z : Value) (size bytes : Nat) (hinfo : (P.info? e).map (fun i => (i.zero, i.size, i.bytes)) = some (some z, size, bytes)) (hzs : z.cells.size = size) (hsz : 0 < size)
    (v v2 : Value) (n m : Nat) (xs news : List Value) (hs : a.eval s = v) (hx : a.eval x = v2) (hown : w.ownsRow base e size v n xs) (hB : ValsIs w v2 m news) (hm : 0 < m) (hl : news.length = m * size) (h1 : ∀ u ∈ news, u.oneCell' = true) (h63 : n + m ≤ maxLen) (hlen : (n + m) * bytes ≤ 140737488355328) (hbase : base ≤ w.heap.size)
    (h : ∀ v' w', w'.ownsRow base e size v' (n + m) (xs ++ news) → w.grownBy w' v.ownBlock → NewRow w v v' → wpList P ops Q rest (a.put o.dst v') w') : wpList P ops Q (o :: rest) a w :=
  wpList_plain hgd fun K hK => by
    obtain ⟨v', w', hr, h2, h3, h4⟩ := run_append_valsN (P := P) w base t o.type e ht z size bytes hinfo hzs hsz v v2 n m xs news hown hB hm hl h1 h63 hlen hbase
    unfold Oper.wp execOp
    simp only [ho, resolve, invoke, builtin, Sem.run_bind, Sem.run_pure, Result.andThen_ok, List.map_toArray, List.map_cons, List.map_nil, hs, hx, hr]
    exact hK _ _ (h v' w' h2 h3 h4)
theorem owns_form {w : World} {base : Nat} {e : TypeId} {size : Nat} {v : Value} {n : Nat} {xs : List Value} (h : w.ownsRow base e size v n xs) : ∃ (A : Option Addr) (C : Nat), v = .slice A n C ∧ ∀ a, A = some a → base ≤ a.block ∧ a.block < w.heap.size := by
  rcases h.2 with ⟨rfl, h0⟩ | ⟨g, cap, cur, rfl, hb, hg, _⟩
  · exact ⟨none, 0, by rw [h0], fun a ha => by cases ha⟩
  · exact ⟨_, cap, rfl, fun a ha => by cases ha; exact ⟨hb, lt_of_heap hg⟩⟩
end
end Go.Proofs.Ytilddigiljappaa.Base
namespace Go.Proofs.Ytilddigiljappaa.Base
open Go.RowKit

section
variable {P : Program}
theorem run_append_valsM (w : World) (base : Nat) (t ty e : TypeId) (ht : P.underlying t = some (.slice e)) (z : Value) (size bytes : Nat) (hinfo : (P.info? e).map (fun i => (i.zero, i.size, i.bytes)) = some (some z, size, bytes)) (hzs : z.cells.size = size) (hsz : 0 < size)
    (v v2 : Value) (n m : Nat) (xs news : List Value) (hown : w.ownsRow base e size v n xs) (hB : ValsIs w v2 m news) (hl : news.length = m * size) (h1 : ∀ u ∈ news, u.oneCell' = true) (h63 : n + m ≤ maxLen) (hlen : (n + m) * bytes ≤ 140737488355328) (hbase : base ≤ w.heap.size) :
    ∃ v' w', (Builtin.append_ #[t, t] ty #[v, v2]).run P w = .ok v' w' ∧ w'.ownsRow base e size v' (n + m) (xs ++ news) ∧ w.grownBy w' v.ownBlock ∧ NewRow w v v' := by
  rcases Nat.eq_zero_or_pos m with rfl | hm
  · obtain ⟨i, hi, hz0, hz1, hz2⟩ := info_parts hinfo
    obtain rfl : news = [] := List.eq_nil_of_length_eq_zero (by simpa using hl)
    obtain ⟨a, cap, pb, po, rfl, hcap, ha, hc⟩ := hB
    cases a with
    | none => exact ⟨v, w, run_append_none w base t ty e i size ht hi v n cap _ hown, by simpa using hown, ⟨rfl, rfl, rfl, Nat.le_refl _, fun _ _ _ => rfl⟩, .inl rfl⟩
    | some ad =>
      have hnews : ∀ j u, ([] : List Value)[j]? = some u → w.cell? (ad.add j) = some u := fun j u hj => by simp at hj
      obtain ⟨v', w', hr, h2, h3, _⟩ := run_append_own (P := P) w base t ty e i z size bytes ht hi hz0 hz1 hz2 hzs hsz v n xs hown ad 0 cap [] hl hnews h1 h63 hlen hbase
      refine ⟨v', w', hr, h2, h3, ?_⟩
      rcases hown.2 with ⟨rfl, rfl⟩ | ⟨g, gcap, cur, rfl, hbg, hg, hnc, hcm, hcs, htake⟩
      · obtain ⟨v2, w2, hr', h2', _, _⟩ := run_append_own (P := P) w w.heap.size t ty e i z size bytes ht hi hz0 hz1 hz2 hzs hsz (.slice none 0 0) 0 [] (World.ownsRow_nil w _ _ _) ad 0 cap [] hl hnews h1 h63 hlen (Nat.le_refl _)
        rw [hr] at hr'
        cases hr'
        exact .inr fun b hb => (h2'.lt b hb).1
      · subst hz1
        subst hz2
        have hfit : n * i.size + ([] : List Value).length ≤ cur.size := by rw [hcs]; simpa using Nat.mul_le_mul_right _ hnc
        have hr' := run_append_room (P := P) w t ty e i ht hi g n gcap cur hg ad 0 cap [] hl hnews h1 (by omega) hfit
        rw [hr] at hr'
        cases hr'
        exact .inl rfl
  · exact run_append_valsN w base t ty e ht z size bytes hinfo hzs hsz v v2 n m xs news hown hB hm hl h1 h63 hlen hbase
theorem wpList_append_valsM {w : World} {ops : Array Oper} {rest : List Oper} {o : Oper} {a : Act} {Q : Exit → Act → World → Prop} (hgd : o.guard = none) (s x : Operand) (t : TypeId)
    (ho : o.op = .call { callee := .builtin .append, args := #[s, x], argTypes := #[t, t] }) (base : Nat) (e : TypeId) (ht : P.underlying t = some (.slice e)) (z : Value) (size bytes : Nat) (hinfo : (P.info? e).map (fun i => (i.zero, i.size, i.bytes)) = some (some z, size, bytes)) (hzs : z.cells.size = size) (hsz : 0 < size)
    (v v2 : Value) (n m : Nat) (xs news : List Value) (hs : a.eval s = v) (hx : a.eval x = v2) (hown : w.ownsRow base e size v n xs) (hB : ValsIs w v2 m news) (hl : news.length = m * size) (h1 : ∀ u ∈ news, u.oneCell' = true) (h63 : n + m ≤ maxLen) (hlen : (n + m) * bytes ≤ 140737488355328) (hbase : base ≤ w.heap.size)
    (h : ∀ v' w', w'.ownsRow base e size v' (n + m) (xs ++ news) → w.grownBy w' v.ownBlock → NewRow w v v' → wpList P ops Q rest (a.put o.dst v') w') : wpList P ops Q (o :: rest) a w :=
  wpList_plain hgd fun K hK => by
    obtain ⟨v', w', hr, h2, h3, h4⟩ := run_append_valsM (P := P) w base t o.type e ht z size bytes hinfo hzs hsz v v2 n m xs news hown hB hl h1 h63 hlen hbase
    unfold Oper.wp execOp
    simp only [ho, resolve, invoke, builtin, Sem.run_bind, Sem.run_pure, Result.andThen_ok, List.map_toArray, List.map_cons, List.map_nil, hs, hx, hr]
    exact hK _ _ (h v' w' h2 h3 h4)
end
end Go.Proofs.Ytilddigiljappaa.Base
namespace Go.Proofs.Ytilddigiljappaa.Base
open Go.RowKit

theorem ownsFr {S : Nat → Prop} {a b : World} (h : Fr S a b) {base : Nat} {e : TypeId} {size : Nat} {v : Value} {n : Nat} {xs : List Value} (ho : a.ownsRow base e size v n xs) (hs : ∀ g, v.ownBlock = some g → ¬ S g) : b.ownsRow base e size v n xs := by
  refine ⟨ho.1, ?_⟩
  rcases ho.2 with hn | ⟨g, cap, cur, rfl, hb, hg, rest⟩
  · exact .inl hn
  · exact .inr ⟨g, cap, cur, rfl, hb, h.heap hg (hs g rfl), rest⟩
/-- the row began later than told -/
theorem ownsBase {w : World} {base base' : Nat} {e : TypeId} {size : Nat} {v : Value} {n : Nat} {xs : List Value} (h : w.ownsRow base e size v n xs) (hb : base' ≤ base) : w.ownsRow base' e size v n xs := by
  refine ⟨h.1, ?_⟩
  rcases h.2 with hn | ⟨g, cap, cur, rfl, hg, rest⟩
  · exact .inl hn
  · exact .inr ⟨g, cap, cur, rfl, Nat.le_trans hb hg, rest⟩
end Go.Proofs.Ytilddigiljappaa.Base
namespace Go.Proofs.Ytilddigiljappaa.Base
open Go.RowKit

section
variable {P : Program}
theorem run_append_make_nil (w : World) (base : Nat) (t tI ty e : TypeId) (ht : P.underlying t = some (.slice e)) (htI : P.underlying tI = some (.int .i64)) (z : Value) (size bytes : Nat) (hinfo : (P.info? e).map (fun i => (i.zero, i.size, i.bytes)) = some (some z, size, bytes)) (hzs : z.cells.size = size) (hsz : 0 < size)
    (m : Nat) (hm : 0 < m) (hlen : m * bytes ≤ 140737488355328) (hb0 : 0 < bytes) (hbase : base ≤ w.heap.size) :
    ∃ C w', (Builtin.append_ #[t, tI] ty #[.slice none 0 0, .int .i64 (m : Int)]).run P w = .ok (.slice (some ⟨w.heap.size, 0, none⟩) m C) w' ∧ m ≤ C ∧ w'.ownsRow base e size (.slice (some ⟨w.heap.size, 0, none⟩) 0 C) 0 [] ∧ w.grownBy w' none := by
  obtain ⟨i, hi, hz0, hz1, hz2⟩ := info_parts hinfo
  have hmb : m ≤ m * bytes := Nat.le_mul_of_pos_right m hb0
  have hwrap : IntKind.i64.wrap (m : Int) = (m : Int) := by rw [IntKind.wrap_i64]; omega
  have h63 : m ≤ maxLen := by unfold maxLen; omega
  have hneg : ¬ ((m : Int) < 0) := by omega
  have hfit : Builtin.nextslicecap m 0 * bytes ≤ 281474976710656 := growslice_fits (by omega) hlen
  have hge := grownCap_ge w m 0 e
  refine ⟨grownCap w m 0 e, w.drew.alloc (.cells (Builtin.zeroCells z.cells m ++ Builtin.zeroCells z.cells (grownCap w m 0 e - m)) e), ?_, hge, ⟨by simp, .inr ⟨w.heap.size, _, _, rfl, hbase, heap_alloc_new w.drew _, Nat.zero_le _, grownCap_le_maxLen w m 0 e h63, ?_, ?_⟩⟩, ⟨rfl, rfl, rfl, by simp, fun k hk _ => Go.heap_alloc_old w.drew _ hk⟩⟩
  · have h48'' : ¬ (281474976710656 < Builtin.nextslicecap m 0 * bytes) := by omega
    have h48 : ¬ ((281474976710656 : Int) < (m : Int) * (bytes : Int)) := by omega
    have h49 : ¬ (281474976710656 < m * bytes) := by omega
    have h63' : ¬ ((9223372036854775807 : Int) < (m : Int)) := by omega
    simp [Builtin.append_, run_underlying ht, run_underlying htI, sizeOf, typeInfo, zeroValue, hi, hz0, hz1, hz2, asInt, asIntOf, hwrap, h48, h49, show m ≠ 0 by omega, h48'', h63', hneg, Question.forced, newRow, grownCap, Builtin.firstCells]
    intro h0
    exact absurd h0 (Nat.ne_of_gt (Nat.mul_pos hm hsz))
  · rw [Array.size_append, size_zeroCells, size_zeroCells, hzs, ← Nat.add_mul, Nat.add_sub_cancel' hge]
  · simp
theorem wpList_append_make_nil {w : World} {ops : Array Oper} {rest : List Oper} {o : Oper} {a : Act} {Q : Exit → Act → World → Prop} (hgd : o.guard = none) (s x : Operand) (t tI : TypeId)
    (ho : o.op = .call { callee := .builtin .append, args := #[s, x], argTypes := #[t, tI] }) (base : Nat) (e : TypeId) (ht : P.underlying t = some (.slice e)) (htI : P.underlying tI = some (.int .i64)) (z : Value) (size bytes : Nat) (hinfo : (P.info? e).map (fun i => (i.zero, i.size, i.bytes)) = some (some z, size, bytes)) (hzs : z.cells.size = size) (hsz : 0 < size)
    (m : Nat) (hs : a.eval s = .slice none 0 0) (hx : a.eval x = .int .i64 (m : Int)) (hm : 0 < m) (hlen : m * bytes ≤ 140737488355328) (hb0 : 0 < bytes) (hbase : base ≤ w.heap.size)
    (h : ∀ C w', m ≤ C → w'.ownsRow base e size (.slice (some ⟨w.heap.size, 0, none⟩) 0 C) 0 [] → w.grownBy w' none → wpList P ops Q rest (a.put o.dst (.slice (some ⟨w.heap.size, 0, none⟩) m C)) w') : wpList P ops Q (o :: rest) a w :=
  wpList_plain hgd fun K hK => by
    obtain ⟨C, w', hr, h1, h2, h3⟩ := run_append_make_nil (P := P) w base t tI o.type e ht htI z size bytes hinfo hzs hsz m hm hlen hb0 hbase
    unfold Oper.wp execOp
    simp only [ho, resolve, invoke, builtin, Sem.run_bind, Sem.run_pure, Result.andThen_ok, List.map_toArray, List.map_cons, List.map_nil, hs, hx, hr]
    exact hK _ _ (h C w' h1 h2 h3)
/-- l[:hi] of a slice of any type -/
theorem cut_hi_of (t e : TypeId) (ht : P.underlying t = some (.slice e)) (size : Nat) (hs : (P.info? e).map (·.size) = some size) (a : Option Addr) (n cap hi : Nat) (h2 : hi ≤ cap) (x : Int) (hx : x = (hi : Int)) (wx : World) :
    (Instr.sliceAt t (.slice a n cap) none (some (.int .i64 x)) none).run P wx = .ok (.slice a hi cap) wx := by
  subst hx
  obtain ⟨i, hi', hz⟩ : ∃ i, P.info? e = some i ∧ i.size = size := by
    cases hq : P.info? e with
    | none => simp [hq] at hs
    | some i => exact ⟨i, rfl, by simpa [hq] using hs⟩
  have hE : P.elem t = e := by simp [Program.elem, ht]
  rw [run_sliceAt_slice wx t _ _ _ _ (by rw [hE]; exact ht), run_slice_h wx t a n cap (by rw [hE]; exact ht) .i64 (hi : Int) (by omega) (by omega), hE]
  simp [sizeOf, typeInfo, hi', hz, sliced, Sem.run_bind]
  intro _
  cases a with
  | none => rfl
  | some x => simp [Addr.add]
end
end Go.Proofs.Ytilddigiljappaa.Base
namespace Go.Proofs.Ytilddigiljappaa.Base
open Go.RowKit

section
variable {P : Program}
theorem part_cell (e : TypeId) (d : TypeDesc) (he : P.underlying e = some d) (hd : (match d with | .struct _ | .array _ _ => true | _ => false) = false) (cs : Array Value) (k : Nat) (v : Value) (hv : cs[k]? = some v) (w : World) :
    (part e cs k).run P w = .ok v w := by
  have hagg : (isAgg e).run P w = .ok false w := by
    unfold isAgg
    rw [Sem.run_bind, run_underlying he w]
    cases d <;> simp_all
  simp [part, Sem.run_bind, hagg, hv]
theorem eqItems_bytes (d : Nat) (e : TypeId) (he : P.underlying e = some (.int .u8)) (la lb : List UInt8) (n : Nat) (ha : la.length = n) (hb : lb.length = n) (w : World) : ∀ is : List Nat, (∀ i ∈ is, i < n) →
    (Op.eqItems (d + 1) e 1 (bvals la).toArray (bvals lb).toArray is).run P w = .ok (is.all fun i => la.getD i 0 == lb.getD i 0) w
  | [], _ => by simp [Op.eqItems]
  | i :: is, h => by
    have hi := h i (by simp)
    have ih := eqItems_bytes d e he la lb n ha hb w is (fun j hj => h j (by simp [hj]))
    have p1 := part_cell (P := P) e _ he rfl (bvals la).toArray i _ (by rw [toArray_get]; exact bvals_get la i (by omega)) w
    have p2 := part_cell (P := P) e _ he rfl (bvals lb).toArray i _ (by rw [toArray_get]; exact bvals_get lb i (by omega)) w
    have p3 := run_equalIn_int (P := P) w d e .u8 .u8 ((la.getD i 0).toNat : Int) ((lb.getD i 0).toNat : Int) he
    simp only [Op.eqItems, Nat.mul_one, Sem.run_bind, p1, p2, p3, Result.andThen_ok, List.all_cons]
    generalize la.getD i 0 = x
    generalize lb.getD i 0 = y
    by_cases hx : x = y
    · subst hx
      simp only [beq_self_eq_true, Bool.not_true, Bool.false_eq_true, if_false, Bool.true_and]
      exact ih
    · have h1 : (((x).toNat : Int) == ((y).toNat : Int)) = false := by
        rw [beq_eq_false_iff_ne]
        intro h2
        exact hx (UInt8.toNat_inj.1 (by omega))
      have h3 : (x == y) = false := by rw [beq_eq_false_iff_ne]; exact hx
      rw [h1, h3]
      simp
theorem all_range_eq (la lb : List UInt8) (n : Nat) (ha : la.length = n) (hb : lb.length = n) : ((List.range n).all fun i => la.getD i 0 == lb.getD i 0) = decide (la = lb) := by
  rw [Bool.eq_iff_iff, decide_eq_true_eq, List.all_eq_true]
  constructor
  · intro h
    apply List.ext_getElem?
    intro i
    by_cases hi : i < n
    · have := h i (by simpa using hi)
      rw [beq_iff_eq] at this
      simp only [List.getD_eq_getElem?_getD] at this
      rw [List.getElem?_eq_getElem (by omega), List.getElem?_eq_getElem (by omega)] at this ⊢
      simpa using this
    · rw [List.getElem?_eq_none (by omega), List.getElem?_eq_none (by omega)]
  · rintro rfl i _
    simp
theorem eq_barr (d : Nat) (t e : TypeId) (n : Nat) (hu : P.underlying t = some (.array n e)) (hs : (P.info? e).map (·.size) = some 1) (he : P.underlying e = some (.int .u8)) (la lb : List UInt8) (ha : la.length = n) (hb : lb.length = n) (w : World) :
    (Op.equalIn (d + 2) t (.agg (bvals la).toArray) (.agg (bvals lb).toArray)).run P w = .ok (decide (la = lb)) w := by
  obtain ⟨i, hi, hz⟩ : ∃ i, P.info? e = some i ∧ i.size = 1 := by
    cases hq : P.info? e with
    | none => simp [hq] at hs
    | some i => exact ⟨i, rfl, by simpa [hq] using hs⟩
  have hc : P.cellsOf e = 1 := by simp [Program.cellsOf, hi, hz]
  rw [run_equalIn_array w (d + 1) _ _ hu hi, hc, eqItems_bytes d e he la lb n ha hb w _ (fun i hi => by simpa using hi), all_range_eq la lb n ha hb]
end
end Go.Proofs.Ytilddigiljappaa.Base
namespace Go.Proofs.Ytilddigiljappaa.Base
open Go.RowKit
namespace Use

/-- k waits for i, or for one that does -/
def after (l : List Oper) (k i : Nat) : Bool := match l[k]? with
  | some o => (waits o).contains i || (waits o).any fun m => match l[m]? with
    | some om => (waits om).contains i
    | none => false
  | none => false
theorem after_done {l : List Oper} {L : Nat → Bool} (hcl : Closed l L) {k i : Nat} (h : after l k i = true) (hk : L k = true) : L i = true := by
  unfold after at h
  cases hlk : l[k]? with
  | none => rw [hlk] at h; cases h
  | some o =>
    rw [hlk] at h
    simp only [Bool.or_eq_true, List.contains_iff_mem, List.any_eq_true] at h
    rcases h with h | ⟨m, hm, h⟩
    · exact hcl k o hlk hk i h
    · have hLm := hcl k o hlk hk m hm
      cases hlm : l[m]? with
      | none => rw [hlm] at h; cases h
      | some om =>
        rw [hlm] at h
        exact hcl m om hlm hLm i (by simpa using h)
/-- slot d is made by one that comes after i -/
def late (l : List Oper) (i d : Nat) : Bool := (List.range l.length).any fun k => match l[k]? with
  | some o => o.dst == some d && after l k i
  | none => false
theorem late_of {l : List Oper} {i d k : Nat} {o : Oper} (ho : l[k]? = some o) (hd : o.dst = some d) (h : after l k i = true) : late l i d = true := by
  unfold late
  rw [List.any_eq_true]
  refine ⟨k, by simpa using (List.getElem?_eq_some_iff.1 ho).1, ?_⟩
  rw [ho]
  simp [hd, h]
theorem late_spec {l : List Oper} {i d : Nat} (h : late l i d = true) : ∃ k o, l[k]? = some o ∧ o.dst = some d ∧ after l k i = true := by
  unfold late at h
  rw [List.any_eq_true] at h
  obtain ⟨k, _, h⟩ := h
  cases hlk : l[k]? with
  | none => rw [hlk] at h; cases h
  | some o =>
    rw [hlk] at h
    simp only [Bool.and_eq_true, beq_iff_eq] at h
    exact ⟨k, o, hlk, h.1, h.2⟩
/-- slot d has been used up when i is done -/
def spent (l : List Oper) (cons : Nat → Option Nat) (i d : Nat) : Bool := match cons d with
  | some j => j == i || after l i j
  | none => false
/-- who asks for a slot is the one that uses it up, or one that that one waits for -/
def consOk (l : List Oper) (cons : Nat → Option Nat) : Bool := (List.range l.length).all fun i => match l[i]? with
  | some o => (depSlots l o).all fun d => match cons d with
    | some j => j == i || after l j i || after l i j
    | none => true
  | none => true
/-- slot d has been used up ahead of i -/
def gone (l : List Oper) (cons : Nat → Option Nat) (i d : Nat) : Bool := match cons d with
  | some j => after l i j
  | none => false

section
variable {P : Program} {Q : Exit → Act → World → Prop}
/-- one operation's obligation -/
def Step (P : Program) (l : List Oper) (Q : Exit → Act → World → Prop) (F : Nat → Value → World → Prop) (cons : Nat → Option Nat) (a : Act) (w0 : World) (i : Nat) (o : Oper) : Prop :=
  ∀ (vals : Nat → Value) (w' : World), Fr0 w0 w' → (∀ d ∈ depSlots l o, gone l cons i d = false → F d (vals d) w') → (∀ d, late l i d = true → vals d = a.tmps.getD d undef) →
    Region.wanted o (yielded l.toArray (frm a (dsts l) vals).tmps) = true ∧
      Oper.wp P o (frm a (dsts l) vals) w' (fun a'' w'' => ∃ v, a'' = (frm a (dsts l) vals).put o.dst v ∧ (∀ d, o.dst = some d → F d v w'') ∧
        (∀ d ∈ dsts l, o.dst ≠ some d → spent l cons i d = false → late l i d = false → F d (vals d) w' → F d (vals d) w'') ∧ Fr0 w0 w'') Q
theorem region {id : Nat} {l : List Oper} {a : Act} {w : World} (F : Nat → Value → World → Prop) (cons : Nat → Option Nat) (hm : P.follows .mixedOrders = true) (hl : lexical l = true) (hd : dstsOk l a.tmps.size = true) (hc : consOk l cons = true)
    (hs : ∀ (i : Nat) (o : Oper), l[i]? = some o → Step P l Q F cons a w.drew i o)
    (hQ : ∀ (vals : Nat → Value) (w' : World), Fr0 w.drew w' → (∀ d ∈ dsts l, cons d = none → F d (vals d) w') → Q .normal (frm a (dsts l) vals) w') : (Code.region id l.toArray true).wp P Q a w := by
  unfold dstsOk at hd
  simp only [Bool.and_eq_true, decide_eq_true_eq] at hd
  obtain ⟨hnd, _⟩ := hd
  have hmemd : ∀ (i : Nat) (o : Oper) (d : Nat), l[i]? = some o → o.dst = some d → d ∈ dsts l := fun i o d ho hdst => by
    unfold dsts
    rw [List.mem_filterMap]
    exact ⟨o, List.mem_of_getElem? ho, hdst⟩
  refine region_inv (fun L a' w' => Closed l L ∧ ∃ vals, a' = frm a (dsts l) vals ∧ Fr0 w.drew w' ∧ (∀ (i : Nat) (o : Oper) (d : Nat), l[i]? = some o → o.dst = some d → L i = true → (∀ j, cons d = some j → L j = false) → F d (vals d) w') ∧
      (∀ (i : Nat) (o : Oper) (d : Nat), l[i]? = some o → o.dst = some d → L i = false → vals d = a.tmps.getD d undef)) hm hl
    ⟨fun i o _ h => absurd h (by simp), fun j => a.tmps.getD j undef, (frm_start a _).symm, Fr.refl _ _, fun i o d _ _ h => by (cases h), fun i o d _ _ _ => rfl⟩ (fun i o ho L a' w' hL hw hI K hK => ?_) (fun L a' w' hall hI => ?_)
  · obtain ⟨hcl, vals, rfl, hF, hfacts, hold⟩ := hI
    have hwaits : ∀ k ∈ waits o, L k = true := fun k hk => by
      unfold waits at hk
      rw [List.mem_map] at hk
      obtain ⟨e, he, rfl⟩ := hk
      rw [List.mem_filter] at he
      exact hw e he.1 he.2
    have hcl' : Closed l (opDone L i) := fun j o' ho' hj k hk => by
      unfold opDone at hj ⊢
      by_cases hki : k = i
      · rw [if_pos hki]
      · rw [if_neg hki]
        by_cases hji : j = i
        · subst hji
          rw [ho] at ho'
          cases ho'
          exact hwaits k hk
        · rw [if_neg hji] at hj
          exact hcl j o' ho' hj k hk
    have hdep : ∀ d ∈ depSlots l o, gone l cons i d = false → F d (vals d) w' := fun d hd hgo => by
      have hd0 := hd
      unfold depSlots at hd
      rw [List.mem_filterMap] at hd
      obtain ⟨k, hk, hb⟩ := hd
      cases hlk : l[k]? with
      | none => rw [hlk] at hb; cases hb
      | some ok =>
        rw [hlk] at hb
        refine hfacts k ok d hlk hb (hwaits k hk) (fun j hj => ?_)
        unfold consOk at hc
        rw [List.all_eq_true] at hc
        have h1 := hc i (by simpa using (List.getElem?_eq_some_iff.1 ho).1)
        rw [ho] at h1
        simp only [List.all_eq_true] at h1
        have h2 := h1 d hd0
        rw [hj] at h2
        unfold gone at hgo
        rw [hj] at hgo
        simp only [hgo, Bool.or_false, Bool.or_eq_true, beq_iff_eq] at h2
        rcases h2 with h2 | h2
        · subst h2; exact hL
        · cases hLj : L j with
          | false => rfl
          | true =>
            have := after_done hcl h2 hLj
            rw [hL] at this; cases this
    obtain ⟨hwt, hst⟩ := hs i o ho vals w' hF hdep (fun d hd => by
      obtain ⟨k, ok, hk, hkd, haf⟩ := late_spec hd
      refine hold k ok d hk hkd ?_
      cases hLk : L k with
      | false => rfl
      | true =>
        have := after_done hcl haf hLk
        rw [hL] at this; cases this)
    rw [if_pos hwt]
    refine Oper.wp_mono (fun a'' w'' ⟨v, h1, h2, h3, h4⟩ => ?_) hst
    subst h1
    have keep : ∀ (j : Nat) (oj : Oper) (d : Nat), l[j]? = some oj → oj.dst = some d → j ≠ i → opDone L i j = true → (∀ j', cons d = some j' → opDone L i j' = false) → F d (vals d) w'' := fun j oj d hj hdj hji hLjd hcd => by
      have hLj : L j = true := by unfold opDone at hLjd; rwa [if_neg hji] at hLjd
      refine h3 d (hmemd j oj d hj hdj) (fun e => hji (dst_inj l hnd j i oj o d hj ho hdj e)) ?_ ?_ (hfacts j oj d hj hdj hLj (fun j' hj' => ?_))
      · unfold spent
        cases hcc : cons d with
        | none => rfl
        | some j' =>
          have h5 := hcd j' hcc
          simp only [Bool.or_eq_false_iff, beq_eq_false_iff_ne]
          refine ⟨fun e => ?_, ?_⟩
          · subst e; unfold opDone at h5; rw [if_pos rfl] at h5; cases h5
          · cases haf : after l i j' with
            | false => rfl
            | true =>
              have hx := after_done hcl' haf (by unfold opDone; rw [if_pos rfl])
              rw [h5] at hx; cases hx
      · cases hlt : late l i d with
        | false => rfl
        | true =>
          obtain ⟨k, ok, hk, hkd, haf⟩ := late_spec hlt
          obtain rfl : k = j := dst_inj l hnd k j ok oj d hk hj hkd hdj
          have := after_done hcl haf hLj
          rw [hL] at this; cases this
      · have h5 := hcd j' hj'
        unfold opDone at h5
        split at h5
        · cases h5
        · exact h5
    cases hdst : o.dst with
    | none =>
      refine hK _ _ ⟨hcl', vals, rfl, h4, fun j oj d hj hdj hLjd hcd => ?_, fun j oj d hj hdj hLjd => ?_⟩
      · by_cases hji : j = i
        · subst hji; rw [ho] at hj; cases hj; rw [hdst] at hdj; cases hdj
        · exact keep j oj d hj hdj hji hLjd hcd
      · by_cases hji : j = i
        · subst hji; rw [ho] at hj; cases hj; rw [hdst] at hdj; cases hdj
        · unfold opDone at hLjd
          rw [if_neg hji] at hLjd
          exact hold j oj d hj hdj hLjd
    | some d0 =>
      refine hK _ _ ⟨hcl', upd vals d0 v, frm_put a _ vals d0 v (hmemd i o d0 ho hdst), h4, fun j oj d hj hdj hLjd hcd => ?_, fun j oj d hj hdj hLjd => ?_⟩
      · by_cases hji : j = i
        · subst hji
          rw [ho] at hj; cases hj
          rw [hdst] at hdj; cases hdj
          unfold upd
          rw [if_pos rfl]
          exact h2 _ hdst
        · have hne : d ≠ d0 := fun e => by
            subst e
            exact hji (dst_inj l hnd j i oj o d hj ho hdj hdst)
          unfold upd
          rw [if_neg hne]
          exact keep j oj d hj hdj hji hLjd hcd
      · unfold opDone at hLjd
        by_cases hji : j = i
        · rw [if_pos hji] at hLjd; cases hLjd
        · rw [if_neg hji] at hLjd
          have hne : d ≠ d0 := fun e => by
            subst e
            exact hji (dst_inj l hnd j i oj o d hj ho hdj hdst)
          unfold upd
          rw [if_neg hne]
          exact hold j oj d hj hdj hLjd
  · obtain ⟨_, vals, rfl, hF, hfacts, _⟩ := hI
    refine hQ vals w' hF (fun d hd hc => ?_)
    unfold dsts at hd
    rw [List.mem_filterMap] at hd
    obtain ⟨o, ho, hdd⟩ := hd
    obtain ⟨i, hi⟩ := List.getElem?_of_mem ho
    exact hfacts i o d hi hdd (hall i (List.getElem?_eq_some_iff.1 hi).1) (fun j hj => by rw [hc] at hj; cases hj)
end

section
variable {P : Program} {Q : Exit → Act → World → Prop} {l : List Oper} {F : Nat → Value → World → Prop} {cons : Nat → Option Nat} {a : Act} {w0 : World} {i : Nat} {o : Oper}
theorem ff {b : Bool} {C : Prop} (h : b = false) (k : b = true) : C := by rw [h] at k; cases k
theorem op_of (ho : l[i]? = some o) {d : Option Tmp} {p : Op} {g : Option (Nat × Bool)} (h : (l[i]?).map (fun o => (o.dst, o.op, o.guard)) = some (d, p, g)) : o.dst = d ∧ o.op = p ∧ o.guard = g := by
  rw [ho] at h
  simp only [Option.map_some, Option.some.injEq, Prod.mk.injEq] at h
  exact h
/-- slot k is one that o waits for -/
structure Dep (l : List Oper) (a : Act) (o : Oper) (k : Nat) : Prop where
  mem : k ∈ dsts l
  lt : k < a.tmps.size
  dep : k ∈ depSlots l o
theorem Dep.eval {vals : Nat → Value} {k : Nat} (h : Dep l a o k) : (frm a (dsts l) vals).eval (.tmp k) = vals k := frm_eval a _ vals k h.mem h.lt
def depB (l : List Oper) (n : Nat) (o : Oper) (k : Nat) : Bool := (dsts l).contains k && decide (k < n) && (depSlots l o).contains k
def depBi (l : List Oper) (n i k : Nat) : Bool := match l[i]? with
  | some o => depB l n o k
  | none => false
theorem Dep.at {n k : Nat} (hn : a.tmps.size = n) (ho : l[i]? = some o) (h : depBi l n i k = true) : Dep l a o k := by
  unfold depBi at h
  rw [ho] at h
  unfold depB at h
  simp only [Bool.and_eq_true, decide_eq_true_eq, List.contains_iff_mem] at h
  exact ⟨h.1.1, by rw [hn]; exact h.1.2, h.2⟩
theorem eval_old {vals : Nat → Value} {k n : Nat} {X : Value} (hn : a.tmps.size = n) (hv : ∀ d, late l i d = true → vals d = a.tmps.getD d undef) (h : ((dsts l).contains k = false) ∨ (k ∈ dsts l ∧ k < n ∧ late l i k = true)) (hX : a.eval (.tmp k) = X) : (frm a (dsts l) vals).eval (.tmp k) = X := by
  rcases h with h | ⟨h1, h2, h3⟩
  · exact (frm_eval_old a _ vals k h).trans hX
  · rw [frm_eval a _ vals k h1 (by rw [hn]; exact h2), hv k h3]
    exact hX
/-- it yields u, and leaves the world alone -/
theorem value (hg : o.guard = none) (d : Nat) (hd : o.dst = some d) (h : ∀ (vals : Nat → Value) (w' : World), Fr0 w0 w' → (∀ d ∈ depSlots l o, gone l cons i d = false → F d (vals d) w') → (∀ d, late l i d = true → vals d = a.tmps.getD d undef) → ∃ u, (execOp (frm a (dsts l) vals).eval o).run P w' = .ok (.value u) w' ∧ F d u w') : Step P l Q F cons a w0 i o :=
  fun vals w' hF hdep hl => by
    obtain ⟨u, h1, h2⟩ := h vals w' hF hdep hl
    refine ⟨by simp [Region.wanted, hg], ?_⟩
    unfold Oper.wp
    rw [h1]
    exact ⟨u, rfl, fun d' hd' => by rw [hd] at hd'; cases hd'; exact h2, fun _ _ _ _ _ h => h, hF⟩
/-- it yields u, and turns the world -/
theorem turns (hg : o.guard = none) (d : Nat) (hd : o.dst = some d) (h : ∀ (vals : Nat → Value) (w' : World), Fr0 w0 w' → (∀ d ∈ depSlots l o, gone l cons i d = false → F d (vals d) w') → (∀ d, late l i d = true → vals d = a.tmps.getD d undef) →
    ∃ u w'', (execOp (frm a (dsts l) vals).eval o).run P w' = .ok (.value u) w'' ∧ F d u w'' ∧ (∀ e ∈ dsts l, e ≠ d → spent l cons i e = false → late l i e = false → F e (vals e) w' → F e (vals e) w'') ∧ Fr0 w0 w'') : Step P l Q F cons a w0 i o :=
  fun vals w' hF hdep hl => by
    obtain ⟨u, w'', h1, h2, h3, h4⟩ := h vals w' hF hdep hl
    refine ⟨by simp [Region.wanted, hg], ?_⟩
    unfold Oper.wp
    rw [h1]
    exact ⟨u, rfl, fun d' hd' => by rw [hd] at hd'; cases hd'; exact h2, fun e he hne hs hl' hx => h3 e he (fun e' => hne (by rw [e']; exact hd)) hs hl' hx, h4⟩
end
end Use
end Go.Proofs.Ytilddigiljappaa.Base
namespace Go.Proofs.Ytilddigiljappaa.Base
open Go.RowKit
namespace Use
section
variable {P : Program} {Q : Exit → Act → World → Prop}
/-- s waits for all others, or for ones that do -/
def lastB (l : List Oper) (s : Nat) : Bool := (List.range l.length).all fun i => i == s || after l s i
theorem regionL {id : Nat} {l : List Oper} {a : Act} {w : World} (F : Nat → Value → World → Prop) (cons : Nat → Option Nat) (s : Nat) (hm : P.follows .mixedOrders = true) (hl : lexical l = true) (hd : dstsOk l a.tmps.size = true) (hc : consOk l cons = true) (hlast : lastB l s = true) (hsl : s < l.length)
    (hs : ∀ (i : Nat) (o : Oper), l[i]? = some o → i ≠ s → Step P l Q F cons a w.drew i o)
    (hQ : ∀ (vals : Nat → Value) (w' : World) (os : Oper), l[s]? = some os → Fr0 w.drew w' → (∀ (i : Nat) (o : Oper) (d : Nat), l[i]? = some o → i ≠ s → o.dst = some d → cons d = none → F d (vals d) w') →
      Region.wanted os (yielded l.toArray (frm a (dsts l) vals).tmps) = true ∧ Oper.wp P os (frm a (dsts l) vals) w' (fun a'' w'' => Q .normal a'' w'') Q) : (Code.region id l.toArray true).wp P Q a w := by
  unfold dstsOk at hd
  simp only [Bool.and_eq_true, decide_eq_true_eq] at hd
  obtain ⟨hnd, _⟩ := hd
  have hmemd : ∀ (i : Nat) (o : Oper) (d : Nat), l[i]? = some o → o.dst = some d → d ∈ dsts l := fun i o d ho hdst => by
    unfold dsts
    rw [List.mem_filterMap]
    exact ⟨o, List.mem_of_getElem? ho, hdst⟩
  unfold lastB at hlast
  rw [List.all_eq_true] at hlast
  have hls : l[s]? = some l[s] := List.getElem?_eq_getElem hsl
  generalize l[s] = os at hls
  refine region_inv (fun L a' w' => (L s = true → (∀ i, i < l.length → L i = true) ∧ Q .normal a' w') ∧ (L s = false → Closed l L ∧ ∃ vals, a' = frm a (dsts l) vals ∧ Fr0 w.drew w' ∧ (∀ (i : Nat) (o : Oper) (d : Nat), l[i]? = some o → o.dst = some d → L i = true → (∀ j, cons d = some j → L j = false) → F d (vals d) w') ∧
      (∀ (i : Nat) (o : Oper) (d : Nat), l[i]? = some o → o.dst = some d → L i = false → vals d = a.tmps.getD d undef))) hm hl
    ⟨fun h => by simp at h, fun _ => ⟨fun i o _ h => absurd h (by simp), fun j => a.tmps.getD j undef, (frm_start a _).symm, Fr.refl _ _, fun i o d _ _ h => by (cases h), fun i o d _ _ _ => rfl⟩⟩ (fun i o ho L a' w' hL hw hI K hK => ?_) (fun L a' w' hall hI => (hI.1 (hall s hsl)).2)
  have hil : i < l.length := (List.getElem?_eq_some_iff.1 ho).1
  have hLs : L s = false := by
    cases h : L s with
    | false => rfl
    | true =>
      have := (hI.1 h).1 i hil
      rw [hL] at this
      cases this
  obtain ⟨hcl, vals, rfl, hF, hfacts, hold⟩ := hI.2 hLs
  have hwaits : ∀ k ∈ waits o, L k = true := fun k hk => by
    unfold waits at hk
    rw [List.mem_map] at hk
    obtain ⟨e, he, rfl⟩ := hk
    rw [List.mem_filter] at he
    exact hw e he.1 he.2
  have hcl' : Closed l (opDone L i) := fun j o' ho' hj k hk => by
    unfold opDone at hj ⊢
    by_cases hki : k = i
    · rw [if_pos hki]
    · rw [if_neg hki]
      by_cases hji : j = i
      · subst hji
        rw [ho] at ho'
        cases ho'
        exact hwaits k hk
      · rw [if_neg hji] at hj
        exact hcl j o' ho' hj k hk
  by_cases his : i = s
  · subst his
    have e : o = os := Option.some.inj (ho.symm.trans hls)
    rw [e] at hwaits ⊢
    have hall : ∀ j, j < l.length → j ≠ i → L j = true := fun j hj hji => by
      have h := hlast j (by simpa using hj)
      simp only [Bool.or_eq_true, beq_iff_eq] at h
      have h := h.resolve_left hji
      unfold after at h
      rw [hls] at h
      simp only [Bool.or_eq_true, List.contains_iff_mem, List.any_eq_true] at h
      rcases h with h | ⟨m, hm, h⟩
      · exact hwaits j h
      · have hLm := hwaits m hm
        cases hlm : l[m]? with
        | none => rw [hlm] at h; cases h
        | some om =>
          rw [hlm] at h
          exact hcl m om hlm hLm j (by simpa using h)
    obtain ⟨h1, h2⟩ := hQ vals w' os hls hF (fun j oj d hj hji hdj hcd => hfacts j oj d hj hdj (hall j (List.getElem?_eq_some_iff.1 hj).1 hji) (fun j' hj' => by rw [hcd] at hj'; cases hj'))
    rw [if_pos h1]
    refine Oper.wp_mono (fun a'' w'' h => hK _ _ ⟨fun _ => ⟨fun j hj => ?_, h⟩, fun hx => ?_⟩) h2
    · unfold opDone
      split
      · rfl
      · rename_i hne
        exact hall j hj hne
    · unfold opDone at hx
      rw [if_pos rfl] at hx
      cases hx
  have hdep : ∀ d ∈ depSlots l o, gone l cons i d = false → F d (vals d) w' := fun d hd hgo => by
    have hd0 := hd
    unfold depSlots at hd
    rw [List.mem_filterMap] at hd
    obtain ⟨k, hk, hb⟩ := hd
    cases hlk : l[k]? with
    | none => rw [hlk] at hb; cases hb
    | some ok =>
      rw [hlk] at hb
      refine hfacts k ok d hlk hb (hwaits k hk) (fun j hj => ?_)
      unfold consOk at hc
      rw [List.all_eq_true] at hc
      have h1 := hc i (by simpa using (List.getElem?_eq_some_iff.1 ho).1)
      rw [ho] at h1
      simp only [List.all_eq_true] at h1
      have h2 := h1 d hd0
      rw [hj] at h2
      unfold gone at hgo
      rw [hj] at hgo
      simp only [hgo, Bool.or_false, Bool.or_eq_true, beq_iff_eq] at h2
      rcases h2 with h2 | h2
      · subst h2; exact hL
      · cases hLj : L j with
        | false => rfl
        | true =>
          have := after_done hcl h2 hLj
          rw [hL] at this; cases this
  obtain ⟨hwt, hst⟩ := hs i o ho his vals w' hF hdep (fun d hd => by
    obtain ⟨k, ok, hk, hkd, haf⟩ := late_spec hd
    refine hold k ok d hk hkd ?_
    cases hLk : L k with
    | false => rfl
    | true =>
      have := after_done hcl haf hLk
      rw [hL] at this; cases this)
  rw [if_pos hwt]
  refine Oper.wp_mono (fun a'' w'' ⟨v, h1, h2, h3, h4⟩ => ?_) hst
  subst h1
  have keep : ∀ (j : Nat) (oj : Oper) (d : Nat), l[j]? = some oj → oj.dst = some d → j ≠ i → opDone L i j = true → (∀ j', cons d = some j' → opDone L i j' = false) → F d (vals d) w'' := fun j oj d hj hdj hji hLjd hcd => by
    have hLj : L j = true := by unfold opDone at hLjd; rwa [if_neg hji] at hLjd
    refine h3 d (hmemd j oj d hj hdj) (fun e => hji (dst_inj l hnd j i oj o d hj ho hdj e)) ?_ ?_ (hfacts j oj d hj hdj hLj (fun j' hj' => ?_))
    · unfold spent
      cases hcc : cons d with
      | none => rfl
      | some j' =>
        have h5 := hcd j' hcc
        simp only [Bool.or_eq_false_iff, beq_eq_false_iff_ne]
        refine ⟨fun e => ?_, ?_⟩
        · subst e; unfold opDone at h5; rw [if_pos rfl] at h5; cases h5
        · cases haf : after l i j' with
          | false => rfl
          | true =>
            have hx := after_done hcl' haf (by unfold opDone; rw [if_pos rfl])
            rw [h5] at hx; cases hx
    · cases hlt : late l i d with
      | false => rfl
      | true =>
        obtain ⟨k, ok, hk, hkd, haf⟩ := late_spec hlt
        obtain rfl : k = j := dst_inj l hnd k j ok oj d hk hj hkd hdj
        have := after_done hcl haf hLj
        rw [hL] at this; cases this
    · have h5 := hcd j' hj'
      unfold opDone at h5
      split at h5
      · cases h5
      · exact h5
  have hnos : ∀ X : Act, opDone L i s = true → (∀ j, j < l.length → opDone L i j = true) ∧ Q .normal X w'' := fun X hx => by
    unfold opDone at hx
    rw [if_neg (fun e => his e.symm), hLs] at hx
    cases hx
  cases hdst : o.dst with
  | none =>
    refine hK _ _ ⟨hnos _, fun _ => ⟨hcl', vals, rfl, h4, fun j oj d hj hdj hLjd hcd => ?_, fun j oj d hj hdj hLjd => ?_⟩⟩
    · by_cases hji : j = i
      · subst hji; rw [ho] at hj; cases hj; rw [hdst] at hdj; cases hdj
      · exact keep j oj d hj hdj hji hLjd hcd
    · by_cases hji : j = i
      · subst hji; rw [ho] at hj; cases hj; rw [hdst] at hdj; cases hdj
      · unfold opDone at hLjd
        rw [if_neg hji] at hLjd
        exact hold j oj d hj hdj hLjd
  | some d0 =>
    refine hK _ _ ⟨hnos _, fun _ => ⟨hcl', upd vals d0 v, frm_put a _ vals d0 v (hmemd i o d0 ho hdst), h4, fun j oj d hj hdj hLjd hcd => ?_, fun j oj d hj hdj hLjd => ?_⟩⟩
    · by_cases hji : j = i
      · subst hji
        rw [ho] at hj; cases hj
        rw [hdst] at hdj; cases hdj
        unfold upd
        rw [if_pos rfl]
        exact h2 _ hdst
      · have hne : d ≠ d0 := fun e => by
          subst e
          exact hji (dst_inj l hnd j i oj o d hj ho hdj hdst)
        unfold upd
        rw [if_neg hne]
        exact keep j oj d hj hdj hji hLjd hcd
    · unfold opDone at hLjd
      by_cases hji : j = i
      · rw [if_pos hji] at hLjd; cases hLjd
      · rw [if_neg hji] at hLjd
        have hne : d ≠ d0 := fun e => by
          subst e
          exact hji (dst_inj l hnd j i oj o d hj ho hdj hdst)
        unfold upd
        rw [if_neg hne]
        exact hold j oj d hj hdj hLjd
end
end Use
end Go.Proofs.Ytilddigiljappaa.Base
