/-
  An answer that came in by value; a slice of answers that came in.
-/
import Derived.Test.YtjefddliebokaaaReplyRow
import Derived.Test.YtjefddliebokaaaLawQ
import Derived.ChangeArms
namespace Go.Proofs.Ytjefddliebokaaa.Reply
open Go.RowKit Go.ChangeShapes Go.WideShapes Go.ChangeAt Base Pack

instance : Inhabited Rp := ⟨zero⟩
def SizedR (r : Rp) : Prop := r.slot < 4294967296 ∧ r.body.length ≤ 9223372036854775807 ∧ (-9223372036854775808 ≤ r.st ∧ r.st ≤ 9223372036854775807)
/-- an answer that came in -/
def InR (w : World) (r : Rp) (v : Value) : Prop := ∃ A C, v = .agg (rp4 (.slice A r.body.length C) r) ∧ BytesIs w (.slice A r.body.length C) r.body
section
variable {H : Type} {enc : TypeId × Value → H} {P : Program} {w : World}
theorem reply_cells {t eb : TypeId} {f0 f1 f2 f3 : Field} {cs : List Value} {fuel : Nat} {x : DataW H × List MemPlace} (ht : P.underlying t = some (.struct #[f0, f1, f2, f3])) (hl : cs.length = 4)
    (o0 : f0.offset = 0) (o1 : f1.offset = 1) (o2 : f2.offset = 2) (o3 : f3.offset = 3) (c0 : P.cellsOf f0.type = 1) (c1 : P.cellsOf f1.type = 1) (c2 : P.cellsOf f2.type = 1) (c3 : P.cellsOf f3.type = 1)
    (u0 : P.underlying f0.type = some (.int .i64)) (u1 : P.underlying f1.type = some .bool) (u2 : P.underlying f2.type = some (.int .u32)) (u3 : P.underlying f3.type = some (.slice eb)) (ub : P.underlying eb = some (.int .u8)) (cb : P.cellsOf eb = 1)
    (h : DataW.trod enc P w 0 (fun _ => true) true fuel t cs = some x) : ∃ (r : Rp) (A : Option Addr) (C : Nat), cs = [.int .i64 r.st, .bool r.hit, .int .u32 (r.slot : Int), .slice A r.body.length C] ∧ BytesIs w (.slice A r.body.length C) r.body ∧ SizedR r := by
  obtain ⟨y0, y1, y2, y3, k, _, g0, g1, g2, g3⟩ := trod_struct4 ht h
  obtain ⟨v0, v1, v2, v3, rfl⟩ := list4 hl
  simp [o0, o1, o2, o3, c0, c1, c2, c3] at g0 g1 g2 g3
  obtain ⟨n0, x0, _, w0⟩ := DataW.trod_int u0 g0
  obtain ⟨b1, x1, _⟩ := DataW.trod_bool u1 g1
  obtain ⟨n2, x2, _, w2⟩ := DataW.trod_int u2 g2
  obtain ⟨bs, hb, hbl⟩ := bytes_cell u3 ub cb g3
  simp only [List.cons.injEq, and_true] at x0 x1 x2
  subst x0 x1 x2
  have hw2 := bounds_u32 w2
  obtain ⟨N, rfl⟩ := Int.eq_ofNat_of_zero_le hw2.1
  obtain ⟨A, C, rfl⟩ := hb.form
  exact ⟨⟨n0, b1, N, bs⟩, A, C, rfl, hb, by show N < 4294967296; omega, hbl, bounds_i64 w0⟩
theorem open_reply {r : Reach} {b0 : Nat} {t eb : TypeId} {f0 f1 f2 f3 : Field} {v : Value} {d : DataW H} {ps : List MemPlace} (ht : P.underlying t = some (.struct #[f0, f1, f2, f3])) (ct : P.cellsOf t = 4)
    (o0 : f0.offset = 0) (o1 : f1.offset = 1) (o2 : f2.offset = 2) (o3 : f3.offset = 3) (c0 : P.cellsOf f0.type = 1) (c1 : P.cellsOf f1.type = 1) (c2 : P.cellsOf f2.type = 1) (c3 : P.cellsOf f3.type = 1)
    (u0 : P.underlying f0.type = some (.int .i64)) (u1 : P.underlying f1.type = some .bool) (u2 : P.underlying f2.type = some (.int .u32)) (u3 : P.underlying f3.type = some (.slice eb)) (ub : P.underlying eb = some (.int .u8)) (cb : P.cellsOf eb = 1)
    (hval : Value.okWide P w r b0 t v) (hd : DataW.Trod enc P w 0 (fun _ => true) true t v d ps) : ∃ q : Rp, InR w q v ∧ SizedR q := by
  obtain ⟨cs, rfl, hsz⟩ := okWide_struct ht hval
  obtain ⟨fuel, hf⟩ := hd
  rw [ct] at hsz
  obtain ⟨q, A, C, hcs, hb, hs⟩ := reply_cells (cs := cs.toList) ht (by simpa using hsz) o0 o1 o2 o3 c0 c1 c2 c3 u0 u1 u2 u3 ub cb hf
  refine ⟨q, ⟨A, C, ?_, hb⟩, hs⟩
  unfold rp4
  congr 1
  apply Array.toList_inj.1
  rw [hcs]
theorem open_replies {r : Reach} {b0 : Nat} {t e eb : TypeId} {f0 f1 f2 f3 : Field} {v : Value} {d : DataW H} {ps : List MemPlace} (ht : P.underlying t = some (.slice e)) (he : P.underlying e = some (.struct #[f0, f1, f2, f3]))
    (ce : P.cellsOf e = 4) (o0 : f0.offset = 0) (o1 : f1.offset = 1) (o2 : f2.offset = 2) (o3 : f3.offset = 3) (c0 : P.cellsOf f0.type = 1) (c1 : P.cellsOf f1.type = 1) (c2 : P.cellsOf f2.type = 1) (c3 : P.cellsOf f3.type = 1)
    (u0 : P.underlying f0.type = some (.int .i64)) (u1 : P.underlying f1.type = some .bool) (u2 : P.underlying f2.type = some (.int .u32)) (u3 : P.underlying f3.type = some (.slice eb)) (ub : P.underlying eb = some (.int .u8)) (cb : P.cellsOf eb = 1)
    (hval : Value.okWide P w r b0 t v) (hd : DataW.Trod enc P w 0 (fun _ => true) true t v d ps) :
    ∃ l : List Rp, Reps w (fun _ => False) v l ∧ l.length ≤ 9223372036854775807 ∧ ∀ q ∈ l, SizedR q := by
  obtain ⟨a0, len0, cap0, rfl⟩ := okWide_slice ht hval
  obtain ⟨fuel, hf⟩ := hd
  rcases Deep.open_slice ht hf with ⟨h0, _⟩ | ⟨a, len, cap, m, n, D, Pl, h1, _, hle, hmax, hm, _, hx⟩
  · simp [Value.cells] at h0
    obtain ⟨rfl, rfl, rfl⟩ := h0
    exact ⟨[], Reps.nil w _, by simp, fun q hq => by simp at hq⟩
  · simp [Value.cells] at h1
    obtain ⟨rfl, rfl, rfl⟩ := h1
    have hlm : len0 ≤ m := by rw [hm]; split <;> omega
    have each : ∀ i, i < m → ∃ q : At, ((∀ k, k < 4 → w.cell? (a.add (i * 4 + k)) = some (r4 q.1 q.2 k)) ∧ BytesIs w q.1 q.2.body ∧ q.1.oneCell' = true) ∧ SizedR q.2 := by
      intro i hi
      obtain ⟨cs', h1, h2⟩ := hx i hi
      rw [ce] at h1
      obtain ⟨_, hlen, hcell⟩ := World.cells?_some h1
      obtain ⟨q, A, C, hcs, hb, hs⟩ := reply_cells he hlen o0 o1 o2 o3 c0 c1 c2 c3 u0 u1 u2 u3 ub cb h2
      subst hcs
      refine ⟨(.slice A q.body.length C, q), ⟨fun k hk => ?_, hb, rfl⟩, hs⟩
      have e := hcell k (by simpa using hk)
      rw [Deep.add_add] at e
      rw [e]
      match k, hk with
      | 0, _ => rfl
      | 1, _ => rfl
      | 2, _ => rfl
      | 3, _ => rfl
    obtain ⟨q, hq⟩ := Deep.choose_lt each
    obtain ⟨ab, ao, sp⟩ := a
    have hlen : ((List.range len0).map q).length = len0 := by simp
    refine ⟨((List.range len0).map q).map (·.2), ⟨(List.range len0).map q, rfl, fun p hp => ?_, ?_, fun _ _ _ _ _ f => f⟩, by rw [List.length_map, hlen]; unfold maxLen at hmax; omega, fun x hx => ?_⟩
    · simp only [List.mem_map, List.mem_range] at hp
      obtain ⟨i, hi, rfl⟩ := hp
      obtain ⟨⟨_, h2, h3⟩, _⟩ := hq i (by omega)
      exact ⟨h2, fun _ _ _ _ _ f => f, h3⟩
    · by_cases h0 : len0 = 0
      · subst h0
        exact ⟨some ⟨ab, ao, sp⟩, cap0, 0, 0, by simp, by simp, fun h => absurd h (by simp), fun j hj => by simp [acells] at hj⟩
      · have hsp : sp = none := by
          have h0 := (hq 0 (by omega)).1.1 0 (by decide)
          simpa [Addr.add] using World.cell?_spot h0
        subst hsp
        refine ⟨some ⟨ab, ao, none⟩, cap0, ab, ao, by rw [hlen], by rw [hlen]; exact hle, fun _ => rfl, fun j hj => ?_⟩
        have hkl := acells_length ((List.range len0).map q)
        have hj4 : j / 4 < len0 := by omega
        have hjj : j = j / 4 * 4 + j % 4 := by omega
        have hg := acells_get ((List.range len0).map q) (j / 4) (by omega) (j % 4) (by omega)
        obtain ⟨⟨h1, _⟩, _⟩ := hq (j / 4) (by omega)
        have h1 := h1 (j % 4) (by omega)
        rw [← hjj] at hg h1
        rw [List.getD_eq_getElem?_getD, hg]
        simp only [Addr.add_mid] at h1
        rw [h1]
        simp
    · simp only [List.map_map, List.mem_map, List.mem_range] at hx
      obtain ⟨i, hi, rfl⟩ := hx
      exact (hq i (by omega)).2
end
end Go.Proofs.Ytjefddliebokaaa.Reply
