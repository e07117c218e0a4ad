/-
  A row of tenants that is stored into, one whole or one field; a part of a slice of tenants. No program stands here.
-/
import Derived.Test.YtjhnijcefpnldaaTenantMem
import Derived.Laws.IdiomCopy
import Derived.Deep.OwnRows
import Derived.Deep.MidRow
namespace Go.Proofs.Ytjhnijcefpnldaa.Tenant
open Go.RowKit Base

theorem fr1_setCells (g : Nat) : ∀ (vs : List Value) (o : Nat) (w0 w : World), Fr1 g w0 w → Fr1 g w0 (w.setCells g o vs)
  | [], _, _, _, h => h
  | v :: r, o, w0, w, h => fr1_setCells g r (o + 1) w0 _ (Fr.setCell h (p := ⟨g, o, none⟩) (fun _ => rfl) v)
theorem row_setCells {g n : Nat} {t : TypeId} : ∀ (vs : List Value) (o : Nat) (w : World) (f : Nat → Value), w.rowIs g t n f → (w.setCells g o vs).rowIs g t n (fun j => if o ≤ j ∧ j < o + vs.length then vs.getD (j - o) undef else f j)
  | [], o, w, f, h => h.congr (fun j _ => by rw [if_neg (by simp)])
  | v :: r, o, w, f, h => by
    have ih := row_setCells r (o + 1) _ _ (h.set o v)
    refine ih.congr (fun j _ => ?_)
    by_cases h1 : j = o
    · subst h1
      rw [if_neg (by omega), if_pos rfl, if_pos (by simp), Nat.sub_self]
      rfl
    · by_cases h2 : o + 1 ≤ j ∧ j < o + 1 + r.length
      · rw [if_pos h2, if_pos (by simp; omega)]
        rw [show j - o = (j - (o + 1)) + 1 by omega]
        rfl
      · rw [if_neg h2, if_neg h1, if_neg (by simp; omega)]
/-- a store of one cell: the world behind it is told by an equation -/
theorem wpList_store_field {P : Program} {ops : Array Oper} {rest : List Oper} {op : Oper} {a : Act} {w : World} {Q : Exit → Act → World → Prop} (hgd : op.guard = none) (ty : TypeId) (x y : Operand) (ho : op.op = .store ty x y)
    (g o : Nat) (v u : Value) (hx : a.eval x = .pointer (some ⟨g, o, none⟩)) (hy : a.eval y = v) (hc : w.cell? ⟨g, o, none⟩ = some u) (hf : w.frozen? ⟨g, o, none⟩ = false) (h1 : v.oneCell' = true) (hv : v.cells = #[v]) (hi : (P.info? ty).map (·.size) = some 1)
    (h : ∀ w', Hid (w' = w.setCell ⟨g, o, none⟩ v) → wpList P ops Q rest (a.put op.dst undef) w') : wpList P ops Q (op :: rest) a w :=
  wpList_plain hgd fun _ hK => by
    have hst : (storeVar ty ⟨g, o, none⟩ v).run P w = .ok () (w.setCell ⟨g, o, none⟩ v) := by
      have hj : ∀ j, j < [v].length → j = 0 := fun j hj => by simp at hj; exact hj
      have := run_storeCells_cells (P := P) g o [v] 0 w (fun j h => by rw [hj j h]; simp [hc]) (fun j h => by rw [hj j h]; simpa using hf) (fun u hu => by simp at hu; rw [hu]; exact h1)
      cases hq : P.info? ty with
      | none => simp [hq] at hi
      | some i =>
        have hs : i.size = 1 := by simpa [hq] using hi
        simp only [Nat.add_zero] at this
        simp [storeVar, sizeOf, typeInfo, hq, hv, hs, this, World.setCells]
    unfold Oper.wp execOp
    simp only [ho, hx, hy, Instr.storeAt, Instr.sureAddr, Sem.run_bind, Sem.run_pure, Result.andThen_ok, hst]
    exact hK _ _ (h _ (Lib.hid rfl))
def upd (F : Nat → At) (i : Nat) (p : At) : Nat → At := fun m => if m = i then p else F m
theorem upd_same (F : Nat → At) (i : Nat) (p : At) : upd F i p i = p := if_pos rfl
theorem upd_other (F : Nat → At) {i m : Nat} (p : At) (h : m ≠ i) : upd F i p m = F m := if_neg h
/-- a row of one's own of so many tenants, whose keys lie elsewhere -/
structure Bad (T : TypeId) (w0 w : World) (g N : Nat) (F : Nat → At) : Prop where
  row : w.rowIs g T (N * 9) (fun j => c9 (F (j / 9)).1 (F (j / 9)).2 (j % 9))
  keys : ∀ i, i < N → BytesIs w (F i).1 (F i).2.key ∧ (F i).1.oneCell' = true ∧ ∀ a n c, (F i).1 = .slice (some a) n c → a.block ≠ g
  base : w0.heap.size ≤ g
  fr : Fr0 w0 w
section
variable {T : TypeId} {w0 w w' : World} {g N : Nat} {F : Nat → At}
theorem Bad.fr0 (h : Bad T w0 w g N F) (hf : Fr0 w w') : Bad T w0 w' g N F :=
  ⟨hf.row h.row (fun f => f), fun i hi => ⟨(h.keys i hi).1.fr0 hf, (h.keys i hi).2⟩, h.base, h.fr.trans' hf⟩
theorem Bad.cell (h : Bad T w0 w g N F) (i k : Nat) (hi : i < N) (hk : k < 9) : w.cell? ⟨g, i * 9 + k, none⟩ = some (c9 (F i).1 (F i).2 k) := by
  have := h.row.cell (i := i * 9 + k) (by omega)
  rw [show (i * 9 + k) / 9 = i by omega, show (i * 9 + k) % 9 = k by omega] at this
  exact this
theorem Bad.frozen (h : Bad T w0 w g N F) (j : Nat) : w.frozen? ⟨g, j, none⟩ = false := h.row.frozen j
theorem Bad.there (h : Bad T w0 w g N F) (i : Nat) (hi : i < N) : w.there g (i * 9) 9 := fun j hj => ⟨by rw [h.cell i j hi hj]; rfl, h.frozen _⟩
theorem Bad.fr1 (h : Bad T w0 w g N F) {w' : World} (hf : Fr1 g w w') (i : Nat) (p : At) (hp : i < N → BytesIs w p.1 p.2.key ∧ p.1.oneCell' = true ∧ ∀ a n c, p.1 = .slice (some a) n c → a.block ≠ g)
    (hr : w'.rowIs g T (N * 9) (fun j => c9 (upd F i p (j / 9)).1 (upd F i p (j / 9)).2 (j % 9))) : Bad T w0 w' g N (upd F i p) :=
  ⟨hr, fun m hm => by
    by_cases h1 : m = i
    · subst h1
      rw [upd_same]
      obtain ⟨q1, q2, q3⟩ := hp hm
      exact ⟨q1.fr hf (fun a n c e e2 => q3 a n c e e2), q2, q3⟩
    · rw [upd_other F p h1]
      obtain ⟨q1, q2, q3⟩ := h.keys m hm
      exact ⟨q1.fr hf (fun a n c e e2 => q3 a n c e e2), q2, q3⟩, h.base, h.fr.trans hf (fun j hj e => by have e' : j = g := e; have := h.base; omega)⟩
/-- one whole -/
theorem Bad.put (h : Bad T w0 w g N F) (i : Nat) (p : At) (hp : BytesIs w p.1 p.2.key ∧ p.1.oneCell' = true ∧ ∀ a n c, p.1 = .slice (some a) n c → a.block ≠ g) : Bad T w0 (w.setCells g (i * 9) (t9 p.1 p.2).toList) g N (upd F i p) := by
  refine h.fr1 (fr1_setCells g _ _ w w (Fr.refl _ _)) i p (fun _ => hp) ((row_setCells _ _ _ _ h.row).congr (fun j hj => ?_))
  have hl : (t9 p.1 p.2).toList.length = 9 := rfl
  by_cases h1 : j / 9 = i
  · rw [if_pos (by omega), h1, upd_same]
    have : j - i * 9 = j % 9 := by omega
    rw [this]
    have h9 : j % 9 < 9 := Nat.mod_lt _ (by decide)
    generalize j % 9 = k at h9
    match k, h9 with
    | 0, _ => rfl
    | 1, _ => rfl
    | 2, _ => rfl
    | 3, _ => rfl
    | 4, _ => rfl
    | 5, _ => rfl
    | 6, _ => rfl
    | 7, _ => rfl
    | 8, _ => rfl
  · rw [if_neg (by omega), upd_other F p h1]
/-- one field -/
theorem Bad.field (h : Bad T w0 w g N F) (i k : Nat) (hk : k < 9) (v : Value) (p : At) (hc : ∀ j, j < 9 → c9 p.1 p.2 j = if j = k then v else c9 (F i).1 (F i).2 j) (hp : i < N → BytesIs w p.1 p.2.key ∧ p.1.oneCell' = true ∧ ∀ a n c, p.1 = .slice (some a) n c → a.block ≠ g) (o : Nat) (ho : o = i * 9 + k) :
    Bad T w0 (w.setCell ⟨g, o, none⟩ v) g N (upd F i p) := by
  subst ho
  refine h.fr1 (Fr.setCell (S := fun j => j = g) (Fr.refl _ _) (p := ⟨g, i * 9 + k, none⟩) (fun _ => rfl) v) i p hp ((h.row.set _ v).congr (fun j hj => ?_))
  by_cases h1 : j / 9 = i
  · rw [h1, upd_same, hc (j % 9) (Nat.mod_lt _ (by decide))]
    by_cases h2 : j % 9 = k
    · rw [if_pos (by omega), if_pos h2]
    · rw [if_neg (by omega), if_neg h2]
  · rw [if_neg (by omega), upd_other F p h1]
theorem Bad.tens (h : Bad T w0 w g N F) : Tens w (.slice (some ⟨g, 0, none⟩) N N) ((List.range N).map fun i => (F i).2) := by
  refine ⟨(List.range N).map F, by simp, fun p hp => ?_, some ⟨g, 0, none⟩, N, g, 0, by simp, by simp, fun _ => rfl, fun j hj => ?_⟩
  · obtain ⟨i, hi, rfl⟩ := List.mem_map.1 hp
    have := h.keys i (List.mem_range.1 hi)
    exact ⟨this.1, this.2.1⟩
  · have hj9 : j < N * 9 := by rw [tcells_length] at hj; simpa using hj
    have h1 := h.row.cell hj9
    have h2 := tcells_get ((List.range N).map F) (j / 9) (by simp; omega) (j % 9) (Nat.mod_lt _ (by decide))
    rw [show j / 9 * 9 + j % 9 = j by omega] at h2
    rw [Nat.zero_add, h1, List.getD_eq_getElem?_getD, h2]
    simp
end
/-- a part of a slice of tenants -/
theorem tens_part {w : World} {a : Option Addr} {n cap : Nat} {L : List Tn} (h : Tens w (.slice a n cap) L) (lo hi : Nat) (h1 : lo ≤ hi) (h2 : hi ≤ L.length) : Tens w (sliced a lo hi cap 9) ((L.drop lo).take (hi - lo)) := by
  obtain ⟨X, rfl, hk, a', cap', pb, po, hv, hle, ha, hcell⟩ := h
  simp only [Value.slice.injEq] at hv
  obtain ⟨rfl, rfl, rfl⟩ := hv
  rw [List.length_map] at h2
  have hlx : ((X.drop lo).take (hi - lo)).length = hi - lo := by simp; omega
  have htl := tcells_length ((X.drop lo).take (hi - lo))
  rw [hlx] at htl
  have hall : tcells X = tcells (X.take lo) ++ (tcells ((X.drop lo).take (hi - lo)) ++ tcells ((X.drop lo).drop (hi - lo))) := by
    rw [← tcells_append, ← tcells_append, List.take_append_drop, List.take_append_drop]
  have hl0 := tcells_length (X.take lo)
  rw [List.length_take, Nat.min_eq_left (by omega)] at hl0
  refine ⟨(X.drop lo).take (hi - lo), by rw [List.map_take, List.map_drop], fun p hp => hk p (List.mem_of_mem_drop (List.mem_of_mem_take hp)), _, cap - lo, pb, po + lo * 9, by unfold sliced; rw [hlx], by rw [hlx]; omega, fun h0 => ?_, fun j hj => ?_⟩
  · rw [hlx] at h0
    rw [if_neg (by omega), ha (by omega)]
    simp [Addr.add_mid]
  · rw [htl] at hj
    have hX := tcells_length X
    have := hcell (lo * 9 + j) (by rw [hX]; omega)
    rw [Nat.add_assoc, this, hall, List.getD_eq_getElem?_getD, List.getD_eq_getElem?_getD, List.getElem?_append_right (by omega), hl0, show lo * 9 + j - lo * 9 = j by omega, List.getElem?_append_left (by omega)]
theorem tens_cutH {P : Program} (t e : TypeId) (ht : P.underlying t = some (.slice e)) (hs : (P.info? e).map (·.size) = some 9) {w : World} {a : Option Addr} {n cap : Nat} {L : List Tn} (h : Tens w (.slice a n cap) L) (hi : Nat) (h2 : hi ≤ L.length) (y : Int) (hy : y = (hi : Int)) :
    (∀ wx : World, (Instr.sliceAt t (.slice a n cap) none (some (.int .i64 y)) none).run P wx = .ok (.slice a hi cap) wx) ∧ Tens w (.slice a hi cap) (L.take hi) := by
  subst hy
  obtain ⟨i, hi', hz⟩ : ∃ i, P.info? e = some i ∧ i.size = 9 := by
    cases hq : P.info? e with
    | none => simp [hq] at hs
    | some i => exact ⟨i, rfl, by simpa [hq] using hs⟩
  have hE : P.elem t = e := by simp [Program.elem, ht]
  have hcap : L.length ≤ cap := by
    obtain ⟨X, rfl, _, a', cap', _, _, hv, hle, _⟩ := h
    simp only [Value.slice.injEq] at hv
    rw [List.length_map, hv.2.2]; exact hle
  have hsl : sliced a 0 hi cap 9 = .slice a hi cap := by
    unfold sliced
    by_cases h0 : cap = 0
    · rw [if_pos h0]; rfl
    · rw [if_neg h0, Nat.zero_mul]
      cases a with
      | none => rfl
      | some x => simp [Addr.add]
  have hp := tens_part h 0 hi (Nat.zero_le _) h2
  rw [hsl] at hp
  refine ⟨fun wx => ?_, by simpa using hp⟩
  rw [run_sliceAt_slice wx t _ _ _ _ (by rw [hE]; exact ht), run_slice_h wx t a n cap (by rw [hE]; exact ht) .i64 (hi : Int) (by omega) (by omega), hE]
  simp only [sizeOf, typeInfo, Sem.run_bind]
  simp [hi', hz, ← hsl]
theorem tens_cut {P : Program} (t e : TypeId) (ht : P.underlying t = some (.slice e)) (hs : (P.info? e).map (·.size) = some 9) {w : World} {a : Option Addr} {n cap : Nat} {L : List Tn} (h : Tens w (.slice a n cap) L) (lo hi : Nat) (h1 : lo ≤ hi) (h2 : hi ≤ L.length) (x y : Int) (hx : x = (lo : Int)) (hy : y = (hi : Int)) :
    ∃ A, (∀ wx : World, (Instr.sliceAt t (.slice a n cap) (some (.int .i64 x)) (some (.int .i64 y)) none).run P wx = .ok (.slice A (hi - lo) (cap - lo)) wx) ∧ Tens w (.slice A (hi - lo) (cap - lo)) ((L.drop lo).take (hi - lo)) := by
  subst hx hy
  obtain ⟨i, hi', hz⟩ : ∃ i, P.info? e = some i ∧ i.size = 9 := by
    cases hq : P.info? e with
    | none => simp [hq] at hs
    | some i => exact ⟨i, rfl, by simpa [hq] using hs⟩
  have hE : P.elem t = e := by simp [Program.elem, ht]
  have hcap : L.length ≤ cap := by
    obtain ⟨X, rfl, _, a', cap', _, _, hv, hle, _⟩ := h
    simp only [Value.slice.injEq] at hv
    rw [List.length_map, hv.2.2]; exact hle
  refine ⟨_, fun wx => ?_, tens_part h lo hi h1 h2⟩
  rw [run_sliceAt_slice wx t _ _ _ _ (by rw [hE]; exact ht), run_slice_lh wx t a n cap (by rw [hE]; exact ht) .i64 .i64 (lo : Int) (hi : Int) (by omega) (by omega) (by omega), hE]
  simp only [sizeOf, typeInfo, Sem.run_bind]
  simp [hi', hz, sliced]
end Go.Proofs.Ytjhnijcefpnldaa.Tenant
