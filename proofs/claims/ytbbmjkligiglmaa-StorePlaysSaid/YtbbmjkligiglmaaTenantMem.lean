/-
  Where tenants lie: nine cells each; rows of them. No program stands here.
-/
import Derived.Test.YtbbmjkligiglmaaTenantSpec
import Derived.Test.YtbbmjkligiglmaaPackSpec
import Derived.Test.YtbbmjkligiglmaaGround
import Derived.Test.YtbbmjkligiglmaaWays
namespace Go.Proofs.Ytbbmjkligiglmaa.Tenant
open Go.RowKit Base

def t9 (sv : Value) (t : Tn) : Array Value := #[.int .i64 t.id, sv, .int .i64 t.ri, .int .i64 t.bu, .int .i64 t.qu, .int .i64 t.ev, .int .i64 t.qe, .int .i64 t.se, .int .i64 t.re]
def c9 (sv : Value) (t : Tn) (k : Nat) : Value := (t9 sv t).getD k undef
theorem t9_one (sv : Value) (t : Tn) (h : sv.oneCell' = true) : (#[Value.int .i64 t.id, sv, .int .i64 t.ri, .int .i64 t.bu, .int .i64 t.qu, .int .i64 t.ev, .int .i64 t.qe, .int .i64 t.se, .int .i64 t.re] : Array Value).all (·.oneCell') = true := by
  rw [Array.all_eq_true_iff_forall_mem]
  intro v hv
  simp only [List.mem_toArray, List.mem_cons, List.not_mem_nil, or_false] at hv
  rcases hv with rfl | rfl | rfl | rfl | rfl | rfl | rfl | rfl | rfl
  all_goals first | exact h | rfl
abbrev At := Value × Tn
def tcells (X : List At) : List Value := X.flatMap fun p => (t9 p.1 p.2).toList
theorem tcells_length (X : List At) : (tcells X).length = X.length * 9 := by
  induction X with
  | nil => rfl
  | cons p X ih =>
    simp only [tcells, List.flatMap_cons, List.length_append, List.length_cons] at *
    rw [ih]
    show 9 + _ = _
    omega
theorem tcells_append (X Y : List At) : tcells (X ++ Y) = tcells X ++ tcells Y := by simp [tcells]
theorem tcells_get (X : List At) (i : Nat) (h : i < X.length) (k : Nat) (hk : k < 9) : (tcells X)[i * 9 + k]? = some (c9 (X[i]'h).1 (X[i]'h).2 k) := by
  induction X generalizing i with
  | nil => simp at h
  | cons p X ih =>
    have e : tcells (p :: X) = (t9 p.1 p.2).toList ++ tcells X := by simp [tcells]
    cases i with
    | zero =>
      rw [e]
      match k, hk with
      | 0, _ => rfl
      | 1, _ => rfl
      | 2, _ => rfl
      | 3, _ => rfl
      | 4, _ => rfl
      | 5, _ => rfl
      | 6, _ => rfl
      | 7, _ => rfl
      | 8, _ => rfl
    | succ i =>
      have := ih i (by simpa using h)
      have hl : ((t9 p.1 p.2).toList).length = 9 := rfl
      rw [e, List.getElem?_append_right (by rw [hl]; omega), hl]
      simp only [List.getElem_cons_succ]
      rw [show (i + 1) * 9 + k - 9 = i * 9 + k by omega]
      exact this
/-- the keys read as they should -/
def Keys (w : World) (X : List At) : Prop := ∀ p ∈ X, BytesIs w p.1 p.2.key ∧ p.1.oneCell' = true
theorem Keys.fr0 {w w' : World} {X : List At} (h : Keys w X) (hf : Fr0 w w') : Keys w' X := fun p hp => ⟨(h p hp).1.fr0 hf, (h p hp).2⟩
theorem tcells_one {w : World} {X : List At} (h : Keys w X) : ∀ u ∈ tcells X, u.oneCell' = true := by
  intro u hu
  simp only [tcells, List.mem_flatMap, t9, List.mem_cons, List.not_mem_nil, or_false] at hu
  obtain ⟨p, hp, rfl | rfl | rfl | rfl | rfl | rfl | rfl | rfl | rfl⟩ := hu
  all_goals first | exact (h p hp).2 | rfl
/-- a slice of tenants that reads as L -/
def Tens (w : World) (v : Value) (L : List Tn) : Prop := ∃ X : List At, X.map (·.2) = L ∧ Keys w X ∧ ValsIs w v X.length (tcells X)
theorem Tens.fr0 {w w' : World} {v : Value} {L : List Tn} (h : Tens w v L) (hf : Fr0 w w') : Tens w' v L := by
  obtain ⟨X, hL, hk, a, cap, pb, po, rfl, hle, ha, hcell⟩ := h
  refine ⟨X, hL, hk.fr0 hf, a, cap, pb, po, rfl, hle, ha, fun j hj => ?_⟩
  have h1 := hcell j hj
  rw [hf.cell (p := ⟨pb, po + j, none⟩) (World.block_lt_of_cell? w _ h1) (fun f => f)]
  exact h1
theorem Tens.form {w : World} {v : Value} {L : List Tn} (h : Tens w v L) : ∃ a c, v = .slice a L.length c := by
  obtain ⟨X, rfl, _, ⟨a, c, _, _, hv, _⟩⟩ := h
  exact ⟨a, c, by rw [List.length_map]; exact hv⟩
/-- tenant i of a slice: its nine cells in any later world, its key's slice -/
theorem tens_at {w : World} {a : Option Addr} {n cap : Nat} {L : List Tn} (h : Tens w (.slice a n cap) L) (i : Nat) (hi : i < L.length) :
    ∃ pb po B D, a = some ⟨pb, po, none⟩ ∧ (∀ wr, Fr0 w wr → wr.cell? ⟨pb, po + i * 9, none⟩ = some (.int .i64 (L.getD i zero).id) ∧ wr.cell? ⟨pb, po + i * 9 + 1, none⟩ = some (.slice B (L.getD i zero).key.length D) ∧ wr.cell? ⟨pb, po + i * 9 + 2, none⟩ = some (.int .i64 (L.getD i zero).ri) ∧ wr.cell? ⟨pb, po + i * 9 + 3, none⟩ = some (.int .i64 (L.getD i zero).bu) ∧
      wr.cell? ⟨pb, po + i * 9 + 4, none⟩ = some (.int .i64 (L.getD i zero).qu) ∧ wr.cell? ⟨pb, po + i * 9 + 5, none⟩ = some (.int .i64 (L.getD i zero).ev) ∧ wr.cell? ⟨pb, po + i * 9 + 6, none⟩ = some (.int .i64 (L.getD i zero).qe) ∧ wr.cell? ⟨pb, po + i * 9 + 7, none⟩ = some (.int .i64 (L.getD i zero).se) ∧ wr.cell? ⟨pb, po + i * 9 + 8, none⟩ = some (.int .i64 (L.getD i zero).re)) ∧ BytesIs w (.slice B (L.getD i zero).key.length D) (L.getD i zero).key := by
  obtain ⟨X, rfl, hk, ⟨a', cap', pb, po, hv, hle, ha, hcell⟩⟩ := h
  rw [List.length_map] at hi
  simp only [Value.slice.injEq] at hv
  have ha' := ha (by omega)
  rw [← hv.1] at ha'
  subst ha'
  have hg : (X.map (·.2)).getD i zero = (X[i]).2 := by rw [List.getD_eq_getElem?_getD, List.getElem?_map, List.getElem?_eq_getElem hi]; rfl
  rw [hg]
  have hm := hk (X[i]) (List.getElem_mem hi)
  obtain ⟨B, D, hf⟩ := hm.1.form
  have hkl := tcells_length X
  have hc : ∀ k, k < 9 → ∀ wr, Fr0 w wr → wr.cell? ⟨pb, po + i * 9 + k, none⟩ = some (c9 (X[i]).1 (X[i]).2 k) := fun k hk wr hfr => by
    have h1 := hcell (i * 9 + k) (by omega)
    rw [List.getD_eq_getElem?_getD, tcells_get X i hi k hk] at h1
    rw [Nat.add_assoc, hfr.cell (p := ⟨pb, po + (i * 9 + k), none⟩) (World.block_lt_of_cell? w _ h1) (fun f => f)]
    exact h1
  refine ⟨pb, po, B, D, rfl, fun wr hfr => ⟨hc 0 (by decide) wr hfr, ?_, hc 2 (by decide) wr hfr, hc 3 (by decide) wr hfr, hc 4 (by decide) wr hfr, hc 5 (by decide) wr hfr, hc 6 (by decide) wr hfr, hc 7 (by decide) wr hfr, hc 8 (by decide) wr hfr⟩, by rw [← hf]; exact hm.1⟩
  rw [hc 1 (by decide) wr hfr, ← hf]
  rfl
/-- a row of one's own that reads so -/
theorem tens_own {w : World} {base : Nat} {e : TypeId} {v : Value} {X : List At} (ho : w.ownsRow base e 9 v X.length (tcells X)) (hk : Keys w X) : Tens w v (X.map (·.2)) := by
  refine ⟨X, rfl, hk, ?_⟩
  have hkl := tcells_length X
  rcases ho.2 with ⟨rfl, h0⟩ | ⟨b, cap, cur, rfl, hbb, hg, hnc, hcm, hcs, ht⟩
  · rw [h0]
    have : X = [] := List.eq_nil_of_length_eq_zero h0
    subst this
    exact ValsIs.nil w
  · refine ⟨_, cap, b, 0, rfl, hnc, fun _ => rfl, fun j hj => ?_⟩
    rw [Nat.zero_add, ho.cellAt j (by omega), List.getD_eq_getElem?_getD, List.getElem?_eq_getElem hj]
    rfl
/-- what Go's types let a tenant be -/
def SizedT (t : Tn) : Prop := (-9223372036854775808 ≤ t.id ∧ t.id ≤ 9223372036854775807) ∧ t.key.length ≤ 9223372036854775807 ∧ (-9223372036854775808 ≤ t.bu ∧ t.bu ≤ 9223372036854775807) ∧ (-9223372036854775808 ≤ t.ri ∧ t.ri ≤ 9223372036854775807) ∧ (-9223372036854775808 ≤ t.qu ∧ t.qu ≤ 9223372036854775807) ∧ (-9223372036854775808 ≤ t.ev ∧ t.ev ≤ 9223372036854775807) ∧ (-9223372036854775808 ≤ t.qe ∧ t.qe ≤ 9223372036854775807) ∧ (-9223372036854775808 ≤ t.se ∧ t.se ≤ 9223372036854775807) ∧ (-9223372036854775808 ≤ t.re ∧ t.re ≤ 9223372036854775807)
/-- a tenant in a block of its own -/
structure Bx (t : TypeId) (W : World) (g : Nat) (sv : Value) (r : Tn) : Prop where
  heap : W.heap[g]? = some (.cells #[.int .i64 r.id, sv, .int .i64 r.ri, .int .i64 r.bu, .int .i64 r.qu, .int .i64 r.ev, .int .i64 r.qe, .int .i64 r.se, .int .i64 r.re] t (0, 0))
theorem Bx.fr0 {t : TypeId} {W W' : World} {g : Nat} {sv : Value} {r : Tn} (h : Bx t W g sv r) (hf : Fr0 W W') : Bx t W' g sv r := ⟨hf.heap h.heap (fun f => f)⟩
theorem Bx.new (t : TypeId) (w : World) (sv : Value) (r : Tn) : Bx t (w.alloc (.cells #[.int .i64 r.id, sv, .int .i64 r.ri, .int .i64 r.bu, .int .i64 r.qu, .int .i64 r.ev, .int .i64 r.qe, .int .i64 r.se, .int .i64 r.re] t)) w.heap.size sv r := ⟨heap_alloc_new w _⟩
theorem Bx.cells {t : TypeId} {W : World} {g : Nat} {sv : Value} {r : Tn} (h : Bx t W g sv r) : W.cell? ⟨g, 0, none⟩ = some (.int .i64 r.id) ∧ W.cell? ⟨g, 1, none⟩ = some sv ∧ W.cell? ⟨g, 2, none⟩ = some (.int .i64 r.ri) ∧ W.cell? ⟨g, 3, none⟩ = some (.int .i64 r.bu) ∧ W.cell? ⟨g, 4, none⟩ = some (.int .i64 r.qu) ∧ W.cell? ⟨g, 5, none⟩ = some (.int .i64 r.ev) ∧ W.cell? ⟨g, 6, none⟩ = some (.int .i64 r.qe) ∧ W.cell? ⟨g, 7, none⟩ = some (.int .i64 r.se) ∧ W.cell? ⟨g, 8, none⟩ = some (.int .i64 r.re) := by
  refine ⟨?_, ?_, ?_, ?_, ?_, ?_, ?_, ?_, ?_⟩
  all_goals rw [cell_of_row _ _ _ _ _ _ h.heap]; rfl
end Go.Proofs.Ytbbmjkligiglmaa.Tenant
