/-
  Quotas: so many in so long. No program stands here.
-/
import Derived.Test.YtpdmglmhbdjcmaaTenantSpec
import Derived.Test.YtpdmglmhbdjcmaaBaseC
namespace Go.Proofs.Ytpdmglmhbdjcmaa.Quota
open Go.RowKit Base _root_.Go.Proofs.Ytpdmglmhbdjcmaa.Tenant

structure Qt where
  o : Int
  e : Int
  l : Int
  a : Int
def zeroQ : Qt := ⟨0, 0, 0, 0⟩
def Fit (x : Int) : Prop := -9223372036854775808 ≤ x ∧ x ≤ 9223372036854775807
def SizedQ (q : Qt) : Prop := Fit q.o ∧ Fit q.e ∧ Fit q.l ∧ Fit q.a
def goodQ (q : Qt) : Bool := inn q.o 0 1048576 && (inn q.e 1 1048576 && (inn q.l 0 q.o && inn q.a 0 (q.e - 1)))
theorem good_iff (q : Qt) : goodQ q = true ↔ (0 ≤ q.o ∧ q.o ≤ 1048576) ∧ (1 ≤ q.e ∧ q.e ≤ 1048576) ∧ (0 ≤ q.l ∧ q.l ≤ q.o) ∧ (0 ≤ q.a ∧ q.a ≤ q.e - 1) := by
  unfold goodQ
  simp only [Bool.and_eq_true, inn_iff]
theorem good_sized {q : Qt} (h : goodQ q = true) : SizedQ q := by
  have := (good_iff q).1 h
  unfold SizedQ Fit
  omega
def newOk (of ev : Int) : Bool := inn of 0 1048576 && inn ev 1 1048576
def newQ (of ev : Int) : Qt := if newOk of ev = true then ⟨of, ev, of, 0⟩ else zeroQ
def newErr (of ev : Int) : Int := if newOk of ev = true then 0 else 1
def slotQ (q : Qt) : Qt := if goodQ q = true then (if q.a + 1 = q.e then ⟨q.o, q.e, q.o, 0⟩ else ⟨q.o, q.e, q.l, q.a + 1⟩) else q
def useOk (q : Qt) : Bool := goodQ q && decide (q.l ≠ 0)
def useQ (q : Qt) : Qt := if useOk q = true then ⟨q.o, q.e, q.l - 1, q.a⟩ else q
def slotsQ (q : Qt) : Nat → Qt
  | 0 => q
  | n + 1 => slotQ (slotsQ q n)
theorem slot_good {q : Qt} (h : goodQ q = true) : goodQ (slotQ q) = true := by
  have h1 := (good_iff q).1 h
  refine (good_iff _).2 ?_
  unfold slotQ
  rw [if_pos h]
  split
  · show (0 ≤ q.o ∧ q.o ≤ 1048576) ∧ (1 ≤ q.e ∧ q.e ≤ 1048576) ∧ (0 ≤ q.o ∧ q.o ≤ q.o) ∧ ((0 : Int) ≤ 0 ∧ (0 : Int) ≤ q.e - 1)
    omega
  · show (0 ≤ q.o ∧ q.o ≤ 1048576) ∧ (1 ≤ q.e ∧ q.e ≤ 1048576) ∧ (0 ≤ q.l ∧ q.l ≤ q.o) ∧ (0 ≤ q.a + 1 ∧ q.a + 1 ≤ q.e - 1)
    omega
theorem slot_sized {q : Qt} (h : SizedQ q) : SizedQ (slotQ q) := by
  cases hg : goodQ q with
  | true => exact good_sized (slot_good hg)
  | false => unfold slotQ; rw [hg]; exact h
theorem use_good {q : Qt} (h : goodQ q = true) : goodQ (useQ q) = true := by
  have h1 := (good_iff q).1 h
  unfold useQ useOk
  split
  · rename_i hu
    simp only [Bool.and_eq_true, decide_eq_true_eq] at hu
    refine (good_iff _).2 ?_
    show (0 ≤ q.o ∧ q.o ≤ 1048576) ∧ (1 ≤ q.e ∧ q.e ≤ 1048576) ∧ (0 ≤ q.l - 1 ∧ q.l - 1 ≤ q.o) ∧ (0 ≤ q.a ∧ q.a ≤ q.e - 1)
    omega
  · exact h
theorem use_sized {q : Qt} (h : SizedQ q) : SizedQ (useQ q) := by
  cases hg : goodQ q with
  | true => exact good_sized (use_good hg)
  | false => unfold useQ useOk; rw [hg]; exact h
theorem slots_sized {q : Qt} (h : SizedQ q) : ∀ n, SizedQ (slotsQ q n)
  | 0 => h
  | n + 1 => slot_sized (slots_sized h n)
theorem new_good {of ev : Int} (h : newOk of ev = true) : goodQ (newQ of ev) = true := by
  unfold newQ
  rw [if_pos h]
  unfold newOk at h
  simp only [Bool.and_eq_true, inn_iff] at h
  refine (good_iff _).2 ?_
  show (0 ≤ of ∧ of ≤ 1048576) ∧ (1 ≤ ev ∧ ev ≤ 1048576) ∧ (0 ≤ of ∧ of ≤ of) ∧ ((0 : Int) ≤ 0 ∧ (0 : Int) ≤ ev - 1)
  omega
theorem zero_sized : SizedQ zeroQ := by
  unfold SizedQ Fit zeroQ
  decide
theorem new_sized (of ev : Int) : SizedQ (newQ of ev) := by
  cases h : newOk of ev with
  | true => exact good_sized (new_good h)
  | false => unfold newQ; rw [h]; exact zero_sized
/-- its four cells -/
def q4 (q : Qt) : Array Value := #[.int .i64 q.o, .int .i64 q.e, .int .i64 q.l, .int .i64 q.a]
theorem q4_one (q : Qt) : (#[Value.int .i64 q.o, .int .i64 q.e, .int .i64 q.l, .int .i64 q.a] : Array Value).all (·.oneCell') = true := by
  rw [Array.all_eq_true_iff_forall_mem]
  intro v hv
  simp only [List.mem_toArray, List.mem_cons, List.not_mem_nil, or_false] at hv
  rcases hv with rfl | rfl | rfl | rfl
  all_goals rfl
/-- a quota in a block of its own -/
structure Bx (t : TypeId) (W : World) (g : Nat) (q : Qt) : Prop where
  heap : W.heap[g]? = some (.cells #[.int .i64 q.o, .int .i64 q.e, .int .i64 q.l, .int .i64 q.a] t (0, 0))
theorem Bx.fr0 {t : TypeId} {W W' : World} {g : Nat} {q : Qt} (h : Bx t W g q) (hf : Fr0 W W') : Bx t W' g q := ⟨hf.heap h.heap (fun f => f)⟩
theorem Bx.new (t : TypeId) (w : World) (q : Qt) : Bx t (w.alloc (.cells #[.int .i64 q.o, .int .i64 q.e, .int .i64 q.l, .int .i64 q.a] t)) w.heap.size q := ⟨heap_alloc_new w _⟩
theorem Bx.cells {t : TypeId} {W : World} {g : Nat} {q : Qt} (h : Bx t W g q) : W.cell? ⟨g, 0, none⟩ = some (.int .i64 q.o) ∧ W.cell? ⟨g, 1, none⟩ = some (.int .i64 q.e) ∧ W.cell? ⟨g, 2, none⟩ = some (.int .i64 q.l) ∧ W.cell? ⟨g, 3, none⟩ = some (.int .i64 q.a) := by
  refine ⟨?_, ?_, ?_, ?_⟩
  all_goals rw [cell_of_row _ _ _ _ _ _ h.heap]; rfl
/-- .. told as a row -/
def qf (q : Qt) (k : Nat) : Value := (q4 q).getD k undef
theorem Bx.row {t : TypeId} {W : World} {g : Nat} {q : Qt} (h : Bx t W g q) : W.rowIs g t 4 (qf q) := rowIs_of_cells h.heap rfl (fun i hi => by
  match i, hi with
  | 0, _ => rfl
  | 1, _ => rfl
  | 2, _ => rfl
  | 3, _ => rfl)
theorem Bx.of_row {t : TypeId} {W : World} {g : Nat} {q : Qt} {f : Nat → Value} (h : W.rowIs g t 4 f) (hf : ∀ i, i < 4 → f i = qf q i) : Bx t W g q := by
  refine ⟨(row_cells h).trans ?_⟩
  have e : (List.range 4).map f = (q4 q).toList := by
    show [f 0, f 1, f 2, f 3] = _
    rw [hf 0 (by decide), hf 1 (by decide), hf 2 (by decide), hf 3 (by decide)]
    rfl
  rw [e]
  rfl
theorem Bx.set {t : TypeId} {W : World} {g : Nat} {q : Qt} (h : Bx t W g q) (k : Nat) (v : Value) (q' : Qt) (hf : ∀ i, i < 4 → (if i = k then v else qf q i) = qf q' i) : Bx t (W.setCell ⟨g, k, none⟩ v) g q' := Bx.of_row (h.row.set k v) hf
theorem Bx.setRow {t : TypeId} {W : World} {g : Nat} {q : Qt} (h : Bx t W g q) (q' : Qt) : Bx t (W.setRow g #[.int .i64 q'.o, .int .i64 q'.e, .int .i64 q'.l, .int .i64 q'.a]) g q' := ⟨setRow_heap W g _ _ _ _ h.heap⟩
theorem Bx.otherRow {t : TypeId} {W : World} {g b : Nat} {q : Qt} (h : Bx t W g q) (hne : g ≠ b) (c : Array Value) : Bx t (W.setRow b c) g q := Bx.of_row (rowIs_setRow_other h.row c hne) (fun _ _ => rfl)
theorem Bx.otherCell {t : TypeId} {W : World} {g b : Nat} {q : Qt} (h : Bx t W g q) (hne : g ≠ b) (k : Nat) (v : Value) : Bx t (W.setCell ⟨b, k, none⟩ v) g q := Bx.of_row (World.rowIs.setOther h.row (a := ⟨b, k, none⟩) hne v) (fun _ _ => rfl)
theorem Bx.lt {t : TypeId} {W : World} {g : Nat} {q : Qt} (h : Bx t W g q) : g < W.heap.size := h.row.lt
theorem Bx.thaw {t : TypeId} {W : World} {g : Nat} {q : Qt} (h : Bx t W g q) (i : Nat) : W.frozen? ⟨g, i, none⟩ = false := h.row.frozen i
/-- what a function tells whose result lies in a cell -/
theorem res1 {P : Program} {fn : Func} {p : Tmp} {t : TypeId} {d : TypeDesc} (h : fn.results = #[.cell p t]) (hu : P.underlying t = some d) (hd : (match d with | .struct _ | .array _ _ => true | _ => false) = true) (hi : (P.info? t).map (·.size) = some 4) (tmps : Array Value) {w : World} {g : Nat} {q : Qt} (hp : tmps.getD p undef = .pointer (some ⟨g, 0, none⟩)) (hg : Bx t w g q) :
    (results fn tmps).run P w = .ok (.agg (q4 q)) w := by
  have hp' : tmps[p]?.getD undef = .pointer (some ⟨g, 0, none⟩) := by simpa using hp
  simp [results, h, hp', asAddr, run_loadVar_row w g t t _ (0, 0) d hg.heap hu hd hi, q4]
theorem res2 {P : Program} {fn : Func} {p u : Tmp} {t : TypeId} {d : TypeDesc} (h : fn.results = #[.cell p t, .tmp u]) (hu : P.underlying t = some d) (hd : (match d with | .struct _ | .array _ _ => true | _ => false) = true) (hi : (P.info? t).map (·.size) = some 4) (tmps : Array Value) {w : World} {g : Nat} {q : Qt} (v : Value) (hp : tmps.getD p undef = .pointer (some ⟨g, 0, none⟩)) (hv : tmps.getD u undef = v) (hg : Bx t w g q) :
    (results fn tmps).run P w = .ok (.tuple #[.agg (q4 q), v]) w := by
  have hp' : tmps[p]?.getD undef = .pointer (some ⟨g, 0, none⟩) := by simpa using hp
  have hq' : tmps[u]?.getD undef = v := by simpa using hv
  simp [results, h, hp', hq', asAddr, run_loadVar_row w g t t _ (0, 0) d hg.heap hu hd hi, q4]
end Go.Proofs.Ytpdmglmhbdjcmaa.Quota
