/-
  Small general facts for the walks: a frame by a set of blocks, whole rows stored and loaded, cuts of arrays. No program stands here.
-/
import Derived.WalkKit
import Derived.WalkSpells
import Derived.WalkLawsBesides
import Derived.Deep.OwnRows
import Derived.Deep.MidRow
import Derived.Deep.Draws
import Derived.Laws.CopyOwn
import Derived.Lib.Hide
namespace Go.Proofs.YtbiokogihimboaaDoor.Base
open Go.RowKit

/-- Of the blocks that were there only those in S may have turned. -/
structure Fr (S : Nat → Prop) (w w' : World) : Prop where
  os : w'.os = w.os
  tape : w'.tape = w.tape
  output : w'.output = w.output
  size : w.heap.size ≤ w'.heap.size
  block : ∀ k, k < w.heap.size → ¬ S k → w'.heap[k]? = w.heap[k]?

namespace Fr
variable {S T : Nat → Prop} {a b c w w' : World}
theorem refl (S : Nat → Prop) (w : World) : Fr S w w := ⟨rfl, rfl, rfl, Nat.le_refl _, fun _ _ _ => rfl⟩
theorem trans (h : Fr S a b) (k : Fr T b c) (hT : ∀ i, i < a.heap.size → T i → S i) : Fr S a c :=
  ⟨k.os.trans h.os, k.tape.trans h.tape, k.output.trans h.output, Nat.le_trans h.size k.size, fun i hi hs => (k.block i (Nat.lt_of_lt_of_le hi h.size) (fun t => hs (hT i hi t))).trans (h.block i hi hs)⟩
theorem trans' (h : Fr S a b) (k : Fr S b c) : Fr S a c := h.trans k (fun _ _ t => t)
theorem mono (h : Fr S a b) (hS : ∀ i, i < a.heap.size → S i → T i) : Fr T a b := ⟨h.os, h.tape, h.output, h.size, fun i hi ht => h.block i hi (fun s => ht (hS i hi s))⟩
theorem drew (h : Fr S a w) : Fr S a w.drew := ⟨h.os, h.tape, h.output, h.size, h.block⟩
theorem drewN (h : Fr S a w) (n : Nat) : Fr S a (w.drewN n) := ⟨h.os, h.tape, h.output, h.size, h.block⟩
theorem alloc (h : Fr S a w) (o : Obj) : Fr S a (w.alloc o) :=
  h.trans' ⟨rfl, rfl, rfl, by simp, fun k hk _ => Below.heap_alloc _ _ _ hk⟩
theorem setCell (h : Fr S a w) {p : Addr} (hp : p.block < a.heap.size → S p.block) (u : Value) : Fr S a (w.setCell p u) :=
  ⟨h.os, h.tape, h.output, by simpa [World.setCell] using h.size, fun k hk hs => (Below.heap_setCell _ _ _ _ (fun e => hs (by subst e; exact hp hk))).trans (h.block k hk hs)⟩
theorem setRow (h : Fr S a w) {g : Nat} (hp : g < a.heap.size → S g) (cs : Array Value) : Fr S a (w.setRow g cs) :=
  ⟨h.os, h.tape, h.output, by simpa using h.size, fun k hk hs => (setRow_other _ _ _ _ (fun e => hs (by subst e; exact hp hk))).trans (h.block k hk hs)⟩
theorem of_below (h : Below w.heap.size w w') : Fr S w w' := ⟨h.os, h.tape, h.output, h.size, fun k hk _ => h.block k hk⟩
theorem of_grown {row : Option Nat} (h : w.grownBy w' row) (hr : ∀ k, k < w.heap.size → row = some k → S k) : Fr S w w' :=
  ⟨h.os, h.tape, h.output, h.size, fun k hk hs => h.block k hk (fun e => hs (hr k hk e.symm))⟩
theorem grown {row : Option Nat} (h : Fr S a w) (hg : w.grownBy w' row) (hr : ∀ k, k < a.heap.size → row = some k → S k) : Fr S a w' :=
  h.trans (T := fun k => row = some k) ⟨hg.os, hg.tape, hg.output, hg.size, fun k hk hs => hg.block k hk (fun e => hs e.symm)⟩ hr
theorem below (h : Fr S w w') (hS : ∀ i, i < w.heap.size → ¬ S i) : Below w.heap.size w w' := ⟨h.os, h.tape, h.output, h.size, fun k hk => h.block k hk (hS k hk)⟩
theorem cell (h : Fr S w w') {p : Addr} (hp : p.block < w.heap.size) (hs : ¬ S p.block) : w'.cell? p = w.cell? p := World.cell?_of_block (w := w) (h.block p.block hp hs)
theorem frozen (h : Fr S w w') {p : Addr} (hp : p.block < w.heap.size) (hs : ¬ S p.block) : w'.frozen? p = w.frozen? p := World.frozen?_of_block (w := w) (h.block p.block hp hs)
theorem row {t : TypeId} {n g : Nat} {f : Nat → Value} (h : Fr S w w') (hr : w.rowIs g t n f) (hs : ¬ S g) : w'.rowIs g t n f := hr.of_block (h.block g hr.lt hs)
theorem heap {g : Nat} {o : Obj} (h : Fr S w w') (hr : w.heap[g]? = some o) (hs : ¬ S g) : w'.heap[g]? = some o :=
  (h.block g (by obtain ⟨hlt, _⟩ := Array.getElem?_eq_some_iff.1 hr; exact hlt) hs).trans hr
end Fr
theorem lt_of_heap {w : World} {g : Nat} {o : Obj} (hr : w.heap[g]? = some o) : g < w.heap.size := by obtain ⟨hlt, _⟩ := Array.getElem?_eq_some_iff.1 hr; exact hlt

/-- nothing that was there has turned -/
abbrev Fr0 (w w' : World) : Prop := Fr (fun _ => False) w w'
/-- of what was there block b alone may have turned -/
abbrev Fr1 (b : Nat) (w w' : World) : Prop := Fr (fun k => k = b) w w'
theorem Fr.zero {w w' : World} {S : Nat → Prop} (h : Fr0 w w') : Fr S w w' := h.mono (fun _ _ f => f.elim)
theorem Fr0.below {w w' : World} (h : Fr0 w w') : Below w.heap.size w w' := Fr.below h (fun _ _ f => f)

theorem wpList_store_row {P : Program} {ops : Array Oper} {rest : List Oper} {op : Oper} {a : Act} {w : World} {Q : Exit → Act → World → Prop} (hgd : op.guard = none) (ty : TypeId) (x y : Operand) (ho : op.op = .store ty x y)
    (g : Nat) (cells : Array Value) (hx : a.eval x = .pointer (some ⟨g, 0, none⟩)) (hy : a.eval y = .agg cells) (t : TypeId) (old : Array Value) (hg : w.heap[g]? = some (.cells old t (0, 0)))
    (hi : (P.info? ty).map (·.size) = some cells.size) (hsz : old.size = cells.size) (h1 : cells.all (·.oneCell') = true)
    (h : wpList P ops Q rest (a.put op.dst undef) (w.setRow g cells)) : wpList P ops Q (op :: rest) a w :=
  wpList_plain hgd fun _ hK => by
    unfold Oper.wp execOp
    simp only [ho, hx, hy, Instr.storeAt, Instr.sureAddr, Sem.run_bind, Sem.run_pure, Result.andThen_ok, run_storeVar_row w g t ty old cells hg hi hsz h1]
    exact hK _ _ h
theorem run_storeAt_row {P : Program} (w : World) (g : Nat) (t ty : TypeId) (old cells : Array Value) (hg : w.heap[g]? = some (.cells old t (0, 0)))
    (hi : (P.info? ty).map (·.size) = some cells.size) (hsz : old.size = cells.size) (h1 : cells.all (·.oneCell') = true) :
    (Instr.storeAt ty (.pointer (some ⟨g, 0, none⟩)) (.agg cells)).run P w = .ok () (w.setRow g cells) := by
  simp only [Instr.storeAt, Instr.sureAddr, Sem.run_bind, Sem.run_pure, Result.andThen_ok, run_storeVar_row w g t ty old cells hg hi hsz h1]

/-- a row that is told by its content: its cells -/
theorem row_cells {w : World} {b : Nat} {t : TypeId} {n : Nat} {f : Nat → Value} (h : w.rowIs b t n f) : w.heap[b]? = some (.cells ((List.range n).map f).toArray t (0, 0)) := by
  obtain ⟨c, hb, hn, hc⟩ := h
  rw [hb]
  have : c = ((List.range n).map f).toArray := by
    apply Array.ext_getElem?
    intro i
    by_cases hi : i < n
    · rw [hc i hi]; simp [hi]
    · rw [Array.getElem?_eq_none (by omega)]; simp [hi]
  rw [this]
theorem rowIs_of_cells {w : World} {b : Nat} {t : TypeId} {c : Array Value} {n : Nat} {f : Nat → Value} (h : w.heap[b]? = some (.cells c t (0, 0))) (hn : c.size = n) (hf : ∀ i, i < n → c[i]? = some (f i)) : w.rowIs b t n f := ⟨c, h, hn, hf⟩
theorem rowIs_setRow {w : World} {b : Nat} {t : TypeId} {n : Nat} {f g : Nat → Value} (h : w.rowIs b t n f) (c : Array Value) (hn : c.size = n) (hf : ∀ i, i < n → c[i]? = some (g i)) : (w.setRow b c).rowIs b t n g := by
  obtain ⟨o, hb, _, _⟩ := h
  exact ⟨c, setRow_heap w b o c t _ hb, hn, hf⟩
theorem rowIs_setRow_other {w : World} {b b' : Nat} {t : TypeId} {n : Nat} {f : Nat → Value} (h : w.rowIs b t n f) (c : Array Value) (hne : b ≠ b') : (w.setRow b' c).rowIs b t n f := h.of_block (setRow_other _ _ _ _ hne)
theorem rowIs_drewN {w : World} {b : Nat} {t : TypeId} {n : Nat} {f : Nat → Value} (h : w.rowIs b t n f) (k : Nat) : (w.drewN k).rowIs b t n f := h
theorem rowIs_new (w : World) (c : Array Value) (t : TypeId) (n : Nat) (f : Nat → Value) (hn : c.size = n) (hf : ∀ i, i < n → c[i]? = some (f i)) : (w.alloc (.cells c t)).rowIs w.heap.size t n f :=
  ⟨c, heap_alloc_new w _, hn, hf⟩
theorem toArray_get {l : List Value} {i : Nat} : l.toArray[i]? = l[i]? := by simp
theorem range_map_get {n : Nat} (f : Nat → Value) (i : Nat) (h : i < n) : ((List.range n).map f).toArray[i]? = some (f i) := by simp [h]
theorem range_map_one {n : Nat} (f : Nat → Value) (h : ∀ i, (f i).oneCell' = true) : ((List.range n).map f).toArray.all (·.oneCell') = true := by
  rw [Array.all_eq_true_iff_forall_mem]
  intro v hv
  simp at hv
  obtain ⟨i, _, rfl⟩ := hv
  exact h i

/-- a cut of an array, both ends given -/
theorem slice_arr {P : Program} (t e : TypeId) (n : Nat) (hu : P.underlying t = some (.array n e)) (hs : (P.info? e).map (·.size) = some 1) (a : Addr) (l h : Nat) (hl : l ≤ h) (hh : h ≤ n) (hln : l < n) (w : World) :
    (Instr.sliceAt t (.pointer (some a)) (some (.int .i64 (l : Int))) (some (.int .i64 (h : Int))) none).run P w = .ok (.slice (some (a.add l)) (h - l) (n - l)) w := by
  obtain ⟨i, hi, hz⟩ : ∃ i, P.info? e = some i ∧ i.size = 1 := by
    cases hq : P.info? e with
    | none => simp [hq] at hs
    | some i => exact ⟨i, rfl, by simpa [hq] using hs⟩
  have hA : P.arrayLen t = n := by simp [Program.arrayLen, hu]
  have hE : P.elem t = e := by simp [Program.elem, hu]
  have := run_sliceAt_array_lh (P := P) w t a (by rw [hA, hE]; exact hu) .i64 .i64 (l : Int) (h : Int) (by omega) (by omega) (by rw [hA]; omega)
  rw [this, hE]
  simp [sizeOf, typeInfo, hi, hz, slicedAt, hA, Sem.run_bind]
  omega
/-- .. the lower end alone -/
theorem slice_arr_lo {P : Program} (t e : TypeId) (n : Nat) (hu : P.underlying t = some (.array n e)) (hs : (P.info? e).map (·.size) = some 1) (a : Addr) (l : Nat) (hln : l < n) (w : World) :
    (Instr.sliceAt t (.pointer (some a)) (some (.int .i64 (l : Int))) none none).run P w = .ok (.slice (some (a.add l)) (n - l) (n - l)) w := by
  obtain ⟨i, hi, hz⟩ : ∃ i, P.info? e = some i ∧ i.size = 1 := by
    cases hq : P.info? e with
    | none => simp [hq] at hs
    | some i => exact ⟨i, rfl, by simpa [hq] using hs⟩
  have hA : P.arrayLen t = n := by simp [Program.arrayLen, hu]
  have hE : P.elem t = e := by simp [Program.elem, hu]
  have := run_sliceAt_array_l (P := P) w t a (by rw [hA, hE]; exact hu) .i64 (l : Int) (by omega) (by rw [hA]; omega)
  rw [this, hE]
  simp [sizeOf, typeInfo, hi, hz, slicedAt, hA, Sem.run_bind]
  omega
/-- an array by value, asked at an index in its bounds; elements of one cell that are no arrays and no structs -/
theorem index_arr {P : Program} (t e : TypeId) (n : Nat) (d : TypeDesc) (hu : P.underlying t = some (.array n e)) (hs : (P.info? e).map (·.size) = some 1) (he : P.underlying e = some d)
    (hd : (match d with | .struct _ | .array _ _ => true | _ => false) = false) (cs : Array Value) (k : Nat) (hk : k < n) (v : Value) (hv : cs[k]? = some v) (w : World) :
    (Instr.index t (.agg cs) (.int .i64 (k : Int))).run P w = .ok v w := by
  obtain ⟨i, hi, hz⟩ : ∃ i, P.info? e = some i ∧ i.size = 1 := by
    cases hq : P.info? e with
    | none => simp [hq] at hs
    | some i => exact ⟨i, rfl, by simpa [hq] using hs⟩
  have hagg : (isAgg e).run P w = .ok false w := by
    unfold isAgg
    rw [Sem.run_bind, run_underlying he w]
    cases d <;> simp_all
  have h1 : (0 : Int) ≤ (k : Int) ∧ (k : Int) < (n : Int) := by omega
  simp [Instr.index, asIntOf, Sem.run_bind, run_underlying hu w, sizeOf, typeInfo, hi, hz, part, hagg, hv]
  omega

theorem splice_get {α : Type} (L cs : List α) (o i : Nat) (h : o + cs.length ≤ L.length) : (L.take o ++ cs ++ L.drop (o + cs.length))[i]? = if o ≤ i ∧ i < o + cs.length then cs[i - o]? else L[i]? := by
  have ht : (L.take o).length = o := by simp; omega
  by_cases h1 : i < o
  · rw [if_neg (by omega), List.append_assoc, List.getElem?_append_left (by omega), List.getElem?_take_of_lt h1]
  · by_cases h2 : i < o + cs.length
    · rw [if_pos ⟨by omega, h2⟩, List.append_assoc, List.getElem?_append_right (by omega), ht, List.getElem?_append_left (by omega)]
    · rw [if_neg (by omega), List.getElem?_append_right (by simp [ht]; omega), List.length_append, ht, List.getElem?_drop]
      congr 1; omega

/-- for go_quiet: a callee that leaves the world as it is ('w = w'') -/
theorem quiet_eq {P : Program} {f : FuncId} {args : Array Value} {w : World} {n : Nat} {v : Value}
    (h : Calls P f args (w.drewN n) fun e w' => e = .returned v ∧ w.drewN n = w') : Calls P f args (w.drewN n) fun e w'' => e = .returned v ∧ ∃ m, w'' = w.drewN m :=
  h.mono fun _ _ ⟨he, hm⟩ => ⟨he, n, hm.symm⟩
end Go.Proofs.YtbiokogihimboaaDoor.Base
