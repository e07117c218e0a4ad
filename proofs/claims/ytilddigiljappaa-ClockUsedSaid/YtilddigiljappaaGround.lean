/-
  Small general facts for the walks: a frame by a set of blocks, whole rows stored and loaded, cuts of arrays. No program stands here.
  A slice of bytes that reads as a list; a slice of such slices.
  'append(own, b...)' for bytes that read as a list, nil or not, cut or not.
  More small general facts: frames out of 'Below', cells of rows of zeros.
  A slice that reads as a list of values (elements of whatever count of cells); 'append(own, it...)'.
  A region that draws its order, its calls let in under a class of worlds that they keep: steps of the lexical walk (Derived/Deep/Quiet.lean's 'wp_region_quiet' at a class of one's own).
  A region that draws its order, by an invariant: what holds when a set L of its operations has been carried out; one obligation an operation, whatever the orders.
  A byte stored into a block of bytes; guards of laws.
  A great region that draws its order, whose operations make memory and call, but store into nothing that was there: a fact a slot, one obligation an operation, whatever the orders.
-/
import Derived.WalkKit
import Derived.WalkSpells
import Derived.WalkLawsBesides
import Derived.Deep.OwnRows
import Derived.Deep.MidRow
import Derived.Deep.Draws
import Derived.Laws.CopyOwn
import Derived.Lib.Hide
import Derived.Deep.Quiet
import Derived.Deep.QuietTactic
import Derived.BigQuiet
import Derived.Deep.WholeRow
namespace Go.Proofs.Ytilddigiljappaa.Base
open Go.RowKit

/-- Of the blocks that were there only those in S may have turned. -/
structure Fr (S : Nat → Prop) (w w' : World) : Prop where
  os : w'.os = w.os
  tape : w'.tape = w.tape
  output : w'.output = w.output
  size : w.heap.size ≤ w'.heap.size
  block : ∀ k, k < w.heap.size → ¬ S k → w'.heap[k]? = w.heap[k]?

namespace Fr
variable {S T : Nat → Prop} {a b c w w' : World}
theorem refl (S : Nat → Prop) (w : World) : Fr S w w := ⟨rfl, rfl, rfl, Nat.le_refl _, fun _ _ _ => rfl⟩
theorem trans (h : Fr S a b) (k : Fr T b c) (hT : ∀ i, i < a.heap.size → T i → S i) : Fr S a c :=
  ⟨k.os.trans h.os, k.tape.trans h.tape, k.output.trans h.output, Nat.le_trans h.size k.size, fun i hi hs => (k.block i (Nat.lt_of_lt_of_le hi h.size) (fun t => hs (hT i hi t))).trans (h.block i hi hs)⟩
theorem trans' (h : Fr S a b) (k : Fr S b c) : Fr S a c := h.trans k (fun _ _ t => t)
theorem mono (h : Fr S a b) (hS : ∀ i, i < a.heap.size → S i → T i) : Fr T a b := ⟨h.os, h.tape, h.output, h.size, fun i hi ht => h.block i hi (fun s => ht (hS i hi s))⟩
theorem drew (h : Fr S a w) : Fr S a w.drew := ⟨h.os, h.tape, h.output, h.size, h.block⟩
theorem drewN (h : Fr S a w) (n : Nat) : Fr S a (w.drewN n) := ⟨h.os, h.tape, h.output, h.size, h.block⟩
theorem alloc (h : Fr S a w) (o : Obj) : Fr S a (w.alloc o) :=
  h.trans' ⟨rfl, rfl, rfl, by simp, fun k hk _ => Below.heap_alloc _ _ _ hk⟩
theorem setCell (h : Fr S a w) {p : Addr} (hp : p.block < a.heap.size → S p.block) (u : Value) : Fr S a (w.setCell p u) :=
  ⟨h.os, h.tape, h.output, by simpa [World.setCell] using h.size, fun k hk hs => (Below.heap_setCell _ _ _ _ (fun e => hs (by subst e; exact hp hk))).trans (h.block k hk hs)⟩
theorem setRow (h : Fr S a w) {g : Nat} (hp : g < a.heap.size → S g) (cs : Array Value) : Fr S a (w.setRow g cs) :=
  ⟨h.os, h.tape, h.output, by simpa using h.size, fun k hk hs => (setRow_other _ _ _ _ (fun e => hs (by subst e; exact hp hk))).trans (h.block k hk hs)⟩
theorem of_below (h : Below w.heap.size w w') : Fr S w w' := ⟨h.os, h.tape, h.output, h.size, fun k hk _ => h.block k hk⟩
theorem of_grown {row : Option Nat} (h : w.grownBy w' row) (hr : ∀ k, k < w.heap.size → row = some k → S k) : Fr S w w' :=
  ⟨h.os, h.tape, h.output, h.size, fun k hk hs => h.block k hk (fun e => hs (hr k hk e.symm))⟩
theorem grown {row : Option Nat} (h : Fr S a w) (hg : w.grownBy w' row) (hr : ∀ k, k < a.heap.size → row = some k → S k) : Fr S a w' :=
  h.trans (T := fun k => row = some k) ⟨hg.os, hg.tape, hg.output, hg.size, fun k hk hs => hg.block k hk (fun e => hs e.symm)⟩ hr
theorem below (h : Fr S w w') (hS : ∀ i, i < w.heap.size → ¬ S i) : Below w.heap.size w w' := ⟨h.os, h.tape, h.output, h.size, fun k hk => h.block k hk (hS k hk)⟩
theorem cell (h : Fr S w w') {p : Addr} (hp : p.block < w.heap.size) (hs : ¬ S p.block) : w'.cell? p = w.cell? p := World.cell?_of_block (w := w) (h.block p.block hp hs)
theorem frozen (h : Fr S w w') {p : Addr} (hp : p.block < w.heap.size) (hs : ¬ S p.block) : w'.frozen? p = w.frozen? p := World.frozen?_of_block (w := w) (h.block p.block hp hs)
theorem row {t : TypeId} {n g : Nat} {f : Nat → Value} (h : Fr S w w') (hr : w.rowIs g t n f) (hs : ¬ S g) : w'.rowIs g t n f := hr.of_block (h.block g hr.lt hs)
theorem heap {g : Nat} {o : Obj} (h : Fr S w w') (hr : w.heap[g]? = some o) (hs : ¬ S g) : w'.heap[g]? = some o :=
  (h.block g (by obtain ⟨hlt, _⟩ := Array.getElem?_eq_some_iff.1 hr; exact hlt) hs).trans hr
end Fr
theorem lt_of_heap {w : World} {g : Nat} {o : Obj} (hr : w.heap[g]? = some o) : g < w.heap.size := by obtain ⟨hlt, _⟩ := Array.getElem?_eq_some_iff.1 hr; exact hlt

/-- nothing that was there has turned -/
abbrev Fr0 (w w' : World) : Prop := Fr (fun _ => False) w w'
/-- of what was there block b alone may have turned -/
abbrev Fr1 (b : Nat) (w w' : World) : Prop := Fr (fun k => k = b) w w'
theorem Fr.zero {w w' : World} {S : Nat → Prop} (h : Fr0 w w') : Fr S w w' := h.mono (fun _ _ f => f.elim)
theorem Fr0.below {w w' : World} (h : Fr0 w w') : Below w.heap.size w w' := Fr.below h (fun _ _ f => f)

theorem wpList_store_row {P : Program} {ops : Array Oper} {rest : List Oper} {op : Oper} {a : Act} {w : World} {Q : Exit → Act → World → Prop} (hgd : op.guard = none) (ty : TypeId) (x y : Operand) (ho : op.op = .store ty x y)
    (g : Nat) (cells : Array Value) (hx : a.eval x = .pointer (some ⟨g, 0, none⟩)) (hy : a.eval y = .agg cells) (t : TypeId) (old : Array Value) (hg : w.heap[g]? = some (.cells old t (0, 0)))
    (hi : (P.info? ty).map (·.size) = some cells.size) (hsz : old.size = cells.size) (h1 : cells.all (·.oneCell') = true)
    (h : wpList P ops Q rest (a.put op.dst undef) (w.setRow g cells)) : wpList P ops Q (op :: rest) a w :=
  wpList_plain hgd fun _ hK => by
    unfold Oper.wp execOp
    simp only [ho, hx, hy, Instr.storeAt, Instr.sureAddr, Sem.run_bind, Sem.run_pure, Result.andThen_ok, run_storeVar_row w g t ty old cells hg hi hsz h1]
    exact hK _ _ h
theorem run_storeAt_row {P : Program} (w : World) (g : Nat) (t ty : TypeId) (old cells : Array Value) (hg : w.heap[g]? = some (.cells old t (0, 0)))
    (hi : (P.info? ty).map (·.size) = some cells.size) (hsz : old.size = cells.size) (h1 : cells.all (·.oneCell') = true) :
    (Instr.storeAt ty (.pointer (some ⟨g, 0, none⟩)) (.agg cells)).run P w = .ok () (w.setRow g cells) := by
  simp only [Instr.storeAt, Instr.sureAddr, Sem.run_bind, Sem.run_pure, Result.andThen_ok, run_storeVar_row w g t ty old cells hg hi hsz h1]

/-- a row that is told by its content: its cells -/
theorem row_cells {w : World} {b : Nat} {t : TypeId} {n : Nat} {f : Nat → Value} (h : w.rowIs b t n f) : w.heap[b]? = some (.cells ((List.range n).map f).toArray t (0, 0)) := by
  obtain ⟨c, hb, hn, hc⟩ := h
  rw [hb]
  have : c = ((List.range n).map f).toArray := by
    apply Array.ext_getElem?
    intro i
    by_cases hi : i < n
    · rw [hc i hi]; simp [hi]
    · rw [Array.getElem?_eq_none (by omega)]; simp [hi]
  rw [this]
theorem rowIs_of_cells {w : World} {b : Nat} {t : TypeId} {c : Array Value} {n : Nat} {f : Nat → Value} (h : w.heap[b]? = some (.cells c t (0, 0))) (hn : c.size = n) (hf : ∀ i, i < n → c[i]? = some (f i)) : w.rowIs b t n f := ⟨c, h, hn, hf⟩
theorem rowIs_setRow {w : World} {b : Nat} {t : TypeId} {n : Nat} {f g : Nat → Value} (h : w.rowIs b t n f) (c : Array Value) (hn : c.size = n) (hf : ∀ i, i < n → c[i]? = some (g i)) : (w.setRow b c).rowIs b t n g := by
  obtain ⟨o, hb, _, _⟩ := h
  exact ⟨c, setRow_heap w b o c t _ hb, hn, hf⟩
theorem rowIs_setRow_other {w : World} {b b' : Nat} {t : TypeId} {n : Nat} {f : Nat → Value} (h : w.rowIs b t n f) (c : Array Value) (hne : b ≠ b') : (w.setRow b' c).rowIs b t n f := h.of_block (setRow_other _ _ _ _ hne)
theorem rowIs_drewN {w : World} {b : Nat} {t : TypeId} {n : Nat} {f : Nat → Value} (h : w.rowIs b t n f) (k : Nat) : (w.drewN k).rowIs b t n f := h
theorem rowIs_new (w : World) (c : Array Value) (t : TypeId) (n : Nat) (f : Nat → Value) (hn : c.size = n) (hf : ∀ i, i < n → c[i]? = some (f i)) : (w.alloc (.cells c t)).rowIs w.heap.size t n f :=
  ⟨c, heap_alloc_new w _, hn, hf⟩
theorem toArray_get {l : List Value} {i : Nat} : l.toArray[i]? = l[i]? := by simp
theorem range_map_get {n : Nat} (f : Nat → Value) (i : Nat) (h : i < n) : ((List.range n).map f).toArray[i]? = some (f i) := by simp [h]
theorem range_map_one {n : Nat} (f : Nat → Value) (h : ∀ i, (f i).oneCell' = true) : ((List.range n).map f).toArray.all (·.oneCell') = true := by
  rw [Array.all_eq_true_iff_forall_mem]
  intro v hv
  simp at hv
  obtain ⟨i, _, rfl⟩ := hv
  exact h i

/-- a cut of an array, both ends given -/
theorem slice_arr {P : Program} (t e : TypeId) (n : Nat) (hu : P.underlying t = some (.array n e)) (hs : (P.info? e).map (·.size) = some 1) (a : Addr) (l h : Nat) (hl : l ≤ h) (hh : h ≤ n) (hln : l < n) (w : World) :
    (Instr.sliceAt t (.pointer (some a)) (some (.int .i64 (l : Int))) (some (.int .i64 (h : Int))) none).run P w = .ok (.slice (some (a.add l)) (h - l) (n - l)) w := by
  obtain ⟨i, hi, hz⟩ : ∃ i, P.info? e = some i ∧ i.size = 1 := by
    cases hq : P.info? e with
    | none => simp [hq] at hs
    | some i => exact ⟨i, rfl, by simpa [hq] using hs⟩
  have hA : P.arrayLen t = n := by simp [Program.arrayLen, hu]
  have hE : P.elem t = e := by simp [Program.elem, hu]
  have := run_sliceAt_array_lh (P := P) w t a (by rw [hA, hE]; exact hu) .i64 .i64 (l : Int) (h : Int) (by omega) (by omega) (by rw [hA]; omega)
  rw [this, hE]
  simp [sizeOf, typeInfo, hi, hz, slicedAt, hA, Sem.run_bind]
  omega
/-- .. the lower end alone -/
theorem slice_arr_lo {P : Program} (t e : TypeId) (n : Nat) (hu : P.underlying t = some (.array n e)) (hs : (P.info? e).map (·.size) = some 1) (a : Addr) (l : Nat) (hln : l < n) (w : World) :
    (Instr.sliceAt t (.pointer (some a)) (some (.int .i64 (l : Int))) none none).run P w = .ok (.slice (some (a.add l)) (n - l) (n - l)) w := by
  obtain ⟨i, hi, hz⟩ : ∃ i, P.info? e = some i ∧ i.size = 1 := by
    cases hq : P.info? e with
    | none => simp [hq] at hs
    | some i => exact ⟨i, rfl, by simpa [hq] using hs⟩
  have hA : P.arrayLen t = n := by simp [Program.arrayLen, hu]
  have hE : P.elem t = e := by simp [Program.elem, hu]
  have := run_sliceAt_array_l (P := P) w t a (by rw [hA, hE]; exact hu) .i64 (l : Int) (by omega) (by rw [hA]; omega)
  rw [this, hE]
  simp [sizeOf, typeInfo, hi, hz, slicedAt, hA, Sem.run_bind]
  omega
/-- an array by value, asked at an index in its bounds; elements of one cell that are no arrays and no structs -/
theorem index_arr {P : Program} (t e : TypeId) (n : Nat) (d : TypeDesc) (hu : P.underlying t = some (.array n e)) (hs : (P.info? e).map (·.size) = some 1) (he : P.underlying e = some d)
    (hd : (match d with | .struct _ | .array _ _ => true | _ => false) = false) (cs : Array Value) (k : Nat) (hk : k < n) (v : Value) (hv : cs[k]? = some v) (w : World) :
    (Instr.index t (.agg cs) (.int .i64 (k : Int))).run P w = .ok v w := by
  obtain ⟨i, hi, hz⟩ : ∃ i, P.info? e = some i ∧ i.size = 1 := by
    cases hq : P.info? e with
    | none => simp [hq] at hs
    | some i => exact ⟨i, rfl, by simpa [hq] using hs⟩
  have hagg : (isAgg e).run P w = .ok false w := by
    unfold isAgg
    rw [Sem.run_bind, run_underlying he w]
    cases d <;> simp_all
  have h1 : (0 : Int) ≤ (k : Int) ∧ (k : Int) < (n : Int) := by omega
  simp [Instr.index, asIntOf, Sem.run_bind, run_underlying hu w, sizeOf, typeInfo, hi, hz, part, hagg, hv]
  omega

theorem splice_get {α : Type} (L cs : List α) (o i : Nat) (h : o + cs.length ≤ L.length) : (L.take o ++ cs ++ L.drop (o + cs.length))[i]? = if o ≤ i ∧ i < o + cs.length then cs[i - o]? else L[i]? := by
  have ht : (L.take o).length = o := by simp; omega
  by_cases h1 : i < o
  · rw [if_neg (by omega), List.append_assoc, List.getElem?_append_left (by omega), List.getElem?_take_of_lt h1]
  · by_cases h2 : i < o + cs.length
    · rw [if_pos ⟨by omega, h2⟩, List.append_assoc, List.getElem?_append_right (by omega), ht, List.getElem?_append_left (by omega)]
    · rw [if_neg (by omega), List.getElem?_append_right (by simp [ht]; omega), List.length_append, ht, List.getElem?_drop]
      congr 1; omega

/-- for go_quiet: a callee that leaves the world as it is ('w = w'') -/
theorem quiet_eq {P : Program} {f : FuncId} {args : Array Value} {w : World} {n : Nat} {v : Value}
    (h : Calls P f args (w.drewN n) fun e w' => e = .returned v ∧ w.drewN n = w') : Calls P f args (w.drewN n) fun e w'' => e = .returned v ∧ ∃ m, w'' = w.drewN m :=
  h.mono fun _ _ ⟨he, hm⟩ => ⟨he, n, hm.symm⟩
end Go.Proofs.Ytilddigiljappaa.Base
namespace Go.Proofs.Ytilddigiljappaa.Base
open Go.RowKit

/-- v is a slice of bytes that reads as l -/
def BytesIs (w : World) (v : Value) (l : List UInt8) : Prop :=
  ∃ (a : Option Addr) (cap pb po : Nat), v = .slice a l.length cap ∧ l.length ≤ cap ∧ (0 < l.length → a = some ⟨pb, po, none⟩) ∧ (∀ j, j < l.length → w.cell? ⟨pb, po + j, none⟩ = some (.int .u8 ((l.getD j 0).toNat : Int)))
theorem BytesIs.nil (w : World) : BytesIs w (.slice none 0 0) [] := ⟨none, 0, 0, 0, rfl, Nat.le_refl _, fun h => absurd h (by simp), fun j h => absurd h (by simp)⟩
theorem BytesIs.fr {S : Nat → Prop} {w w' : World} {v : Value} {l : List UInt8} (h : BytesIs w v l) (hf : Fr S w w') (hs : ∀ a n c, v = .slice (some a) n c → ¬ S a.block) : BytesIs w' v l := by
  obtain ⟨a, cap, pb, po, hv, hle, ha, hc⟩ := h
  refine ⟨a, cap, pb, po, hv, hle, ha, fun j hj => ?_⟩
  have h1 := hc j hj
  have h2 := ha (by omega)
  subst h2
  rw [hf.cell (p := ⟨pb, po + j, none⟩) (World.block_lt_of_cell? w _ h1) (by have := hs ⟨pb, po, none⟩ _ _ hv; exact this)]
  exact h1
theorem BytesIs.fr0 {w w' : World} {v : Value} {l : List UInt8} (h : BytesIs w v l) (hf : Fr0 w w') : BytesIs w' v l := h.fr hf (fun _ _ _ _ f => f)
theorem BytesIs.new (w : World) (l : List UInt8) (c : Array Value) (t : TypeId) (n : Nat) (hn : n = l.length) (cap : Nat) (hcap : n ≤ cap) (hc : ∀ j, j < l.length → c[j]? = some (.int .u8 ((l.getD j 0).toNat : Int))) (N : Nat) (hN : N = w.heap.size) :
    BytesIs (w.alloc (.cells c t)) (.slice (some ⟨N, 0, none⟩) n cap) l := by
  subst hn hN
  refine ⟨_, cap, w.heap.size, 0, rfl, hcap, fun _ => rfl, fun j hj => ?_⟩
  rw [cell_of_row _ _ _ _ _ _ (heap_alloc_new w _), Nat.zero_add]
  exact hc j hj
/-- v is a slice of slices of bytes that reads as ps -/
def PartsIs (w : World) (v : Value) (ps : List (List UInt8)) : Prop :=
  ∃ (a : Option Addr) (cap qb qo : Nat), v = .slice a ps.length cap ∧ ps.length ≤ cap ∧ ps.length ≤ 1152921504606846976 ∧ (0 < ps.length → a = some ⟨qb, qo, none⟩) ∧ (∀ i, i < ps.length → ∃ pv, w.cell? ⟨qb, qo + i, none⟩ = some pv ∧ BytesIs w pv (ps.getD i []))
theorem BytesIs.slice {w : World} {v : Value} {l : List UInt8} (h : BytesIs w v l) : ∃ a n c, v = .slice a n c := by
  obtain ⟨a, cap, _, _, hv, _⟩ := h
  exact ⟨a, _, cap, hv⟩
def bvals (x : List UInt8) : List Value := x.map fun u => .int .u8 (u.toNat : Int)
theorem bvals_get (x : List UInt8) (j : Nat) (h : j < x.length) : (bvals x)[j]? = some (.int .u8 ((x.getD j 0).toNat : Int)) := by simp [bvals, h]
theorem bvals_length (x : List UInt8) : (bvals x).length = x.length := by simp [bvals]
theorem bvals_append (x y : List UInt8) : bvals (x ++ y) = bvals x ++ bvals y := by simp [bvals]
theorem bvals_one (x : List UInt8) : ∀ v ∈ bvals x, v.oneCell' = true := by
  intro v hv
  simp [bvals] at hv
  obtain ⟨u, _, rfl⟩ := hv
  rfl
/-- an owned row of bytes reads as its list -/
theorem BytesIs.own {w : World} {base : Nat} {e : TypeId} {v : Value} {n : Nat} {l : List UInt8} (h : w.ownsRow base e 1 v n (bvals l)) : BytesIs w v l := by
  have hl : l.length = n := by have := h.1; rw [bvals_length] at this; omega
  rcases h.2 with ⟨rfl, hn⟩ | ⟨g, cap, cur, rfl, hb, hg, hnc, hcm, hcs, ht⟩
  · obtain rfl : l = [] := List.eq_nil_of_length_eq_zero (by omega)
    exact BytesIs.nil w
  · subst hl
    refine ⟨_, cap, g, 0, rfl, hnc, fun _ => rfl, fun j hj => ?_⟩
    rw [Nat.zero_add, h.cellAt j (by omega)]
    exact bvals_get l j hj
theorem strOfNums_bytes (l : List UInt8) : strOfNums (l.map fun u => (u.toNat : Int)) = ⟨l.toArray⟩ := by
  unfold strOfNums
  have : (l.map fun u => (u.toNat : Int)).map (fun n => UInt8.ofNat n.toNat) = l := by
    rw [List.map_map]
    conv => rhs; rw [← List.map_id l]
    apply List.map_congr_left
    intro u _
    simp
  simp only [this]
/-- string(b) -/
theorem BytesIs.convert {P : Program} {w : World} {v : Value} {l : List UInt8} (h : BytesIs w v l) (src dst e : TypeId) (hs : P.underlying src = some (.slice e)) (he : P.underlying e = some (.int .u8)) (hd : P.underlying dst = some .string) :
    (Go.convert src dst v).run P w = .ok (.string ⟨l.toArray⟩) w := by
  obtain ⟨a, cap, pb, po, rfl, hcap, ha, hc⟩ := h
  rw [← strOfNums_bytes]
  by_cases h0 : 0 < l.length
  · obtain rfl := ha h0
    refine run_convert_bytes_arg w src e hs he pb po l.length cap _ (by simp) (fun i hi => ?_) dst hd
    rw [hc i hi]; simp [hi]
  · obtain rfl : l = [] := List.eq_nil_of_length_eq_zero (by omega)
    cases a with
    | none => exact run_convert_bytes_nil w src e hs he 0 cap dst hd
    | some b =>
      have hl : (loadCells b 0).run P w = .ok (([] : List Int).map (Value.int .u8)).toArray w := run_loadCells_list (P := P) w b [] (fun j v hj => by simp at hj)
      have := run_convert_bytes_string (P := P) w src dst e (some b) 0 cap hs he hd
      simp only [List.length_nil, List.map_nil]
      rw [this, run_bytesToString w b 0 cap [] hl]
      rfl
theorem BytesIs.cut {P : Program} (t e : TypeId) (ht : P.underlying t = some (.slice e)) (hs : (P.info? e).map (·.size) = some 1) {w : World} {a : Option Addr} {n cap : Nat} {l : List UInt8} (h : BytesIs w (.slice a n cap) l) (lo hi : Nat) (h1 : lo ≤ hi) (h2 : hi ≤ l.length) :
    ∃ a' c', BytesIs w (.slice a' (hi - lo) c') ((l.drop lo).take (hi - lo)) ∧ ∀ wx : World, (Instr.sliceAt t (.slice a n cap) (some (.int .i64 (lo : Int))) (some (.int .i64 (hi : Int))) none).run P wx = .ok (.slice a' (hi - lo) c') wx := by
  obtain ⟨i, hi', hz⟩ : ∃ i, P.info? e = some i ∧ i.size = 1 := by
    cases hq : P.info? e with
    | none => simp [hq] at hs
    | some i => exact ⟨i, rfl, by simpa [hq] using hs⟩
  have hE : P.elem t = e := by simp [Program.elem, ht]
  obtain ⟨a0, cap0, pb, po, hv, hle, ha, hc⟩ := h
  simp only [Value.slice.injEq] at hv
  obtain ⟨rfl, rfl, rfl⟩ := hv
  have hl : ((l.drop lo).take (hi - lo)).length = hi - lo := by simp; omega
  refine ⟨if cap = lo then a else a.map (·.add lo), cap - lo, ⟨_, cap - lo, pb, po + lo, by rw [hl], by rw [hl]; omega, fun h0 => ?_, fun j hj => ?_⟩, fun wx => ?_⟩
  · rw [hl] at h0
    rw [if_neg (by omega), ha (by omega)]
    simp [Addr.add_mid]
  · rw [hl] at hj
    rw [Nat.add_assoc, hc (lo + j) (by omega)]
    simp [hj, show lo + j < l.length from by omega]
  · rw [run_sliceAt_slice wx t _ _ _ _ (by rw [hE]; exact ht), run_slice_lh wx t a l.length cap (by rw [hE]; exact ht) .i64 .i64 (lo : Int) (hi : Int) (by omega) (by omega) (by omega), hE]
    simp [sizeOf, typeInfo, hi', hz, sliced, Sem.run_bind]
theorem BytesIs.cutLo {P : Program} (t e : TypeId) (ht : P.underlying t = some (.slice e)) (hs : (P.info? e).map (·.size) = some 1) {w : World} {a : Option Addr} {n cap : Nat} {l : List UInt8} (h : BytesIs w (.slice a n cap) l) (lo : Nat) (h1 : lo ≤ l.length) :
    ∃ a' c', BytesIs w (.slice a' (l.length - lo) c') (l.drop lo) ∧ ∀ wx : World, (Instr.sliceAt t (.slice a n cap) (some (.int .i64 (lo : Int))) none none).run P wx = .ok (.slice a' (l.length - lo) c') wx := by
  obtain ⟨i, hi', hz⟩ : ∃ i, P.info? e = some i ∧ i.size = 1 := by
    cases hq : P.info? e with
    | none => simp [hq] at hs
    | some i => exact ⟨i, rfl, by simpa [hq] using hs⟩
  have hE : P.elem t = e := by simp [Program.elem, ht]
  obtain ⟨a0, cap0, pb, po, hv, hle, ha, hc⟩ := h
  simp only [Value.slice.injEq] at hv
  obtain ⟨rfl, rfl, rfl⟩ := hv
  have hl : (l.drop lo).length = l.length - lo := by simp
  refine ⟨if cap = lo then a else a.map (·.add lo), cap - lo, ⟨_, cap - lo, pb, po + lo, by rw [hl], by rw [hl]; omega, fun h0 => ?_, fun j hj => ?_⟩, fun wx => ?_⟩
  · rw [hl] at h0
    rw [if_neg (by omega), ha (by omega)]
    simp [Addr.add_mid]
  · rw [hl] at hj
    rw [Nat.add_assoc, hc (lo + j) (by omega)]
    simp [show lo + j < l.length from by omega]
  · rw [run_sliceAt_slice wx t _ _ _ _ (by rw [hE]; exact ht), run_slice_l wx t a l.length cap (by rw [hE]; exact ht) .i64 (lo : Int) (by omega) (by omega), hE]
    simp [sizeOf, typeInfo, hi', hz, sliced, Sem.run_bind]
theorem index_str {P : Program} (tS : TypeId) (hu : P.underlying tS = some .string) (t : List UInt8) (i : Nat) (hi : i < t.length) (k : IntKind) (w : World) :
    (Instr.index tS (.string ⟨t.toArray⟩) (.int k (i : Int))).run P w = .ok (.int .u8 ((t.getD i 0).toNat : Int)) w := by
  have hg : (⟨t.toArray⟩ : ByteArray)[((i : Int)).toNat]? = some (t.getD i 0) := by
    have : (⟨t.toArray⟩ : ByteArray)[i]? = t.toArray[i]? := by
      by_cases h : i < t.length
      · rw [getElem?_pos _ _ (by simpa [ByteArray.size] using h), getElem?_pos _ _ (by simpa using h)]; rfl
      · exact absurd hi h
    rw [Int.toNat_natCast, this]
    simp [hi]
  unfold Instr.index
  simp only [asIntOf, Sem.run_bind, Sem.run_pure, Result.andThen_ok, run_underlying hu w]
  rw [if_pos (by omega), hg]
  rfl
theorem size_str (t : List UInt8) : (⟨t.toArray⟩ : ByteArray).size = t.length := by simp [ByteArray.size]
end Go.Proofs.Ytilddigiljappaa.Base
namespace Go.Proofs.Ytilddigiljappaa.Base
open Go.RowKit

section
variable {P : Program}
theorem run_append_none (w : World) (base : Nat) (t ty e : TypeId) (i : TypeInfo) (size : Nat) (ht : P.underlying t = some (.slice e)) (hi : P.info? e = some i)
    (v : Value) (n c : Nat) (xs : List Value) (hown : w.ownsRow base e size v n xs) : (Builtin.append_ #[t, t] ty #[v, .slice none 0 c]).run P w = .ok v w := by
  rcases hown.2 with ⟨rfl, rfl⟩ | ⟨g, cap, cur, rfl, _, _, hnc, _⟩
  · simp [Builtin.append_, run_underlying ht, sizeOf, typeInfo, hi, Builtin.lenOf, Builtin.firstCells]
  · simp [Builtin.append_, run_underlying ht, sizeOf, typeInfo, hi, Builtin.lenOf, Builtin.firstCells, hnc, storeCells]
theorem run_append_bytes (w : World) (base : Nat) (t ty e : TypeId) (ht : P.underlying t = some (.slice e)) (hinfo : (P.info? e).map (fun i => (i.zero, i.size, i.bytes)) = some (some (.int .u8 0), 1, 1))
    (v v2 : Value) (n : Nat) (xs l : List UInt8) (hown : w.ownsRow base e 1 v n (bvals xs)) (hB : BytesIs w v2 l) (hlen : n + l.length ≤ 140737488355328) (hbase : base ≤ w.heap.size) :
    ∃ v' w', (Builtin.append_ #[t, t] ty #[v, v2]).run P w = .ok v' w' ∧ w'.ownsRow base e 1 v' (n + l.length) (bvals (xs ++ l)) ∧ w.grownBy w' v.ownBlock := by
  obtain ⟨i, hi, hz0, hz1, hz2⟩ := info_parts hinfo
  obtain ⟨a, cap, pb, po, rfl, hcap, ha, hc⟩ := hB
  cases a with
  | none =>
    have h0 : l = [] := by
      by_cases h : 0 < l.length
      · exact absurd (ha h) (by simp)
      · exact List.eq_nil_of_length_eq_zero (by omega)
    subst h0
    refine ⟨v, w, run_append_none w base t ty e i 1 ht hi v n cap _ hown, by simpa using hown, ⟨rfl, rfl, rfl, Nat.le_refl _, fun _ _ _ => rfl⟩⟩
  | some ad =>
    obtain ⟨v', w', h1, h2, h3, _⟩ := run_append_own (P := P) w base t ty e i (.int .u8 0) 1 1 ht hi hz0 hz1 hz2 rfl (by decide) v n (bvals xs) hown ad l.length cap (bvals l) (by rw [bvals_length, Nat.mul_one])
      (fun j u hj => by
        have hj' : j < l.length := by have := (List.getElem?_eq_some_iff.1 hj).1; rwa [bvals_length] at this
        have := ha (by omega)
        cases this
        rw [Addr.add_mid, hc j hj', ← hj, bvals_get l j hj']) (bvals_one l) (by unfold maxLen; omega) (by omega) hbase
    exact ⟨v', w', h1, by rw [bvals_append]; exact h2, h3⟩
theorem wpList_append_bytes {w : World} {ops : Array Oper} {rest : List Oper} {o : Oper} {a : Act} {Q : Exit → Act → World → Prop} (hgd : o.guard = none) (s x : Operand) (t : TypeId)
    (ho : o.op = .call { callee := .builtin .append, args := #[s, x], argTypes := #[t, t] }) (base : Nat) (e : TypeId) (ht : P.underlying t = some (.slice e)) (hinfo : (P.info? e).map (fun i => (i.zero, i.size, i.bytes)) = some (some (.int .u8 0), 1, 1))
    (v v2 : Value) (n : Nat) (xs l : List UInt8) (hs : a.eval s = v) (hx : a.eval x = v2) (hown : w.ownsRow base e 1 v n (bvals xs)) (hB : BytesIs w v2 l) (hlen : n + l.length ≤ 140737488355328) (hbase : base ≤ w.heap.size)
    (h : ∀ v' w', w'.ownsRow base e 1 v' (n + l.length) (bvals (xs ++ l)) → w.grownBy w' v.ownBlock → wpList P ops Q rest (a.put o.dst v') w') : wpList P ops Q (o :: rest) a w :=
  wpList_plain hgd fun K hK => by
    obtain ⟨v', w', hr, h2, h3⟩ := run_append_bytes (P := P) w base t o.type e ht hinfo v v2 n xs l hown hB hlen hbase
    unfold Oper.wp execOp
    simp only [ho, resolve, invoke, builtin, Sem.run_bind, Sem.run_pure, Result.andThen_ok, List.map_toArray, List.map_cons, List.map_nil, hs, hx, hr]
    exact hK _ _ (h v' w' h2 h3)
/-- a new slice without room: []byte{} -/
theorem owns_empty (w : World) (base : Nat) (e : TypeId) (hb : base ≤ w.heap.size) (N : Nat) (hN : N = w.heap.size) : (w.alloc (.cells #[] e)).ownsRow base e 1 (.slice (some ⟨N, 0, none⟩) 0 0) 0 [] := by
  subst hN
  exact ⟨rfl, .inr ⟨w.heap.size, 0, #[], rfl, hb, heap_alloc_new w _, Nat.le_refl _, by unfold maxLen; omega, rfl, rfl⟩⟩
theorem BytesIs.one (w : World) (u : UInt8) (v : Value) (hv : v = .int .u8 (u.toNat : Int)) (t : TypeId) (N : Nat) (hN : N = w.heap.size) : BytesIs (w.alloc (.cells #[v] t)) (.slice (some ⟨N, 0, none⟩) 1 1) [u] :=
  BytesIs.new w [u] #[v] t 1 rfl 1 (Nat.le_refl _) (fun j hj => by
    have : j = 0 := by simpa using hj
    subst this; simp [hv]) N hN
end
end Go.Proofs.Ytilddigiljappaa.Base
namespace Go.Proofs.Ytilddigiljappaa.Base
open Go.RowKit

theorem Fr.of_below_ge {B : Nat} {w w' : World} (h : Below B w w') : Fr (fun k => B ≤ k) w w' := ⟨h.os, h.tape, h.output, h.size, fun k _ hs => h.block k (by omega)⟩
/-- what a call did to the blocks that it made itself is no business of its caller's -/
theorem Fr.then_below {S : Nat → Prop} {B : Nat} {a w w' : World} (h : Fr S a w) (hb : Below B w w') (hB : ∀ i, i < a.heap.size → B ≤ i → S i) : Fr S a w' := h.trans (Fr.of_below_ge hb) hB
theorem bvals_zeros (n : Nat) : bvals (List.replicate n 0) = List.replicate n (Value.int .u8 0) := by
  unfold bvals
  rw [List.map_replicate]
  rfl
theorem splice_zero (l : List UInt8) (n : Nat) : splice (bvals (List.replicate n 0)) 0 (bvals l) = bvals (l ++ List.replicate (n - l.length) 0) := by
  simp only [splice, List.take_zero, List.nil_append, bvals_append, bvals_length, Nat.zero_add, bvals_zeros, List.drop_replicate]
theorem zerosB (n : Nat) : (Array.replicate n (Value.int .u8 0)) = (bvals (List.replicate n 0)).toArray := by
  rw [bvals_zeros, List.toArray_replicate]
theorem bvals_arr_one (l : List UInt8) : (bvals l).toArray.all (·.oneCell') = true := by
  rw [Array.all_eq_true_iff_forall_mem]
  intro v hv
  exact bvals_one l v (by simpa using hv)
theorem bvals_arr_size (l : List UInt8) : (bvals l).toArray.size = l.length := by simp [bvals_length]
/-- a whole block of bytes reads as its list -/
theorem BytesIs.block {w : World} {g : Nat} {l : List UInt8} {t : TypeId} {fr : Nat × Nat} (h : w.heap[g]? = some (.cells (bvals l).toArray t fr)) (n cap : Nat) (hn : n = l.length) (hcap : n ≤ cap) : BytesIs w (.slice (some ⟨g, 0, none⟩) n cap) l := by
  subst hn
  refine ⟨_, cap, g, 0, rfl, hcap, fun _ => rfl, fun j hj => ?_⟩
  rw [Nat.zero_add, cell_of_row _ _ _ _ _ _ h, toArray_get]
  exact bvals_get l j hj
end Go.Proofs.Ytilddigiljappaa.Base
namespace Go.Proofs.Ytilddigiljappaa.Base
open Go.RowKit

/-- v is a slice of n elements whose cells read as xs, one behind the other -/
def ValsIs (w : World) (v : Value) (n : Nat) (xs : List Value) : Prop :=
  ∃ (a : Option Addr) (cap pb po : Nat), v = .slice a n cap ∧ n ≤ cap ∧ (0 < n → a = some ⟨pb, po, none⟩) ∧ (∀ j, j < xs.length → w.cell? ⟨pb, po + j, none⟩ = some (xs.getD j undef))
theorem ValsIs.nil (w : World) : ValsIs w (.slice none 0 0) 0 [] := ⟨none, 0, 0, 0, rfl, Nat.le_refl _, fun h => absurd h (by simp), fun j h => absurd h (by simp)⟩
theorem ValsIs.fr {S : Nat → Prop} {w w' : World} {v : Value} {n : Nat} {xs : List Value} (h : ValsIs w v n xs) (hn : xs = [] ∨ 0 < n) (hf : Fr S w w') (hs : ∀ a m c, v = .slice (some a) m c → ¬ S a.block) : ValsIs w' v n xs := by
  obtain ⟨a, cap, pb, po, hv, hle, ha, hc⟩ := h
  refine ⟨a, cap, pb, po, hv, hle, ha, fun j hj => ?_⟩
  have h1 := hc j hj
  have h2 := ha (by rcases hn with h | h; · subst h; simp at hj
                    · exact h)
  subst h2
  rw [hf.cell (p := ⟨pb, po + j, none⟩) (World.block_lt_of_cell? w _ h1) (by have := hs ⟨pb, po, none⟩ _ _ hv; exact this)]
  exact h1
theorem ValsIs.fr0 {w w' : World} {v : Value} {n : Nat} {xs : List Value} (h : ValsIs w v n xs) (hf : Fr0 w w') : ValsIs w' v n xs := by
  obtain ⟨a, cap, pb, po, hv, hle, ha, hc⟩ := h
  refine ⟨a, cap, pb, po, hv, hle, ha, fun j hj => ?_⟩
  have h1 := hc j hj
  rw [hf.cell (p := ⟨pb, po + j, none⟩) (World.block_lt_of_cell? w _ h1) (fun f => f)]
  exact h1
theorem PartsIs.vals {w : World} {v : Value} {ps : List (List UInt8)} (h : PartsIs w v ps) : ∃ vs : List Value, vs.length = ps.length ∧ ValsIs w v ps.length vs ∧ ∀ j, j < vs.length → BytesIs w (vs.getD j undef) (ps.getD j []) := by
  obtain ⟨a, cap, qb, qo, rfl, hcap, _, ha, hc⟩ := h
  refine ⟨(List.range ps.length).map fun j => (w.cell? ⟨qb, qo + j, none⟩).getD undef, by simp, ⟨a, cap, qb, qo, rfl, hcap, ha, fun j hj => ?_⟩, fun j hj => ?_⟩
  · have hj' : j < ps.length := by simpa using hj
    obtain ⟨pv, h1, _⟩ := hc j hj'
    simp [hj', h1]
  · have hj' : j < ps.length := by simpa using hj
    obtain ⟨pv, h1, h2⟩ := hc j hj'
    simp only [List.getD_eq_getElem?_getD, List.getElem?_map, List.getElem?_range hj', Option.map_some, Option.getD_some, h1]
    simpa [List.getD_eq_getElem?_getD] using h2

theorem PartsIs.fr0 {w w' : World} {v : Value} {ps : List (List UInt8)} (h : PartsIs w v ps) (hf : Fr0 w w') : PartsIs w' v ps := by
  obtain ⟨a, cap, qb, qo, rfl, hcap, hl, ha, hc⟩ := h
  refine ⟨a, cap, qb, qo, rfl, hcap, hl, ha, fun i hi => ?_⟩
  obtain ⟨pv, h1, h2⟩ := hc i hi
  exact ⟨pv, (hf.cell (p := ⟨qb, qo + i, none⟩) (World.block_lt_of_cell? w _ h1) (fun f => f)).trans h1, h2.fr0 hf⟩
/-- an owned row of slices of bytes reads as its parts -/
theorem PartsIs.own {w : World} {base : Nat} {e : TypeId} {v : Value} {vs : List Value} {ps : List (List UInt8)} {n : Nat} (h : w.ownsRow base e 1 v n vs) (hl : vs.length = ps.length) (hle : ps.length ≤ 1152921504606846976) (hall : ∀ j, j < vs.length → BytesIs w (vs.getD j undef) (ps.getD j [])) : PartsIs w v ps := by
  have hn' : n = vs.length := by have := h.1; omega
  subst hn'
  rcases h.2 with ⟨rfl, hn⟩ | ⟨g, cap, cur, rfl, hb, hg, hnc, hcm, hcs, ht⟩
  · obtain rfl : ps = [] := List.eq_nil_of_length_eq_zero (by omega)
    exact ⟨none, 0, 0, 0, rfl, by simp, by simp, fun h => absurd h (by simp), fun i hi => absurd hi (by simp)⟩
  · refine ⟨some ⟨g, 0, none⟩, cap, g, 0, by rw [hl], by omega, hle, fun _ => rfl, fun i hi => ⟨vs.getD i undef, ?_, hall i (by omega)⟩⟩
    rw [Nat.zero_add, h.cellAt i (by omega)]
    simp [show i < vs.length from by omega]
/-- a literal of two parts -/
theorem PartsIs.two (w : World) (v0 v1 : Value) (l0 l1 : List UInt8) (h0 : BytesIs w v0 l0) (h1 : BytesIs w v1 l1) (t : TypeId) (N : Nat) (hN : N = w.heap.size) : PartsIs (w.alloc (.cells #[v0, v1] t)) (.slice (some ⟨N, 0, none⟩) 2 2) [l0, l1] := by
  subst hN
  refine ⟨_, 2, w.heap.size, 0, rfl, by simp, by simp, fun _ => rfl, fun i hi => ?_⟩
  match i, hi with
  | 0, _ => exact ⟨v0, by rw [cell_of_row _ _ _ _ _ _ (heap_alloc_new w _)]; rfl, h0.fr0 ((Fr.refl _ _).alloc _)⟩
  | 1, _ => exact ⟨v1, by rw [cell_of_row _ _ _ _ _ _ (heap_alloc_new w _)]; rfl, h1.fr0 ((Fr.refl _ _).alloc _)⟩

section
variable {P : Program}
theorem run_append_vals (w : World) (base : Nat) (t ty e : TypeId) (ht : P.underlying t = some (.slice e)) (z : Value) (size bytes : Nat) (hinfo : (P.info? e).map (fun i => (i.zero, i.size, i.bytes)) = some (some z, size, bytes)) (hzs : z.cells.size = size) (hsz : 0 < size)
    (v v2 : Value) (n m : Nat) (xs news : List Value) (hown : w.ownsRow base e size v n xs) (hB : ValsIs w v2 m news) (hl : news.length = m * size) (h1 : ∀ u ∈ news, u.oneCell' = true) (h63 : n + m ≤ maxLen) (hlen : (n + m) * bytes ≤ 140737488355328) (hbase : base ≤ w.heap.size) :
    ∃ v' w', (Builtin.append_ #[t, t] ty #[v, v2]).run P w = .ok v' w' ∧ w'.ownsRow base e size v' (n + m) (xs ++ news) ∧ w.grownBy w' v.ownBlock := by
  obtain ⟨i, hi, hz0, hz1, hz2⟩ := info_parts hinfo
  obtain ⟨a, cap, pb, po, rfl, hcap, ha, hc⟩ := hB
  cases a with
  | none =>
    have h0 : m = 0 := by
      by_cases h : 0 < m
      · exact absurd (ha h) (by simp)
      · omega
    subst h0
    obtain rfl : news = [] := List.eq_nil_of_length_eq_zero (by simpa using hl)
    refine ⟨v, w, run_append_none w base t ty e i size ht hi v n cap _ hown, by simpa using hown, ⟨rfl, rfl, rfl, Nat.le_refl _, fun _ _ _ => rfl⟩⟩
  | some ad =>
    obtain ⟨v', w', h1', h2, h3, _⟩ := run_append_own (P := P) w base t ty e i z size bytes ht hi hz0 hz1 hz2 hzs hsz v n xs hown ad m cap news hl
      (fun j u hj => by
        have hj' : j < news.length := (List.getElem?_eq_some_iff.1 hj).1
        have hm : 0 < m := by
          rcases Nat.eq_zero_or_pos m with h | h
          · subst h; omega
          · exact h
        have := ha hm
        cases this
        rw [Addr.add_mid, hc j hj', List.getD_eq_getElem?_getD, hj]; rfl) h1 h63 hlen hbase
    exact ⟨v', w', h1', h2, h3⟩
theorem wpList_append_vals {w : World} {ops : Array Oper} {rest : List Oper} {o : Oper} {a : Act} {Q : Exit → Act → World → Prop} (hgd : o.guard = none) (s x : Operand) (t : TypeId)
    (ho : o.op = .call { callee := .builtin .append, args := #[s, x], argTypes := #[t, t] }) (base : Nat) (e : TypeId) (ht : P.underlying t = some (.slice e)) (z : Value) (size bytes : Nat) (hinfo : (P.info? e).map (fun i => (i.zero, i.size, i.bytes)) = some (some z, size, bytes)) (hzs : z.cells.size = size) (hsz : 0 < size)
    (v v2 : Value) (n m : Nat) (xs news : List Value) (hs : a.eval s = v) (hx : a.eval x = v2) (hown : w.ownsRow base e size v n xs) (hB : ValsIs w v2 m news) (hl : news.length = m * size) (h1 : ∀ u ∈ news, u.oneCell' = true) (h63 : n + m ≤ maxLen) (hlen : (n + m) * bytes ≤ 140737488355328) (hbase : base ≤ w.heap.size)
    (h : ∀ v' w', w'.ownsRow base e size v' (n + m) (xs ++ news) → w.grownBy w' v.ownBlock → wpList P ops Q rest (a.put o.dst v') w') : wpList P ops Q (o :: rest) a w :=
  wpList_plain hgd fun K hK => by
    obtain ⟨v', w', hr, h2, h3⟩ := run_append_vals (P := P) w base t o.type e ht z size bytes hinfo hzs hsz v v2 n m xs news hown hB hl h1 h63 hlen hbase
    unfold Oper.wp execOp
    simp only [ho, resolve, invoke, builtin, Sem.run_bind, Sem.run_pure, Result.andThen_ok, List.map_toArray, List.map_cons, List.map_nil, hs, hx, hr]
    exact hK _ _ (h v' w' h2 h3)
/-- a slice literal of one-cell elements: a row of its own -/
theorem owns_lit (w : World) (base : Nat) (e : TypeId) (c : Array Value) (n : Nat) (hn : c.size = n) (hm : n ≤ maxLen) (hb : base ≤ w.heap.size) (N : Nat) (hN : N = w.heap.size) : (w.alloc (.cells c e)).ownsRow base e 1 (.slice (some ⟨N, 0, none⟩) n n) n c.toList := by
  subst hN hn
  refine ⟨by simp, .inr ⟨w.heap.size, c.size, c, rfl, hb, heap_alloc_new w _, Nat.le_refl _, hm, by simp, ?_⟩⟩
  rw [Nat.mul_one, ← Array.length_toList, List.take_length]
end
end Go.Proofs.Ytilddigiljappaa.Base
namespace Go.Proofs.Ytilddigiljappaa.Base
open Go.RowKit

/-- an operation whose value is known -/
theorem wpList_val {P : Program} {ops : Array Oper} {rest : List Oper} {o : Oper} {a : Act} {w : World} {Q : Exit → Act → World → Prop} (v : Value) (hgd : Region.wanted o (yielded ops a.tmps) = true) (hv : (execOp a.eval o).run P w = .ok (.value v) w)
    (h : wpList P ops Q rest (a.put o.dst v) w) : wpList P ops Q (o :: rest) a w :=
  BigFrame.wpList_want hgd fun _ hK => by
    unfold Oper.wp
    rw [hv]
    exact hK _ _ h
/-- a whole array loaded, behind a guard that says yes -/
theorem wpList_load_row_g {P : Program} {ops : Array Oper} {rest : List Oper} {o : Oper} {a : Act} {w : World} {Q : Exit → Act → World → Prop} (hgd : Region.wanted o (yielded ops a.tmps) = true) (ty : TypeId) (x : Operand) (ho : o.op = .load ty x)
    (g : Nat) (hx : a.eval x = .pointer (some ⟨g, 0, none⟩)) (t : TypeId) (cs : Array Value) (fr : Nat × Nat) (d : TypeDesc) (hg : w.heap[g]? = some (.cells cs t fr))
    (hu : P.underlying ty = some d) (hd : (match d with | .struct _ | .array _ _ => true | _ => false) = true) (hi : (P.info? ty).map (·.size) = some cs.size)
    (h : wpList P ops Q rest (a.put o.dst (.agg cs)) w) : wpList P ops Q (o :: rest) a w :=
  BigFrame.wpList_want hgd fun _ hK => wp_load_row ty x ho g hx t cs fr d hg hu hd hi (hK _ _ h)
/-- a whole array stored into the block that was made last -/
theorem wpList_store_new {P : Program} {ops : Array Oper} {rest : List Oper} {op : Oper} {a : Act} {w0 : World} {Q : Exit → Act → World → Prop} (hgd : op.guard = none) (ty : TypeId) (x y : Operand) (ho : op.op = .store ty x y)
    (g : Nat) (hg : g = w0.heap.size) (cells : Array Value) (hx : a.eval x = .pointer (some ⟨g, 0, none⟩)) (hy : a.eval y = .agg cells) (t : TypeId) (old : Array Value)
    (hi : (P.info? ty).map (·.size) = some cells.size) (hsz : old.size = cells.size) (h1 : cells.all (·.oneCell') = true)
    (h : wpList P ops Q rest (a.put op.dst undef) (w0.alloc (.cells cells t))) : wpList P ops Q (op :: rest) a (w0.alloc (.cells old t)) := by
  subst hg
  refine wpList_store_row hgd ty x y ho w0.heap.size cells hx hy t old (heap_alloc_new w0 _) hi hsz h1 ?_
  rw [World.setRow_alloc_new]
  exact h

section
variable {P : Program} {ops : Array Oper} {C : World → Prop} {Q : Act → Prop} {o : Oper} {rest : List Oper} {a : Act}
theorem heldVal (v : Value) (hw : Region.wanted o (yielded ops a.tmps) = true) (h : ∀ w, C w → (execOp a.eval o).run P w = .ok (.value v) w) (hn : wpQuiet P ops C Q rest (a.put o.dst v)) : wpQuiet P ops C Q (o :: rest) a := by
  unfold wpQuiet
  rw [if_pos hw]
  exact ⟨v, fun w hw' => by unfold Oper.quietAt; rw [h w hw']; exact ⟨rfl, rfl⟩, hn⟩
theorem heldSkip (hw : Region.wanted o (yielded ops a.tmps) = false) (hn : wpQuiet P ops C Q rest (a.put o.dst undef)) : wpQuiet P ops C Q (o :: rest) a := by
  unfold wpQuiet
  rw [if_neg (by simp [hw])]
  exact hn
theorem heldCall (f : FuncId) (args : Array Value) (v : Value) (hw : Region.wanted o (yielded ops a.tmps) = true) (h : ∀ w, C w → (execOp a.eval o).run P w = .ok (.enter f args) w)
    (hc : ∀ w, C w → Calls P f args w fun e w' => e = .returned v ∧ C w') (hn : wpQuiet P ops C Q rest (a.put o.dst v)) : wpQuiet P ops C Q (o :: rest) a := by
  unfold wpQuiet
  rw [if_pos hw]
  exact ⟨v, fun w hw' => by unfold Oper.quietAt; rw [h w hw']; exact ⟨rfl, hc w hw'⟩, hn⟩
theorem heldLoad (ty : TypeId) (x : Operand) (ho : o.op = .load ty x) (g : Nat) (hx : a.eval x = .pointer (some ⟨g, 0, none⟩)) (t : TypeId) (cs : Array Value) (fr : Nat × Nat) (d : TypeDesc)
    (hg : ∀ w, C w → w.heap[g]? = some (.cells cs t fr)) (hu : P.underlying ty = some d) (hd : (match d with | .struct _ | .array _ _ => true | _ => false) = true) (hi : (P.info? ty).map (·.size) = some cs.size)
    (hw : Region.wanted o (yielded ops a.tmps) = true) (hn : wpQuiet P ops C Q rest (a.put o.dst (.agg cs))) : wpQuiet P ops C Q (o :: rest) a :=
  heldVal (.agg cs) hw (fun w hw' => by
    unfold execOp
    simp only [ho, hx, Instr.loadAt, Instr.sureAddr, Sem.run_bind, Sem.run_pure, Result.andThen_ok, run_loadVar_row w g t ty cs fr d (hg w hw') hu hd hi]) hn
theorem region_held {id : Nat} {Q : Exit → Act → World → Prop} {a : Act} {w : World} {l : List Oper} (C : World → Prop) (hm : P.follows .mixedOrders = true) (hB : Region.lexB .any l.toArray = true) (hC : C w.drew)
    (h : wpQuiet P l.toArray C (fun a' => ∀ w', C w' → Q .normal a' w') l a) : (Code.region id l.toArray true).wp P Q a w :=
  wp_region_quiet (C := C) hm hB hC (by simpa using h)
end
end Go.Proofs.Ytilddigiljappaa.Base
namespace Go.Proofs.Ytilddigiljappaa.Base
open Go.RowKit

/-- each operation waits only for operations before it -/
def lexical (l : List Oper) : Bool := (List.range l.length).all fun i => match l[i]? with
  | some o => o.after.all fun e => !Region.binds .any e || decide (e.on < i)
  | none => true
def opDone (L : Nat → Bool) (i : Nat) : Nat → Bool := fun j => if j = i then true else L j

section
variable {P : Program} {l : List Oper} {Q : Exit → Act → World → Prop}
theorem all_listed (hl : lexical l = true) (listed : Array Bool) (hr : Region.ready .any l.toArray listed = []) (hsz : listed.size = l.length) : ∀ n i, i < n → i < l.length → listed.getD i false = true := by
  intro n
  induction n with
  | zero => intro i h; omega
  | succ n ih =>
    intro i h1 h2
    by_cases hb : listed.getD i false = true
    · exact hb
    · exfalso
      have hget : listed.getD i true = false := by
        simp only [Array.getD_eq_getD_getElem?] at hb ⊢
        rw [Array.getElem?_eq_getElem (by omega)] at hb ⊢
        simpa using hb
      have hdep : ∀ o, l[i]? = some o → ∀ e ∈ o.after.toList, Region.binds .any e = true → listed.getD e.on false = true := by
        intro o ho e he hbd
        have hx := hl
        unfold lexical at hx
        rw [List.all_eq_true] at hx
        have hx2 := hx i (by simpa using h2)
        rw [ho] at hx2
        simp only [Array.all_eq_true_iff_forall_mem] at hx2
        have hx3 := hx2 e (by simpa using he)
        rw [hbd] at hx3
        simp at hx3
        exact ih e.on (by omega) (by omega)
      have hmem : i ∈ Region.ready .any l.toArray listed := by
        unfold Region.ready
        rw [List.mem_filter]
        refine ⟨by simpa using h2, ?_⟩
        rw [hget]
        obtain ⟨o, ho⟩ : ∃ o, l[i]? = some o := ⟨l[i], List.getElem?_eq_getElem h2⟩
        have ho' : l.toArray[i]? = some o := by simpa using ho
        rw [ho']
        simp only [Bool.not_false, Bool.true_and, Option.map_some, Option.getD_some]
        rw [Array.all_eq_true_iff_forall_mem]
        intro e he
        by_cases hbd : Region.binds .any e = true
        · rw [hbd, hdep o ho e (by simpa using he) hbd]; rfl
        · simp at hbd; simp [hbd]
      rw [hr] at hmem
      simp at hmem
theorem wpAny_inv (I : (Nat → Bool) → Act → World → Prop) (hl : lexical l = true)
    (hs : ∀ (i : Nat) (o : Oper), l[i]? = some o → ∀ (L : Nat → Bool) (a' : Act) (w' : World), L i = false → (∀ e ∈ o.after.toList, Region.binds .any e = true → L e.on = true) → I L a' w' →
      ∀ K : Act → World → Prop, (∀ a'' w'', I (opDone L i) a'' w'' → K a'' w'') → if Region.wanted o (yielded l.toArray a'.tmps) = true then Oper.wp P o a' w' K Q else K (a'.put o.dst undef) w')
    (hd : ∀ (L : Nat → Bool) (a' : Act) (w' : World), (∀ i, i < l.length → L i = true) → I L a' w' → Q .normal a' w') :
    ∀ (fuel : Nat) (listed : Array Bool) (a : Act) (w : World), listed.size = l.length → listed.count false ≤ fuel → I (fun j => listed.getD j false) a w → wpAny P .any l.toArray Q fuel listed a w
  | 0, listed, a, w, hsz, hc, hI => by
    have hall : ∀ i, i < l.length → listed.getD i false = true := by
      intro i hi
      have h0 : listed.count false = 0 := by omega
      rw [Array.count_eq_zero] at h0
      rw [Array.getD_eq_getD_getElem?, Array.getElem?_eq_getElem (by omega)]
      simp only [Option.getD_some]
      cases hb : listed[i]'(by omega) with
      | true => rfl
      | false => exact absurd (hb ▸ Array.getElem_mem _) h0
    refine ⟨?_, hd _ a w hall hI⟩
    unfold Region.ready
    rw [List.filter_eq_nil_iff]
    intro i hi
    have hi' : i < l.length := by simpa using hi
    have := hall i hi'
    rw [Array.getD_eq_getD_getElem?, Array.getElem?_eq_getElem (by omega)] at this ⊢
    simp only [Option.getD_some] at this ⊢
    simp [this]
  | fuel + 1, listed, a, w, hsz, hc, hI => by
    refine ⟨fun hr => hd _ a w (fun i hi => all_listed hl listed hr hsz (i + 1) i (by omega) hi) hI, fun i hi => ?_⟩
    unfold Region.ready at hi
    rw [List.mem_filter] at hi
    obtain ⟨hi1, hi2⟩ := hi
    have hil : i < l.length := by simpa using hi1
    have ho : l[i]? = some l[i] := List.getElem?_eq_getElem hil
    have ho' : l.toArray[i]? = some l[i] := by simp [hil]
    rw [ho'] at hi2
    simp only [Option.map_some, Option.getD_some, Bool.and_eq_true, Bool.not_eq_true'] at hi2
    obtain ⟨h1, h2⟩ := hi2
    have hLi : listed.getD i false = false := by
      rw [Array.getD_eq_getD_getElem?, Array.getElem?_eq_getElem (by omega)] at h1 ⊢
      simpa using h1
    refine wpOp_step ho' (fun K hK => hs i _ ho _ a w hLi (fun e he hbd => ?_) hI K (fun a'' w'' hI' => hK _ _ ?_))
    · rw [Array.all_eq_true_iff_forall_mem] at h2
      have := h2 e (by simpa using he)
      rw [hbd] at this
      simpa using this
    · refine wpAny_inv I hl hs hd fuel _ a'' w'' (by simpa using hsz) ?_ ?_
      · have hg : listed[i]'(by omega) = false := by
          rw [Array.getD_eq_getD_getElem?, Array.getElem?_eq_getElem (by omega)] at hLi
          simpa using hLi
        rw [Array.setIfInBounds, dif_pos (by omega), Array.count_set]
        rw [hg]
        simp
        omega
      · have : (fun j => (listed.setIfInBounds i true).getD j false) = opDone (fun j => listed.getD j false) i := by
          funext j
          unfold opDone
          simp only [Array.getD_eq_getD_getElem?]
          by_cases h : j = i
          · subst h; rw [if_pos rfl, Array.getElem?_setIfInBounds_self_of_lt (by omega)]; rfl
          · rw [if_neg h, Array.getElem?_setIfInBounds_ne (by omega)]
        rw [this]
        exact hI'
/-- the law -/
theorem region_inv {id : Nat} {a : Act} {w : World} (I : (Nat → Bool) → Act → World → Prop) (hm : P.follows .mixedOrders = true) (hl : lexical l = true) (h0 : I (fun _ => false) a w.drew)
    (hs : ∀ (i : Nat) (o : Oper), l[i]? = some o → ∀ (L : Nat → Bool) (a' : Act) (w' : World), L i = false → (∀ e ∈ o.after.toList, Region.binds .any e = true → L e.on = true) → I L a' w' →
      ∀ K : Act → World → Prop, (∀ a'' w'', I (opDone L i) a'' w'' → K a'' w'') → if Region.wanted o (yielded l.toArray a'.tmps) = true then Oper.wp P o a' w' K Q else K (a'.put o.dst undef) w')
    (hd : ∀ (L : Nat → Bool) (a' : Act) (w' : World), (∀ i, i < l.length → L i = true) → I L a' w' → Q .normal a' w') : (Code.region id l.toArray true).wp P Q a w := by
  refine wp_region_any hm (wpAny_inv I hl hs hd _ _ _ _ (by simp) (by simp [Array.count_replicate]) ?_)
  have : (fun j => (Array.replicate l.toArray.size false).getD j false) = fun _ => false := by
    funext j
    rw [Array.getD_eq_getD_getElem?, Array.getElem?_replicate]
    split <;> rfl
  rw [this]
  exact h0
/-- the operations that o waits for -/
def waits (o : Oper) : List Nat := (o.after.toList.filter (Region.binds .any)).map (·.on)
/-- what has been carried out has all behind it that it waits for -/
def Closed (l : List Oper) (L : Nat → Bool) : Prop := ∀ (i : Nat) (o : Oper), l[i]? = some o → L i = true → ∀ k ∈ waits o, L k = true
/-- one obligation an operation -/
def Steps (P : Program) (l : List Oper) (Q : Exit → Act → World → Prop) (I : (Nat → Bool) → Act → World → Prop) : Nat → List Oper → Prop
  | _, [] => True
  | i, o :: rest => (∀ (L : Nat → Bool) (a' : Act) (w' : World), L i = false → Closed l L → (∀ k ∈ waits o, L k = true) → I L a' w' → ∀ K : Act → World → Prop, (∀ a'' w'', I (opDone L i) a'' w'' → K a'' w'') →
      if Region.wanted o (yielded l.toArray a'.tmps) = true then Oper.wp P o a' w' K Q else K (a'.put o.dst undef) w') ∧ Steps P l Q I (i + 1) rest
theorem Steps.get {I : (Nat → Bool) → Act → World → Prop} : ∀ (m : List Oper) (n : Nat), Steps P l Q I n m → ∀ (i : Nat) (o : Oper), m[i]? = some o → ∀ (L : Nat → Bool) (a' : Act) (w' : World), L (n + i) = false → Closed l L → (∀ k ∈ waits o, L k = true) → I L a' w' →
      ∀ K : Act → World → Prop, (∀ a'' w'', I (opDone L (n + i)) a'' w'' → K a'' w'') → if Region.wanted o (yielded l.toArray a'.tmps) = true then Oper.wp P o a' w' K Q else K (a'.put o.dst undef) w'
  | [], _, _, i, o, h => by simp at h
  | x :: m, n, hS, 0, o, h => by
    simp at h; subst h
    exact hS.1
  | x :: m, n, hS, i + 1, o, h => by
    have := Steps.get m (n + 1) hS.2 i o (by simpa using h)
    rw [show n + 1 + i = n + (i + 1) from by omega] at this
    exact this
theorem region_steps {id : Nat} {a : Act} {w : World} (I : (Nat → Bool) → Act → World → Prop) (hm : P.follows .mixedOrders = true) (hl : lexical l = true) (h0 : I (fun _ => false) a w.drew) (hs : Steps P l Q I 0 l)
    (hd : ∀ (L : Nat → Bool) (a' : Act) (w' : World), (∀ i, i < l.length → L i = true) → I L a' w' → Q .normal a' w') : (Code.region id l.toArray true).wp P Q a w :=
  region_inv (fun L a w => Closed l L ∧ I L a w) hm hl ⟨fun i o _ h => absurd h (by simp), h0⟩ (fun i o ho L a' w' hL hw hI K hK => by
    have := Steps.get l 0 hs i o ho L a' w'
    rw [Nat.zero_add] at this
    have hdep : ∀ k ∈ waits o, L k = true := fun k hk => by
      unfold waits at hk
      rw [List.mem_map] at hk
      obtain ⟨e, he, rfl⟩ := hk
      rw [List.mem_filter] at he
      exact hw e he.1 he.2
    refine this hL hI.1 hdep hI.2 K (fun a'' w'' h => hK _ _ ⟨fun j o' ho' hj k hk => ?_, h⟩)
    unfold opDone at hj ⊢
    by_cases hki : k = i
    · rw [if_pos hki]
    · rw [if_neg hki]
      by_cases hji : j = i
      · subst hji
        rw [ho] at ho'
        cases ho'
        exact hdep k hk
      · rw [if_neg hji] at hj
        exact hI.1 j o' ho' hj k hk) (fun L a' w' hall h => hd L a' w' hall h.2)
/-- steps of usual kinds -/
theorem step_load_row {ops : Array Oper} {o : Oper} {a : Act} {w : World} {K : Act → World → Prop} {E : Prop} (hgd : o.guard = none) (ty : TypeId) (x : Operand) (ho : o.op = .load ty x) (g : Nat) (hx : a.eval x = .pointer (some ⟨g, 0, none⟩)) (t : TypeId) (cs : Array Value) (fr : Nat × Nat) (d : TypeDesc)
    (hg : w.heap[g]? = some (.cells cs t fr)) (hu : P.underlying ty = some d) (hd : (match d with | .struct _ | .array _ _ => true | _ => false) = true) (hi : (P.info? ty).map (·.size) = some cs.size)
    (h : K (a.put o.dst (.agg cs)) w) : if Region.wanted o (yielded ops a.tmps) = true then Oper.wp P o a w K Q else E := by
  rw [if_pos (by simp [Region.wanted, hgd])]
  exact wp_load_row ty x ho g hx t cs fr d hg hu hd hi h
theorem step_store_row {ops : Array Oper} {o : Oper} {a : Act} {w : World} {K : Act → World → Prop} {E : Prop} (hgd : o.guard = none) (ty : TypeId) (x y : Operand) (ho : o.op = .store ty x y) (g : Nat) (cells : Array Value) (hx : a.eval x = .pointer (some ⟨g, 0, none⟩)) (hy : a.eval y = .agg cells) (t : TypeId) (old : Array Value)
    (hg : w.heap[g]? = some (.cells old t (0, 0))) (hi : (P.info? ty).map (·.size) = some cells.size) (hsz : old.size = cells.size) (h1 : cells.all (·.oneCell') = true)
    (h : K (a.put o.dst undef) (w.setRow g cells)) : if Region.wanted o (yielded ops a.tmps) = true then Oper.wp P o a w K Q else E := by
  rw [if_pos (by simp [Region.wanted, hgd])]
  unfold Oper.wp execOp
  simp only [ho, hx, hy, Instr.storeAt, Instr.sureAddr, Sem.run_bind, Sem.run_pure, Result.andThen_ok, run_storeVar_row w g t ty old cells hg hi hsz h1]
  exact h
theorem step_alloc {ops : Array Oper} {o : Oper} {a : Act} {w : World} {K : Act → World → Prop} {E : Prop} (hgd : o.guard = none) (ty : TypeId) (ho : o.op = .alloc ty) (z : Value) (hz : ∀ w, (zeroValue ty).run P w = .ok z w)
    (h : K (a.put o.dst (.pointer (some ⟨w.heap.size, 0, none⟩))) (w.alloc (.cells z.cells ty))) : if Region.wanted o (yielded ops a.tmps) = true then Oper.wp P o a w K Q else E := by
  rw [if_pos (by simp [Region.wanted, hgd])]
  unfold Oper.wp execOp
  simp [ho, hz, go_sem]
  exact h
theorem step_value {ops : Array Oper} {o : Oper} {a : Act} {w : World} {K : Act → World → Prop} {E : Prop} (hgd : o.guard = none) (v : Value) (w1 : World) (hv : (execOp a.eval o).run P w = .ok (.value v) w1) (h : K (a.put o.dst v) w1) :
    if Region.wanted o (yielded ops a.tmps) = true then Oper.wp P o a w K Q else E := by
  rw [if_pos (by simp [Region.wanted, hgd])]
  unfold Oper.wp
  rw [hv]
  exact h
theorem step_call {ops : Array Oper} {o : Oper} {a : Act} {w : World} {K : Act → World → Prop} {E : Prop} (hgd : o.guard = none) (f : FuncId) (args : Array Value) (he : (execOp a.eval o).run P w = .ok (.enter f args) w) (v : Value) (C : World → Prop)
    (hc : Calls P f args w fun e w' => e = .returned v ∧ C w') (h : ∀ w', C w' → K (a.put o.dst v) w') : if Region.wanted o (yielded ops a.tmps) = true then Oper.wp P o a w K Q else E := by
  rw [if_pos (by simp [Region.wanted, hgd])]
  unfold Oper.wp
  rw [he]
  exact hc.mono fun e w' ⟨he, hw'⟩ => by subst he; exact h _ hw'
end
end Go.Proofs.Ytilddigiljappaa.Base
namespace Go.Proofs.Ytilddigiljappaa.Base
open Go.RowKit

theorem rowIs_bytes {w : World} {g : Nat} {l : List UInt8} {t : TypeId} (h : w.heap[g]? = some (.cells (bvals l).toArray t (0, 0))) : w.rowIs g t l.length (fun j => .int .u8 ((l.getD j 0).toNat : Int)) :=
  rowIs_of_cells h (by simp [bvals_length]) (fun i hi => by rw [toArray_get]; exact bvals_get l i hi)
theorem bytes_rowIs {w : World} {g : Nat} {l : List UInt8} {t : TypeId} {n : Nat} {f : Nat → Value} (h : w.rowIs g t n f) (hn : n = l.length) (hf : ∀ i, i < n → f i = .int .u8 ((l.getD i 0).toNat : Int)) : w.heap[g]? = some (.cells (bvals l).toArray t (0, 0)) := by
  subst hn
  rw [row_cells (h.congr hf)]
  congr 3
  apply List.ext_getElem?
  intro i
  by_cases hi : i < l.length
  · rw [bvals_get l i hi]; simp [hi]
  · rw [List.getElem?_eq_none (by simp; omega), List.getElem?_eq_none (by simp [bvals_length]; omega)]
theorem set_byte {w : World} {g : Nat} {l : List UInt8} {t : TypeId} (h : w.heap[g]? = some (.cells (bvals l).toArray t (0, 0))) (i : Nat) (x : UInt8) (v : Value) (hv : v = .int .u8 (x.toNat : Int)) :
    (w.setCell ⟨g, i, none⟩ v).heap[g]? = some (.cells (bvals (l.set i x)).toArray t (0, 0)) := by
  subst hv
  refine bytes_rowIs ((rowIs_bytes h).set i _) (by simp) (fun j hj => ?_)
  by_cases hji : j = i
  · subst hji; rw [if_pos rfl]; simp [hj]
  · rw [if_neg hji]
    simp only [List.getD_eq_getElem?_getD]
    rw [List.getElem?_set_ne (Ne.symm hji)]
/-- one byte of a slice stored anew -/
theorem BytesIs.set {w : World} {g n cap : Nat} {l : List UInt8} (h : BytesIs w (.slice (some ⟨g, 0, none⟩) n cap) l) (i : Nat) (hi : i < l.length) (x : UInt8) (v : Value) (hv : v = .int .u8 (x.toNat : Int)) :
    BytesIs (w.setCell ⟨g, i, none⟩ v) (.slice (some ⟨g, 0, none⟩) n cap) (l.set i x) := by
  subst hv
  obtain ⟨a, cap', pb, po, he, hle, ha, hc⟩ := h
  simp only [Value.slice.injEq] at he
  obtain ⟨rfl, rfl, rfl⟩ := he
  have h0 := ha (by omega)
  simp only [Option.some.injEq, Addr.mk.injEq, and_true] at h0
  obtain ⟨rfl, rfl⟩ := h0
  refine ⟨_, cap, g, 0, by rw [List.length_set], by rw [List.length_set]; exact hle, fun _ => rfl, fun j hj => ?_⟩
  rw [List.length_set] at hj
  rw [Nat.zero_add]
  have hcj := hc j hj
  rw [Nat.zero_add] at hcj
  by_cases hji : j = i
  · subst hji
    rw [World.cell?_setCell_same' _ _ _ (by rw [hcj]; rfl)]
    simp [hj]
  · rw [World.cell?_setCell_other _ _ _ _ (by intro e; cases e; exact hji rfl), hcj]
    simp only [List.getD_eq_getElem?_getD]
    rw [List.getElem?_set_ne (Ne.symm hji)]
theorem PartsIs.one (w : World) (v : Value) (l : List UInt8) (hv : BytesIs w v l) (t : TypeId) (N : Nat) (hN : N = w.heap.size) : PartsIs (w.alloc (.cells #[v] t)) (.slice (some ⟨N, 0, none⟩) 1 1) [l] := by
  subst hN
  refine ⟨_, 1, w.heap.size, 0, rfl, by simp, by simp, fun _ => rfl, fun i hi => ?_⟩
  have : i = 0 := by simpa using hi
  subst this
  refine ⟨v, ?_, hv.fr0 ((Fr.refl _ _).alloc _)⟩
  rw [cell_of_row _ _ _ _ _ _ (heap_alloc_new w _)]
  rfl
/-- a literal of three parts, nil ones at its ends -/
theorem PartsIs.nilled (w : World) (v : Value) (l : List UInt8) (h : BytesIs w v l) (t : TypeId) (N : Nat) (hN : N = w.heap.size) : PartsIs (w.alloc (.cells #[.slice none 0 0, v, .slice none 0 0] t)) (.slice (some ⟨N, 0, none⟩) 3 3) [[], l, []] := by
  subst hN
  refine ⟨_, 3, w.heap.size, 0, rfl, by simp, by simp, fun _ => rfl, fun i hi => ?_⟩
  match i, hi with
  | 0, _ => exact ⟨.slice none 0 0, by rw [cell_of_row _ _ _ _ _ _ (heap_alloc_new w _)]; rfl, BytesIs.nil _⟩
  | 1, _ => exact ⟨v, by rw [cell_of_row _ _ _ _ _ _ (heap_alloc_new w _)]; rfl, h.fr0 ((Fr.refl _ _).alloc _)⟩
  | 2, _ => exact ⟨.slice none 0 0, by rw [cell_of_row _ _ _ _ _ _ (heap_alloc_new w _)]; rfl, BytesIs.nil _⟩
end Go.Proofs.Ytilddigiljappaa.Base
namespace Go.Proofs.Ytilddigiljappaa.Base
open Go.RowKit

/-- blocks keep their cells (a mark may turn) -/
def Gr (w w' : World) : Prop := ∀ (g : Nat) (c : Array Value) (t : TypeId) (fr : Nat × Nat), w.heap[g]? = some (.cells c t fr) → ∃ fr', w'.heap[g]? = some (.cells c t fr')
theorem Gr.refl (w : World) : Gr w w := fun _ _ _ fr h => ⟨fr, h⟩
theorem Gr.trans {a b c : World} (h : Gr a b) (k : Gr b c) : Gr a c := fun g x t fr hx => let ⟨fr', h'⟩ := h g x t fr hx; k g x t fr' h'
theorem Gr.of_fr0 {w w' : World} (h : Fr0 w w') : Gr w w' := fun _ _ _ fr hx => ⟨fr, h.heap hx (fun f => f)⟩
theorem Gr.cell {w w' : World} (h : Gr w w') {g o : Nat} {v : Value} (hc : w.cell? ⟨g, o, none⟩ = some v) : w'.cell? ⟨g, o, none⟩ = some v := by
  have hlt := World.block_lt_of_cell? w _ hc
  cases hb : w.heap[g]? with
  | none => simp [World.cell?, hb] at hc
  | some ob =>
    cases ob with
    | cells c t fr =>
      obtain ⟨fr', h'⟩ := h g c t fr hb
      rw [cell_of_row _ _ _ _ _ _ hb] at hc
      rw [cell_of_row _ _ _ _ _ _ h']
      exact hc
    | _ => simp [World.cell?, hb] at hc
theorem Gr.bytes {w w' : World} (h : Gr w w') {v : Value} {l : List UInt8} (hb : BytesIs w v l) : BytesIs w' v l := by
  obtain ⟨a, cap, pb, po, rfl, hcap, ha, hc⟩ := hb
  exact ⟨a, cap, pb, po, rfl, hcap, ha, fun j hj => h.cell (hc j hj)⟩
theorem Gr.parts {w w' : World} (h : Gr w w') {v : Value} {ps : List (List UInt8)} (hb : PartsIs w v ps) : PartsIs w' v ps := by
  obtain ⟨a, cap, qb, qo, rfl, hcap, hl, ha, hc⟩ := hb
  exact ⟨a, cap, qb, qo, rfl, hcap, hl, ha, fun i hi => let ⟨pv, h1, h2⟩ := hc i hi; ⟨pv, h.cell h1, h.bytes h2⟩⟩

/-- the operations of a function's region -/
def regionOps (n : Nat) : Code → Option (Array Oper)
  | .region k ops _ => if k = n then some ops else none
  | .seq a b => match regionOps n a with
    | some c => some c
    | none => regionOps n b
  | .cond _ a b => match regionOps n a with
    | some c => some c
    | none => regionOps n b
  | .loop c => regionOps n c
  | .block _ c => regionOps n c
  | .scope c => regionOps n c
  | _ => none
/-- what a slot holds, which no later operation undoes -/
structure Fact where
  holds : Value → World → Prop
  mono : ∀ v w w', Gr w w' → holds v w → holds v w'
def Fact.any : Fact := ⟨fun _ _ => True, fun _ _ _ _ h => h⟩
/-- the slot holds u -/
def Fact.is (u : Value) : Fact := ⟨fun v _ => v = u, fun _ _ _ _ h => h⟩
/-- new bytes that were laid out of a literal (and may get their mark yet) -/
def Fact.raw (n : Nat) (t : TypeId) (l : List UInt8) : Fact := ⟨fun v w => ∃ (g : Nat) (fr : Nat × Nat), v = .slice (some ⟨g, 0, none⟩) l.length l.length ∧ n ≤ g ∧ w.heap[g]? = some (.cells (bvals l).toArray t fr),
  fun _ _ _ hg ⟨g, fr, h1, h2, h3⟩ => let ⟨fr', h'⟩ := hg g _ _ _ h3; ⟨g, fr', h1, h2, h'⟩⟩
def Fact.bytes (l : List UInt8) : Fact := ⟨fun v w => BytesIs w v l, fun _ _ _ hg h => hg.bytes h⟩
def Fact.parts (ps : List (List UInt8)) : Fact := ⟨fun v w => PartsIs w v ps, fun _ _ _ hg h => hg.parts h⟩

def dsts (l : List Oper) : List Nat := l.filterMap (·.dst)
def depSlots (l : List Oper) (o : Oper) : List Nat := (waits o).filterMap (fun k => (l[k]?).bind (·.dst))
/-- the frame with the region's own slots as vals says -/
def frm (a : Act) (ds : List Nat) (vals : Nat → Value) : Act := ⟨a.tmps.mapIdx fun j c => if ds.contains j then vals j else c, a.defers⟩
def dstsOk (l : List Oper) (n : Nat) : Bool := decide (dsts l).Nodup && (dsts l).all (fun d => decide (d < n))
def upd (vals : Nat → Value) (d : Nat) (v : Value) : Nat → Value := fun j => if j = d then v else vals j

theorem frm_put (a : Act) (ds : List Nat) (vals : Nat → Value) (d : Nat) (v : Value) (hd : d ∈ ds) : (frm a ds vals).put (some d) v = frm a ds (upd vals d v) := by
  unfold frm Act.put upd
  simp only
  congr 1
  apply Array.ext
  · simp
  · intro i h1 h2
    by_cases h : d = i
    · subst h
      simp [hd]
    · have h' : ¬ i = d := fun e => h e.symm
      rw [Array.getElem_setIfInBounds_ne (by simpa using h2) h, Array.getElem_mapIdx, Array.getElem_mapIdx]
      simp only [if_neg h']
theorem frm_start (a : Act) (ds : List Nat) : frm a ds (fun j => a.tmps.getD j undef) = a := by
  unfold frm
  cases a with
  | mk t df =>
    simp only
    congr 1
    apply Array.ext
    · simp
    · intro i h1 h2
      simp only [Array.getElem_mapIdx]
      split
      · simp [h2]
      · rfl
theorem frm_eval (a : Act) (ds : List Nat) (vals : Nat → Value) (k : Nat) (hk : k ∈ ds) (hn : k < a.tmps.size) : (frm a ds vals).eval (.tmp k) = vals k := by
  unfold frm Act.eval
  simp only [Array.getD_eq_getD_getElem?]
  rw [Array.getElem?_eq_getElem (by simpa using hn)]
  simp only [Array.getElem_mapIdx, Option.getD_some]
  rw [if_pos (by simpa using hk)]
theorem frm_eval_old (a : Act) (ds : List Nat) (vals : Nat → Value) (k : Nat) (hk : ds.contains k = false) : (frm a ds vals).eval (.tmp k) = a.eval (.tmp k) := by
  unfold frm Act.eval
  simp only [Array.getD_eq_getD_getElem?, Array.getElem?_mapIdx]
  cases h : a.tmps[k]? with
  | none => rfl
  | some c =>
    simp only [Option.map_some, Option.getD_some]
    rw [if_neg (by rw [hk]; decide)]

section
variable {P : Program} {Q : Exit → Act → World → Prop}
/-- one operation's obligation -/
def FStep (P : Program) (l : List Oper) (Q : Exit → Act → World → Prop) (F : Nat → Fact) (a : Act) (w0 : World) (o : Oper) : Prop :=
  ∀ (vals : Nat → Value) (w' : World), Fr0 w0 w' → (∀ d ∈ depSlots l o, (F d).holds (vals d) w') →
    if Region.wanted o (yielded l.toArray (frm a (dsts l) vals).tmps) = true then
      Oper.wp P o (frm a (dsts l) vals) w' (fun a'' w'' => ∃ v, a'' = (frm a (dsts l) vals).put o.dst v ∧ (∀ d, o.dst = some d → (F d).holds v w'') ∧ Gr w' w'' ∧ Fr0 w0 w'') Q
    else ∀ d, o.dst = some d → (F d).holds undef w'
def FSteps (P : Program) (l : List Oper) (Q : Exit → Act → World → Prop) (F : Nat → Fact) (a : Act) (w0 : World) : List Oper → Prop
  | [] => True
  | o :: rest => FStep P l Q F a w0 o ∧ FSteps P l Q F a w0 rest
theorem FSteps.get {l : List Oper} {F : Nat → Fact} {a : Act} {w0 : World} : ∀ (m : List Oper), FSteps P l Q F a w0 m → ∀ (i : Nat) (o : Oper), m[i]? = some o → FStep P l Q F a w0 o
  | [], _, i, o, h => by simp at h
  | x :: m, hS, 0, o, h => by simp at h; subst h; exact hS.1
  | x :: m, hS, i + 1, o, h => FSteps.get m hS.2 i o (by simpa using h)
theorem dst_inj : ∀ (l : List Oper), (dsts l).Nodup → ∀ (i j : Nat) (oi oj : Oper) (d : Nat), l[i]? = some oi → l[j]? = some oj → oi.dst = some d → oj.dst = some d → i = j
  | [], _, i, j, oi, oj, d, h, _, _, _ => by simp at h
  | x :: m, hn, i, j, oi, oj, d, hi, hj, hdi, hdj => by
    have mem : ∀ (k : Nat) (o : Oper), m[k]? = some o → o.dst = some d → d ∈ dsts m := fun k o ho hd => by
      unfold dsts
      rw [List.mem_filterMap]
      exact ⟨o, List.mem_of_getElem? ho, hd⟩
    cases hx : x.dst with
    | none =>
      have hn' : (dsts m).Nodup := by unfold dsts at hn ⊢; rw [List.filterMap_cons, hx] at hn; exact hn
      cases i with
      | zero => simp at hi; subst hi; rw [hx] at hdi; cases hdi
      | succ i =>
        cases j with
        | zero => simp at hj; subst hj; rw [hx] at hdj; cases hdj
        | succ j => rw [dst_inj m hn' i j oi oj d (by simpa using hi) (by simpa using hj) hdi hdj]
    | some e =>
      have hn' : e ∉ dsts m ∧ (dsts m).Nodup := by unfold dsts at hn ⊢; rw [List.filterMap_cons, hx] at hn; exact List.nodup_cons.1 hn
      cases i with
      | zero =>
        simp at hi; subst hi
        rw [hx] at hdi; cases hdi
        cases j with
        | zero => rfl
        | succ j => exact absurd (mem j oj (by simpa using hj) hdj) hn'.1
      | succ i =>
        cases j with
        | zero =>
          simp at hj; subst hj
          rw [hx] at hdj; cases hdj
          exact absurd (mem i oi (by simpa using hi) hdi) hn'.1
        | succ j => rw [dst_inj m hn'.2 i j oi oj d (by simpa using hi) (by simpa using hj) hdi hdj]
theorem region_facts' {id : Nat} {l : List Oper} {a : Act} {w : World} (F : Nat → Fact) (hm : P.follows .mixedOrders = true) (hl : lexical l = true) (hd : dstsOk l a.tmps.size = true) (hs : ∀ (i : Nat) (o : Oper), l[i]? = some o → FStep P l Q F a w.drew o)
    (hQ : ∀ (vals : Nat → Value) (w' : World), Fr0 w.drew w' → (∀ d ∈ dsts l, (F d).holds (vals d) w') → Q .normal (frm a (dsts l) vals) w') : (Code.region id l.toArray true).wp P Q a w := by
  unfold dstsOk at hd
  simp only [Bool.and_eq_true, decide_eq_true_eq] at hd
  obtain ⟨hnd, _⟩ := hd
  refine region_inv (fun L a' w' => ∃ vals, a' = frm a (dsts l) vals ∧ Fr0 w.drew w' ∧ ∀ (i : Nat) (o : Oper) (d : Nat), l[i]? = some o → o.dst = some d → L i = true → (F d).holds (vals d) w') hm hl
    ⟨fun j => a.tmps.getD j undef, (frm_start a _).symm, Fr.refl _ _, fun i o d _ _ h => by cases h⟩ (fun i o ho L a' w' hL hw hI K hK => ?_) (fun L a' w' hall hI => ?_)
  · obtain ⟨vals, rfl, hF, hfacts⟩ := hI
    have hdep : ∀ d ∈ depSlots l o, (F d).holds (vals d) w' := fun d hd => by
      unfold depSlots at hd
      rw [List.mem_filterMap] at hd
      obtain ⟨k, hk, hb⟩ := hd
      unfold waits at hk
      rw [List.mem_map] at hk
      obtain ⟨e, he, rfl⟩ := hk
      rw [List.mem_filter] at he
      cases hlk : l[e.on]? with
      | none => rw [hlk] at hb; cases hb
      | some ok =>
        rw [hlk] at hb
        exact hfacts e.on ok d hlk hb (hw e he.1 he.2)
    have hst := hs i o ho vals w' hF hdep
    have fin : ∀ (v : Value) (w'' : World), (∀ d, o.dst = some d → (F d).holds v w'') → Gr w' w'' → Fr0 w.drew w'' → K ((frm a (dsts l) vals).put o.dst v) w'' := fun v w'' hv hG hF'' => by
      cases hdst : o.dst with
      | none =>
        refine hK _ _ ⟨vals, rfl, hF'', fun j oj d hj hdj hLj => ?_⟩
        unfold opDone at hLj
        by_cases hji : j = i
        · subst hji; rw [ho] at hj; cases hj; rw [hdst] at hdj; cases hdj
        · rw [if_neg hji] at hLj
          exact (F d).mono _ _ _ hG (hfacts j oj d hj hdj hLj)
      | some d0 =>
        have hmem : d0 ∈ dsts l := by
          unfold dsts
          rw [List.mem_filterMap]
          exact ⟨o, List.mem_of_getElem? ho, hdst⟩
        refine hK _ _ ⟨upd vals d0 v, frm_put a _ vals d0 v hmem, hF'', fun j oj d hj hdj hLj => ?_⟩
        unfold opDone at hLj
        by_cases hji : j = i
        · subst hji
          rw [ho] at hj; cases hj
          rw [hdst] at hdj; cases hdj
          unfold upd
          rw [if_pos rfl]
          exact hv _ hdst
        · rw [if_neg hji] at hLj
          have hne : d ≠ d0 := fun e => by
            subst e
            exact hji (dst_inj l hnd j i oj o d hj ho hdj hdst)
          unfold upd
          rw [if_neg hne]
          exact (F d).mono _ _ _ hG (hfacts j oj d hj hdj hLj)
    split at hst
    · rename_i hwt
      rw [if_pos hwt]
      exact Oper.wp_mono (fun a'' w'' ⟨v, h1, h2, h3, h4⟩ => by subst h1; exact fin v w'' h2 h3 h4) hst
    · rename_i hwt
      rw [if_neg hwt]
      exact fin undef w' hst (Gr.refl _) hF
  · obtain ⟨vals, rfl, hF, hfacts⟩ := hI
    refine hQ vals w' hF (fun d hd => ?_)
    unfold dsts at hd
    rw [List.mem_filterMap] at hd
    obtain ⟨o, ho, hdd⟩ := hd
    obtain ⟨i, hi⟩ := List.getElem?_of_mem ho
    exact hfacts i o d hi hdd (hall i (List.getElem?_eq_some_iff.1 hi).1)
theorem region_facts {id : Nat} {l : List Oper} {a : Act} {w : World} (F : Nat → Fact) (hm : P.follows .mixedOrders = true) (hl : lexical l = true) (hd : dstsOk l a.tmps.size = true) (hs : FSteps P l Q F a w.drew l)
    (hQ : ∀ (vals : Nat → Value) (w' : World), Fr0 w.drew w' → (∀ d ∈ dsts l, (F d).holds (vals d) w') → Q .normal (frm a (dsts l) vals) w') : (Code.region id l.toArray true).wp P Q a w := by
  exact region_facts' F hm hl hd (fun i o ho => FSteps.get l hs i o ho) hQ
end
end Go.Proofs.Ytilddigiljappaa.Base
