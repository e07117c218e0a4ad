/-
  Where an answer lies: its four cells, boxed. No program stands here.
-/
import Derived.Test.YtjefddliebokaaaReplySpec
import Derived.Test.YtjefddliebokaaaBaseC
import Derived.Test.YtjefddliebokaaaPackSpec
namespace Go.Proofs.Ytjefddliebokaaa.Reply
open Go.RowKit Base Pack

def rp4 (sv : Value) (r : Rp) : Array Value := #[.int .i64 r.st, .bool r.hit, .int .u32 (r.slot : Int), sv]
def r4 (sv : Value) (r : Rp) (i : Nat) : Value := (rp4 sv r).getD i undef
theorem rp4_one (sv : Value) (r : Rp) (h : sv.oneCell' = true) : (#[Value.int .i64 r.st, .bool r.hit, .int .u32 (r.slot : Int), sv] : Array Value).all (·.oneCell') = true := by
  rw [Array.all_eq_true_iff_forall_mem]
  intro v hv
  simp only [List.mem_toArray, List.mem_cons, List.not_mem_nil, or_false] at hv
  rcases hv with rfl | rfl | rfl | rfl
  all_goals first | exact h | rfl
/-- an answer in a block of its own -/
structure Bx (t : TypeId) (W : World) (g : Nat) (sv : Value) (r : Rp) : Prop where
  heap : W.heap[g]? = some (.cells #[.int .i64 r.st, .bool r.hit, .int .u32 (r.slot : Int), sv] t (0, 0))
  row : W.rowIs g t 4 (r4 sv r)
section
variable {t : TypeId} {W W' : World} {g : Nat} {sv : Value} {r : Rp}
theorem Bx.fr {S : Nat → Prop} (h : Bx t W g sv r) (hf : Fr S W W') (hs : ¬ S g) : Bx t W' g sv r := ⟨hf.heap h.heap hs, hf.row h.row hs⟩
theorem Bx.fr0 (h : Bx t W g sv r) (hf : Fr0 W W') : Bx t W' g sv r := h.fr hf (fun f => f)
theorem Bx.of_row (h : W.rowIs g t 4 (r4 sv r)) : Bx t W g sv r := ⟨row_cells h, h⟩
theorem Bx.of_heap (h : W.heap[g]? = some (.cells #[.int .i64 r.st, .bool r.hit, .int .u32 (r.slot : Int), sv] t (0, 0))) : Bx t W g sv r :=
  ⟨h, rowIs_of_cells h rfl (fun i hi => by
    match i, hi with
    | 0, _ => rfl
    | 1, _ => rfl
    | 2, _ => rfl
    | 3, _ => rfl)⟩
theorem Bx.new (t : TypeId) (w : World) (sv : Value) (r : Rp) : Bx t (w.alloc (.cells #[.int .i64 r.st, .bool r.hit, .int .u32 (r.slot : Int), sv] t)) w.heap.size sv r := .of_heap (heap_alloc_new w _)
theorem Bx.cells (h : Bx t W g sv r) : W.cell? ⟨g, 0, none⟩ = some (.int .i64 r.st) ∧ W.cell? ⟨g, 1, none⟩ = some (.bool r.hit) ∧ W.cell? ⟨g, 2, none⟩ = some (.int .u32 (r.slot : Int)) ∧ W.cell? ⟨g, 3, none⟩ = some sv :=
  ⟨h.row.cell (i := 0) (by decide), h.row.cell (i := 1) (by decide), h.row.cell (i := 2) (by decide), h.row.cell (i := 3) (by decide)⟩
theorem Bx.lt (h : Bx t W g sv r) : g < W.heap.size := lt_of_heap h.heap
/-- one field stored -/
theorem Bx.set (h : Bx t W g sv r) (i : Nat) (v : Value) {sv' : Value} {r' : Rp} (he : ∀ j, j < 4 → (if j = i then v else r4 sv r j) = r4 sv' r' j) : Bx t (W.setCell ⟨g, i, none⟩ v) g sv' r' := .of_row ((h.row.set i v).congr he)
end
theorem good_out {r : Rp} (h : ¬ ((0 ≤ r.st ∧ r.st ≤ 8) ∧ r.body.length ≤ 255 ∧ (r.st = 0 ∨ (r.hit = false ∧ r.body.length = 0)))) : good r = false := by
  rw [Bool.eq_false_iff]
  exact fun e => h ((good_iff r).1 e)
theorem putOut_ok {r : Rp} (h : good r = true) : putErr r = 0 ∧ putOut r = putB r := by
  unfold putErr putOut
  rw [if_pos h, if_pos h]
  exact ⟨rfl, rfl⟩
theorem putOut_no {r : Rp} (h : good r = false) : putErr r = 1 ∧ putOut r = [] := by
  unfold putErr putOut
  rw [if_neg (by rw [h]; decide), if_neg (by rw [h]; decide)]
  exact ⟨rfl, rfl⟩
/-- two answers alike -/
def sameR (a b : Rp) : Bool := decide (a.st = b.st ∧ a.hit = b.hit ∧ a.slot = b.slot ∧ a.body = b.body)
theorem sameR_iff (a b : Rp) : sameR a b = true ↔ a = b := by
  unfold sameR
  rw [decide_eq_true_eq]
  cases a; cases b
  constructor
  · rintro ⟨h1, h2, h3, h4⟩
    simp only at h1 h2 h3 h4
    subst h1 h2 h3 h4
    rfl
  · intro h
    cases h
    exact ⟨rfl, rfl, rfl, rfl⟩
theorem sameR_ne {a b : Rp} {α : Type} (f : Rp → α) (h : ¬ f a = f b) : sameR a b = false := by
  rw [Bool.eq_false_iff]
  intro e
  exact h (by rw [(sameR_iff a b).1 e])
def PutPost (r : Rp) (w : World) (e : Ending) (w' : World) : Prop := ∃ v, e = .returned (.tuple #[v, .int .i64 (putErr r)]) ∧ BytesIs w' v (putOut r) ∧ Fr0 w w'
/-- what is told is new: nothing of it was there -/
def New (w : World) (v : Value) (l : List UInt8) : Prop := ∀ a n c, v = .slice (some a) n c → 0 < l.length → w.heap.size ≤ a.block
def GetPost (b : List UInt8) (w : World) (e : Ending) (w' : World) : Prop := ∃ A C, e = .returned (.tuple #[.agg (rp4 (.slice A (getB b).r.body.length C) (getB b).r), .int .i64 ((getB b).n : Int), .int .i64 (getB b).e]) ∧ BytesIs w' (.slice A (getB b).r.body.length C) (getB b).r.body ∧ New w (.slice A (getB b).r.body.length C) (getB b).r.body ∧ Fr0 w w'
end Go.Proofs.Ytjefddliebokaaa.Reply
