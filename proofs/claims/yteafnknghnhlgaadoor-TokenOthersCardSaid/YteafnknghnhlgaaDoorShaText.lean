/-
  The walks of sum.Text, digit and sum.Parse.
-/
import Derived.Test.YteafnknghnhlgaaDoorShaEnd
import Derived.Test.YteafnknghnhlgaaDoorBytes
import Derived.Deep.AppendLies
namespace Go.Proofs.YteafnknghnhlgaaDoor.Sha
open Go.RowKit Base

def digs : List UInt8 := [48, 49, 50, 51, 52, 53, 54, 55, 56, 57, 97, 98, 99, 100, 101, 102]
def hexd (i : Nat) : UInt8 := digs.getD i 0
def hexOf (u : UInt8) : List UInt8 := [hexd (u.toNat / 16), hexd (u.toNat % 16)]
def hexText (d : List UInt8) : List UInt8 := d.flatMap hexOf
theorem hexText_length (d : List UInt8) : (hexText d).length = 2 * d.length := by
  induction d with
  | nil => rfl
  | cons u d ih => simp only [hexText, List.flatMap_cons, List.length_append, List.length_cons] at *; rw [ih]; simp [hexOf]; omega
theorem hexText_next (d : List UInt8) (k : Nat) (h : k < d.length) : hexText (d.take k) ++ hexOf (d.getD k 0) = hexText (d.take (k + 1)) := by
  have : d.take (k + 1) = d.take k ++ [d.getD k 0] := by rw [List.take_add_one]; simp [h]
  rw [this]
  simp [hexText]
theorem index_digs (x : Int) (k : IntKind) (h0 : 0 ≤ x) (h1 : x < 16) (w : World) :
    (Instr.index 9 (.string ⟨#[48, 49, 50, 51, 52, 53, 54, 55, 56, 57, 97, 98, 99, 100, 101, 102]⟩) (.int k x)).run Tryd.prog w = .ok (.int .u8 ((hexd x.toNat).toNat : Int)) w := by
  obtain ⟨n, rfl⟩ := Int.eq_ofNat_of_zero_le h0
  have hn : n < 16 := by omega
  simp [Instr.index, asIntOf, Sem.run_bind, run_underlying Tryd.underlying9 w]
  match n, hn with
  | 0, _ | 1, _ | 2, _ | 3, _ | 4, _ | 5, _ | 6, _ | 7, _ | 8, _ | 9, _ | 10, _ | 11, _ | 12, _ | 13, _ | 14, _ | 15, _ => rfl

theorem and15 (U : Nat) (h : U < 256) : bits BinOp.and .u8 (U : Int) 15 = ((U : Int) % 16) := by
  have := u8_and_nat U 15 h (by omega)
  rw [show ((15 : Nat) : Int) = 15 from rfl] at this
  rw [this, nat_mask4]
  rfl
theorem info5 : (Tryd.prog.info? 5).map (fun i => (i.zero, i.size, i.bytes)) = some (some (.int .u8 0), 1, 1) := by kernel_rfl
theorem two_cells (wr : World) (u v : Value) (t : TypeId) : ∀ j x, [u, v][j]? = some x → (wr.alloc (.cells #[u, v] t)).drew.cell? ((⟨wr.heap.size, 0, none⟩ : Addr).add j) = some x := by
  intro j x hj
  have h2 : j < 2 := (List.getElem?_eq_some_iff.1 hj).1
  have : (wr.alloc (.cells #[u, v] t)).drew.cell? ((⟨wr.heap.size, 0, none⟩ : Addr).add j) = #[u, v][j]? := by
    rw [Addr.add_mid, Nat.zero_add]
    exact cell_of_row _ _ _ _ _ _ (heap_alloc_new wr _)
  rw [this]
  simpa using hj
theorem make64 : ∀ w : World, (Instr.makeSlice 23 (.int .i64 0) (.int .i64 64)).run Tryd.prog w = .ok (.slice (some ⟨w.heap.size, 0, none⟩) 0 64) (w.alloc (.cells (Array.replicate 64 (.int .u8 0)) 5)) := fun w => by kernel_rfl

end Go.Proofs.YteafnknghnhlgaaDoor.Sha
