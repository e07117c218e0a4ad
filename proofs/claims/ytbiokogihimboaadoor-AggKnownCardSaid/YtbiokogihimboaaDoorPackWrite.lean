/-
  The walks of pack's writers.
-/
import Derived.Test.YtbiokogihimboaaDoorProg
import Derived.Test.YtbiokogihimboaaDoorPackSpec
import Derived.Deep.AppendLies
import Derived.Laws.MakeOwn
namespace Go.Proofs.YtbiokogihimboaaDoor.Pack
open Go.RowKit Base

theorem info8 : (Tryd.prog.info? 5).map (fun i => (i.zero, i.size, i.bytes)) = some (some (.int .u8 0), 1, 1) := by kernel_rfl
theorem make_room (n : Nat) (hn : n ≤ 281474976710656) (x : Int) (hx : x = (n : Int)) (w : World) : (Instr.makeSlice 28 (.int .i64 0) (.int .i64 x)).run Tryd.prog w = .ok (.slice (some ⟨w.heap.size, 0, none⟩) 0 n) (w.alloc (.cells (Array.replicate n (.int .u8 0)) 5)) := by
  subst hx
  obtain ⟨i, hi, hz0, hz1, hz2⟩ := info_parts info8
  have := run_make (P := Tryd.prog) (w := w) 28 5 i (.int .u8 0) Tryd.underlying28 hi hz0 .i64 .i64 0 (n : Int) (by omega) (by omega) (by rw [hz2]; omega) (by omega)
  rw [this, hz1]
  congr 2
  congr 1
  apply Array.ext
  · simp [madeCells, Value.cells]
  · intro j h1 h2
    simp [madeCells, Value.cells, Nat.mod_one]
theorem owns_room (w : World) (base : Nat) (n : Nat) (hn : n ≤ maxLen) (hb : base ≤ w.heap.size) : (w.alloc (.cells (Array.replicate n (.int .u8 0)) 5)).ownsRow base 5 1 (.slice (some ⟨w.heap.size, 0, none⟩) 0 n) 0 (bvals []) :=
  ⟨rfl, .inr ⟨w.heap.size, n, _, rfl, hb, heap_alloc_new w _, by omega, hn, by simp, by simp [bvals]⟩⟩
/-- what Bytes writes -/
def bytesW (l p : List UInt8) : List UInt8 := if 65535 < p.length then l else l ++ be 2 p.length ++ p
def bytesOk (p : List UInt8) : Bool := decide (p.length ≤ 65535)
theorem be2 (n : Nat) (h : n ≤ 65535) : be 2 n = [UInt8.ofNat (n / 256), UInt8.ofNat (n % 256)] := by
  have e1 : n / 256 % 256 = n / 256 := Nat.mod_eq_of_lt (by omega)
  simp [be, List.range_succ, e1]
end Go.Proofs.YtbiokogihimboaaDoor.Pack
