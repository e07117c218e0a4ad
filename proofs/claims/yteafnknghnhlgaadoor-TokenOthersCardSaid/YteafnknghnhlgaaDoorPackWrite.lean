/-
  The walks of pack's writers.
-/
import Derived.Test.YteafnknghnhlgaaDoorProg
import Derived.Test.YteafnknghnhlgaaDoorPackSpec
import Derived.Deep.AppendLies
import Derived.Laws.MakeOwn
namespace Go.Proofs.YteafnknghnhlgaaDoor.Pack
open Go.RowKit Base

theorem info8 : (Tryd.prog.info? 5).map (fun i => (i.zero, i.size, i.bytes)) = some (some (.int .u8 0), 1, 1) := by kernel_rfl
theorem make_room (n : Nat) (hn : n ≤ 281474976710656) (x : Int) (hx : x = (n : Int)) (w : World) : (Instr.makeSlice 23 (.int .i64 0) (.int .i64 x)).run Tryd.prog w = .ok (.slice (some ⟨w.heap.size, 0, none⟩) 0 n) (w.alloc (.cells (Array.replicate n (.int .u8 0)) 5)) := by
  subst hx
  obtain ⟨i, hi, hz0, hz1, hz2⟩ := info_parts info8
  have := run_make (P := Tryd.prog) (w := w) 23 5 i (.int .u8 0) Tryd.underlying23 hi hz0 .i64 .i64 0 (n : Int) (by omega) (by omega) (by rw [hz2]; omega) (by omega)
  rw [this, hz1]
  congr 2
  congr 1
  apply Array.ext
  · simp [madeCells, Value.cells]
  · intro j h1 h2
    simp [madeCells, Value.cells, Nat.mod_one]
theorem owns_room (w : World) (base : Nat) (n : Nat) (hn : n ≤ maxLen) (hb : base ≤ w.heap.size) : (w.alloc (.cells (Array.replicate n (.int .u8 0)) 5)).ownsRow base 5 1 (.slice (some ⟨w.heap.size, 0, none⟩) 0 n) 0 (bvals []) :=
  ⟨rfl, .inr ⟨w.heap.size, n, _, rfl, hb, heap_alloc_new w _, by omega, hn, by simp, by simp [bvals]⟩⟩
set_option maxHeartbeats 1000000 in
theorem roomy_any (v : Value) (l : List UInt8) (n : Nat) (hl : l.length + n ≤ 140737488355328) (w : World) (hB : BytesIs w v l) :
    Calls Tryd.prog 31 #[v, .int .i64 (n : Int)] w fun e w' => ∃ v', e = .returned v' ∧ w'.ownsRow w.heap.size 5 1 v' l.length (bvals l) ∧ Fr0 w w' := by
  have HB := Lib.hid hB
  obtain ⟨a, n0, c0, rfl⟩ := hB.slice
  obtain rfl : n0 = l.length := by obtain ⟨_, _, _, _, h, _⟩ := hB; simp only [Value.slice.injEq] at h; exact h.2.1
  clear hB
  have hmk := fun wx : World => make_room (l.length + n) (by omega) ((l.length : Int) + (n : Int)) (by omega) wx
  have HO := Lib.hid (owns_room w w.heap.size (l.length + n) (by unfold maxLen; omega) (Nat.le_refl _))
  have HB1 : Hid (BytesIs (w.alloc (.cells (Array.replicate (l.length + n) (.int .u8 0)) 5)) (.slice a l.length c0) l) := Lib.hid (HB.out.fr0 ((Fr.refl _ _).alloc _))
  have HF1 : Hid (Fr0 w (w.alloc (.cells (Array.replicate (l.length + n) (.int .u8 0)) 5))) := Lib.hid ((Fr.refl _ _).alloc _)
  go_enter Tryd.func31, Tryd.ntmps31
  go_wp2_with (refine wpList_append_bytes rfl (.tmp 9) (.tmp 10) 23 rfl w.heap.size 5 Tryd.underlying23 info8 _ _ 0 [] l rfl rfl HO.out HB1.out (by omega) HF1.out.size ?_; intro v1 w1 hO1 hG1)
  go_ret
  refine ⟨_, rfl, ?_, ?_⟩
  · simpa using hO1
  · exact HF1.out.grown hG1 (fun k hk e => by cases e; exact absurd hk (Nat.lt_irrefl _))

set_option maxHeartbeats 1000000 in
theorem number_any (v : Value) (l : List UInt8) (x k : Nat) (hk : k = 1 ∨ k = 2 ∨ k = 4 ∨ k = 8) (hx : x < 18446744073709551616) (hl : l.length ≤ 1099511627776) (w : World) (hB : BytesIs w v l) :
    Calls Tryd.prog 24 #[v, .int .u64 (x : Int), .int .i64 (k : Int)] w fun e w' => ∃ v', e = .returned v' ∧ BytesIs w' v' (l ++ be k x) ∧ Fr0 w w' := by
  have hk1 : 1 ≤ k ∧ k ≤ 8 := by omega
  have HB := Lib.hid hB
  clear hB
  go_enter Tryd.func24, Tryd.ntmps24
  go_wp2_with fail
  refine (roomy_any v l k (by omega) w HB.out).mono ?_
  rintro e w1 ⟨v1, rfl, hO1, hF1⟩
  have HO1 := Lib.hid hO1
  have HF1 := Lib.hid hF1
  clear hO1 hF1
  go_wp2
  go_loopw [7, 13] (fun v i wr => ∃ j : Nat, j ≤ k ∧ i = .int .i64 j ∧ wr.ownsRow w.heap.size 5 1 v (l.length + j) (bvals (l ++ (be k x).take j)) ∧ Fr0 w wr) (fun _ i _ => k - (intOf i).toNat)
  case atStart => exact ⟨0, by omega, rfl, by simpa using HO1.out, HF1.out⟩
  case round =>
    clear HO1
    obtain ⟨j, hj, rfl, hown, hF⟩ := hrel
    have HOWN := Lib.hid hown
    have HF := Lib.hid hF
    clear hown hF
    by_cases hlt : j < k
    · have hsz := HF.out.size
      have HV : Hid (Value.int .u8 ((x : Int) / 2 ^ (8 * (k - 1 - j)) % 256) = .int .u8 ((UInt8.ofNat (x / 2 ^ (8 * (k - 1 - j)) % 256)).toNat : Int)) := Lib.hid (by
        rw [UInt8.toNat_ofNat_of_lt' (Nat.mod_lt _ (by decide))]
        simp)
      go_wp2_with (refine wpList_append_bytes rfl (.tmp 16) (.tmp 25) 23 rfl w.heap.size 5 Tryd.underlying23 info8 _ _ (l.length + j) (l ++ (be k x).take j) [UInt8.ofNat (x / 2 ^ (8 * (k - 1 - j)) % 256)] rfl rfl (HOWN.out.alloc _) (BytesIs.one wr _ _ HV.out _ _ rfl) (by simp; omega) (HF.out.alloc _).size ?_; intro v2 w2 hO2 hG2)
      have HO2 : Hid (w2.ownsRow w.heap.size 5 1 v2 (l.length + (j + 1)) (bvals (l ++ (be k x).take (j + 1)))) := Lib.hid (by rw [be_next k x j hlt, ← List.append_assoc]; exact hO2)
      have HF2 : Hid (Fr0 w w2) := Lib.hid ((HF.out.alloc _).grown hG2 (fun q hq e => by have := HOWN.out.lt q e; omega))
      clear hO2 hG2
      go_wp2
      go_roundw
      case rel => exact ⟨j + 1, by omega, by go_num, HO2.out, HF2.out⟩
      case measure => simp only [intOf]; omega
    · obtain rfl : j = k := by omega
      have HBB : Hid (BytesIs wr u7 (l ++ be j x)) := Lib.hid (BytesIs.own (by have := HOWN.out; rw [List.take_of_length_le (by rw [be_length]; exact Nat.le_refl _)] at this; exact this))
      go_wp2
      go_ret
      exact ⟨_, rfl, HBB.out, HF.out⟩
theorem u16_any (v : Value) (l : List UInt8) (x : Nat) (hx : x < 65536) (hl : l.length ≤ 1099511627776) (w : World) (hB : BytesIs w v l) :
    Calls Tryd.prog 15 #[v, .int .u16 (x : Int)] w fun e w' => ∃ v', e = .returned v' ∧ BytesIs w' v' (l ++ be 2 x) ∧ Fr0 w w' := by
  have HB := Lib.hid hB
  clear hB
  go_enter Tryd.func15, Tryd.ntmps15
  go_wp2_with fail
  refine (number_any v l x 2 (by decide) (by omega) hl w HB.out).mono ?_
  rintro e w1 ⟨v1, rfl, hO1, hF1⟩
  have HO1 := Lib.hid hO1
  have HF1 := Lib.hid hF1
  clear hO1 hF1
  go_wp2
  go_ret
  exact ⟨_, rfl, HO1.out, HF1.out⟩
/-- what Bytes writes -/
def bytesW (l p : List UInt8) : List UInt8 := if 65535 < p.length then l else l ++ be 2 p.length ++ p
def bytesOk (p : List UInt8) : Bool := decide (p.length ≤ 65535)
theorem be2 (n : Nat) (h : n ≤ 65535) : be 2 n = [UInt8.ofNat (n / 256), UInt8.ofNat (n % 256)] := by
  have e1 : n / 256 % 256 = n / 256 := Nat.mod_eq_of_lt (by omega)
  simp [be, List.range_succ, e1]
end Go.Proofs.YteafnknghnhlgaaDoor.Pack
