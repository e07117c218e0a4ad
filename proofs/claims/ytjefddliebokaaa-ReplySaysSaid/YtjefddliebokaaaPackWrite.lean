/-
  The walks of pack's writers.
-/
import Derived.Test.YtjefddliebokaaaProg
import Derived.Test.YtjefddliebokaaaPackSpec
import Derived.Deep.AppendLies
import Derived.Laws.MakeOwn
namespace Go.Proofs.Ytjefddliebokaaa.Pack
open Go.RowKit Base

theorem info8 : (Try.prog.info? 5).map (fun i => (i.zero, i.size, i.bytes)) = some (some (.int .u8 0), 1, 1) := by kernel_rfl
theorem make_room (n : Nat) (hn : n ≤ 281474976710656) (x : Int) (hx : x = (n : Int)) (w : World) : (Instr.makeSlice 25 (.int .i64 0) (.int .i64 x)).run Try.prog w = .ok (.slice (some ⟨w.heap.size, 0, none⟩) 0 n) (w.alloc (.cells (Array.replicate n (.int .u8 0)) 5)) := by
  subst hx
  obtain ⟨i, hi, hz0, hz1, hz2⟩ := info_parts info8
  have := run_make (P := Try.prog) (w := w) 25 5 i (.int .u8 0) Try.underlying25 hi hz0 .i64 .i64 0 (n : Int) (by omega) (by omega) (by rw [hz2]; omega) (by omega)
  rw [this, hz1]
  congr 2
  congr 1
  apply Array.ext
  · simp [madeCells, Value.cells]
  · intro j h1 h2
    simp [madeCells, Value.cells, Nat.mod_one]
theorem owns_room (w : World) (base : Nat) (n : Nat) (hn : n ≤ maxLen) (hb : base ≤ w.heap.size) : (w.alloc (.cells (Array.replicate n (.int .u8 0)) 5)).ownsRow base 5 1 (.slice (some ⟨w.heap.size, 0, none⟩) 0 n) 0 (bvals []) :=
  ⟨rfl, .inr ⟨w.heap.size, n, _, rfl, hb, heap_alloc_new w _, by omega, hn, by simp, by simp [bvals]⟩⟩
set_option maxHeartbeats 1000000 in
theorem roomy_any (v : Value) (l : List UInt8) (n : Nat) (hl : l.length + n ≤ 140737488355328) (w : World) (hB : BytesIs w v l) :
    Calls Try.prog 32 #[v, .int .i64 (n : Int)] w fun e w' => ∃ v', e = .returned v' ∧ w'.ownsRow w.heap.size 5 1 v' l.length (bvals l) ∧ Fr0 w w' := by
  have HB := Lib.hid hB
  obtain ⟨a, n0, c0, rfl⟩ := hB.slice
  obtain rfl : n0 = l.length := by obtain ⟨_, _, _, _, h, _⟩ := hB; simp only [Value.slice.injEq] at h; exact h.2.1
  clear hB
  have hmk := fun wx : World => make_room (l.length + n) (by omega) ((l.length : Int) + (n : Int)) (by omega) wx
  have HO := Lib.hid (owns_room w w.heap.size (l.length + n) (by unfold maxLen; omega) (Nat.le_refl _))
  have HB1 : Hid (BytesIs (w.alloc (.cells (Array.replicate (l.length + n) (.int .u8 0)) 5)) (.slice a l.length c0) l) := Lib.hid (HB.out.fr0 ((Fr.refl _ _).alloc _))
  have HF1 : Hid (Fr0 w (w.alloc (.cells (Array.replicate (l.length + n) (.int .u8 0)) 5))) := Lib.hid ((Fr.refl _ _).alloc _)
  go_enter Try.func32, Try.ntmps32
  go_wp2_with (refine wpList_append_bytes rfl (.tmp 9) (.tmp 10) 25 rfl w.heap.size 5 Try.underlying25 info8 _ _ 0 [] l rfl rfl HO.out HB1.out (by omega) HF1.out.size ?_; intro v1 w1 hO1 hG1)
  go_ret
  refine ⟨_, rfl, ?_, ?_⟩
  · simpa using hO1
  · exact HF1.out.grown hG1 (fun k hk e => by cases e; exact absurd hk (Nat.lt_irrefl _))

set_option maxHeartbeats 1000000 in
theorem number_any (v : Value) (l : List UInt8) (x k : Nat) (hk : k = 1 ∨ k = 2 ∨ k = 4 ∨ k = 8) (hx : x < 18446744073709551616) (hl : l.length ≤ 1099511627776) (w : World) (hB : BytesIs w v l) :
    Calls Try.prog 31 #[v, .int .u64 (x : Int), .int .i64 (k : Int)] w fun e w' => ∃ v', e = .returned v' ∧ BytesIs w' v' (l ++ be k x) ∧ Fr0 w w' := by
  have hk1 : 1 ≤ k ∧ k ≤ 8 := by omega
  have HB := Lib.hid hB
  clear hB
  go_enter Try.func31, Try.ntmps31
  go_wp2_with fail
  refine (roomy_any v l k (by omega) w HB.out).mono ?_
  rintro e w1 ⟨v1, rfl, hO1, hF1⟩
  have HO1 := Lib.hid hO1
  have HF1 := Lib.hid hF1
  clear hO1 hF1
  go_wp2
  go_loopw [7, 13] (fun v i wr => ∃ j : Nat, j ≤ k ∧ i = .int .i64 j ∧ wr.ownsRow w.heap.size 5 1 v (l.length + j) (bvals (l ++ (be k x).take j)) ∧ Fr0 w wr) (fun _ i _ => k - (intOf i).toNat)
  case atStart => exact ⟨0, by omega, rfl, by simpa using HO1.out, HF1.out⟩
  case round =>
    clear HO1
    obtain ⟨j, hj, rfl, hown, hF⟩ := hrel
    have HOWN := Lib.hid hown
    have HF := Lib.hid hF
    clear hown hF
    by_cases hlt : j < k
    · have hsz := HF.out.size
      have HV : Hid (Value.int .u8 ((x : Int) / 2 ^ (8 * (k - 1 - j)) % 256) = .int .u8 ((UInt8.ofNat (x / 2 ^ (8 * (k - 1 - j)) % 256)).toNat : Int)) := Lib.hid (by
        rw [UInt8.toNat_ofNat_of_lt' (Nat.mod_lt _ (by decide))]
        simp)
      go_wp2_with (refine wpList_append_bytes rfl (.tmp 16) (.tmp 25) 25 rfl w.heap.size 5 Try.underlying25 info8 _ _ (l.length + j) (l ++ (be k x).take j) [UInt8.ofNat (x / 2 ^ (8 * (k - 1 - j)) % 256)] rfl rfl (HOWN.out.alloc _) (BytesIs.one wr _ _ HV.out _ _ rfl) (by simp; omega) (HF.out.alloc _).size ?_; intro v2 w2 hO2 hG2)
      have HO2 : Hid (w2.ownsRow w.heap.size 5 1 v2 (l.length + (j + 1)) (bvals (l ++ (be k x).take (j + 1)))) := Lib.hid (by rw [be_next k x j hlt, ← List.append_assoc]; exact hO2)
      have HF2 : Hid (Fr0 w w2) := Lib.hid ((HF.out.alloc _).grown hG2 (fun q hq e => by have := HOWN.out.lt q e; omega))
      clear hO2 hG2
      go_wp2
      go_roundw
      case rel => exact ⟨j + 1, by omega, by go_num, HO2.out, HF2.out⟩
      case measure => simp only [intOf]; omega
    · obtain rfl : j = k := by omega
      have HBB : Hid (BytesIs wr u7 (l ++ be j x)) := Lib.hid (BytesIs.own (by have := HOWN.out; rw [List.take_of_length_le (by rw [be_length]; exact Nat.le_refl _)] at this; exact this))
      go_wp2
      go_ret
      exact ⟨_, rfl, HBB.out, HF.out⟩
theorem u8_any (v : Value) (l : List UInt8) (x : Nat) (hx : x < 256) (hl : l.length ≤ 1099511627776) (w : World) (hB : BytesIs w v l) :
    Calls Try.prog 21 #[v, .int .u8 (x : Int)] w fun e w' => ∃ v', e = .returned v' ∧ BytesIs w' v' (l ++ be 1 x) ∧ Fr0 w w' := by
  have HB := Lib.hid hB
  clear hB
  go_enter Try.func21, Try.ntmps21
  go_wp2_with fail
  refine (number_any v l x 1 (by decide) (by omega) hl w HB.out).mono ?_
  rintro e w1 ⟨v1, rfl, hO1, hF1⟩
  have HO1 := Lib.hid hO1
  have HF1 := Lib.hid hF1
  clear hO1 hF1
  go_wp2
  go_ret
  exact ⟨_, rfl, HO1.out, HF1.out⟩
theorem u32_any (v : Value) (l : List UInt8) (x : Nat) (hx : x < 4294967296) (hl : l.length ≤ 1099511627776) (w : World) (hB : BytesIs w v l) :
    Calls Try.prog 23 #[v, .int .u32 (x : Int)] w fun e w' => ∃ v', e = .returned v' ∧ BytesIs w' v' (l ++ be 4 x) ∧ Fr0 w w' := by
  have HB := Lib.hid hB
  clear hB
  go_enter Try.func23, Try.ntmps23
  go_wp2_with fail
  refine (number_any v l x 4 (by decide) (by omega) hl w HB.out).mono ?_
  rintro e w1 ⟨v1, rfl, hO1, hF1⟩
  have HO1 := Lib.hid hO1
  have HF1 := Lib.hid hF1
  clear hO1 hF1
  go_wp2
  go_ret
  exact ⟨_, rfl, HO1.out, HF1.out⟩
/-- what Bytes writes -/
def bytesW (l p : List UInt8) : List UInt8 := if 65535 < p.length then l else l ++ be 2 p.length ++ p
def bytesOk (p : List UInt8) : Bool := decide (p.length ≤ 65535)
theorem be2 (n : Nat) (h : n ≤ 65535) : be 2 n = [UInt8.ofNat (n / 256), UInt8.ofNat (n % 256)] := by
  have e1 : n / 256 % 256 = n / 256 := Nat.mod_eq_of_lt (by omega)
  simp [be, List.range_succ, e1]
set_option maxHeartbeats 1000000 in
theorem bytes_any (v v2 : Value) (l p : List UInt8) (hl : l.length ≤ 1099511627776) (hp : p.length ≤ 9223372036854775807) (w : World) (hB : BytesIs w v l) (hP : BytesIs w v2 p) :
    Calls Try.prog 24 #[v, v2] w fun e w' => ∃ v', e = .returned (.tuple #[v', .bool (bytesOk p)]) ∧ BytesIs w' v' (bytesW l p) ∧ Fr0 w w' := by
  have HB := Lib.hid hB
  have HP := Lib.hid hP
  clear hB
  obtain ⟨a2, c2, _, _, rfl, _⟩ := hP
  by_cases h : 65535 < p.length
  · have hw : bytesW l p = l := by unfold bytesW; rw [if_pos h]
    have ho : bytesOk p = false := by unfold bytesOk; simp; omega
    rw [hw, ho]
    go_enter Try.func24, Try.ntmps24
    go_wp2_with fail
    refine (roomy_any v l 0 (by omega) w HB.out).mono ?_
    rintro e w1 ⟨v1, rfl, hO1, hF1⟩
    have HO1 := Lib.hid hO1
    have HF1 := Lib.hid hF1
    clear hO1 hF1
    go_wp2
    go_ret2
    exact ⟨_, rfl, BytesIs.own HO1.out, HF1.out⟩
  · have hw : bytesW l p = l ++ be 2 p.length ++ p := by unfold bytesW; rw [if_neg h]
    have ho : bytesOk p = true := by unfold bytesOk; simp; omega
    rw [hw, ho, be2 _ (by omega)]
    go_enter Try.func24, Try.ntmps24
    go_wp2_with fail
    refine (roomy_any v l (2 + p.length) (by omega) w HB.out).mono ?_
    rintro e w1 ⟨v1, rfl, hO1, hF1⟩
    have HO1 := Lib.hid hO1
    have HF1 := Lib.hid hF1
    clear hO1 hF1
    go_wp2_with (first
      | (refine wpList_append_bytes rfl (.tmp 17) (.tmp 25) 25 rfl w.heap.size 5 Try.underlying25 info8 _ _ l.length l [UInt8.ofNat (p.length / 256), UInt8.ofNat (p.length % 256)] rfl rfl (HO1.out.alloc _) ?_ (by simp; omega) (HF1.out.alloc _).size ?_; rotate_left; intro v2 w2 hO2 hG2)
      | (refine wpList_append_bytes rfl (.tmp 27) (.tmp 28) 25 rfl w.heap.size 5 Try.underlying25 info8 _ _ (l.length + 2) (l ++ [UInt8.ofNat (p.length / 256), UInt8.ofNat (p.length % 256)]) p rfl rfl hO2 (HP.out.fr0 ((HF1.out.alloc _).grown hG2 (fun q hq e => by have := HO1.out.lt q e; omega))) (by omega) (Nat.le_trans (HF1.out.alloc _).size hG2.size) ?_; intro v3 w3 hO3 hG3))
    · go_ret2
      refine ⟨_, rfl, ?_, ?_⟩
      · exact BytesIs.own hO3
      · exact ((HF1.out.alloc _).grown hG2 (fun q hq e => by have := HO1.out.lt q e; omega)).grown hG3 (fun q hq e => by have := hO2.lt q e; omega)
    · show BytesIs _ (.slice (some ⟨w1.heap.size, 0, none⟩) 2 2) _
      refine BytesIs.new w1 [UInt8.ofNat (p.length / 256), UInt8.ofNat (p.length % 256)] _ _ 2 rfl 2 (Nat.le_refl _) (fun j hj => ?_) _ rfl
      have h1 : p.length / 256 < 256 := by omega
      match j, hj with
      | 0, _ => simp [UInt8.toNat_ofNat_of_lt' (show p.length / 256 < 2 ^ 8 by omega)]
      | 1, _ => simp [UInt8.toNat_ofNat_of_lt' (show p.length % 256 < 2 ^ 8 by omega)]
end Go.Proofs.Ytjefddliebokaaa.Pack
