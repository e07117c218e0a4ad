/-
  CrcKnown: what chapter 3 says of nothing, of parts: the walk.
-/
import Derived.Test.YtcdfflieooopjaaDoorCrcAwake
namespace Go.Proofs.YtcdfflieooopjaaDoor.Crc
open Go.RowKit Base

def n4 : List UInt8 := [49, 50, 51, 52]
def n5 : List UInt8 := [53, 54, 55, 56, 57]
theorem parts_nil (w : World) : PartsIs w (.slice none 0 0) [] := ⟨none, 0, 0, 0, rfl, Nat.le_refl _, by simp, fun h => absurd h (by simp), fun i hi => absurd hi (by simp)⟩
theorem parts_mid (w : World) (v0 v2 : Value) (l0 l2 : List UInt8) (h0 : BytesIs w v0 l0) (h2 : BytesIs w v2 l2) (t : TypeId) (N : Nat) (hN : N = w.heap.size) : PartsIs (w.alloc (.cells #[v0, .slice none 0 0, v2] t)) (.slice (some ⟨N, 0, none⟩) 3 3) [l0, [], l2] := by
  subst hN
  refine ⟨_, 3, w.heap.size, 0, rfl, by simp, by simp, fun _ => rfl, fun i hi => ?_⟩
  have hi : i < 3 := by simpa using hi
  have hF : Fr0 w (w.alloc (.cells #[v0, .slice none 0 0, v2] t)) := (Fr.refl _ _).alloc _
  match i, hi with
  | 0, _ => exact ⟨v0, by rw [cell_of_row _ _ _ _ _ _ (heap_alloc_new w _)]; rfl, h0.fr0 hF⟩
  | 1, _ => exact ⟨.slice none 0 0, by rw [cell_of_row _ _ _ _ _ _ (heap_alloc_new w _)]; rfl, BytesIs.nil _⟩
  | 2, _ => exact ⟨v2, by rw [cell_of_row _ _ _ _ _ _ (heap_alloc_new w _)]; rfl, h2.fr0 hF⟩
theorem k1 : crc 0 ([] : List (List UInt8)).flatten = 0 := by decide +kernel
theorem k2 : crc 0 ([[]] : List (List UInt8)).flatten = 0 := by decide +kernel
theorem k3 : crc 0 [n4, [], n5].flatten = 3421780262 := by decide +kernel
theorem k4 : crc 0 [n4].flatten = 2615402659 := by decide +kernel
theorem k5 : crc 2615402659 n5 = 3421780262 := by decide +kernel
theorem k6 : crc 0 [] = 0 := by decide +kernel
theorem k7 : crc 0 [[0]].flatten = 3523407757 := by decide +kernel
theorem on_zero (v : Value) (l : List UInt8) (hl : l.length ≤ 9223372036854775807) (w : World) (hB : BytesIs w v l) (hR : Rests w) :
    Calls Tryd.prog 31 #[.int .u32 0, v] w fun e w' => e = .returned (.int .u32 ((crc 0 l : Nat) : Int)) ∧ w = w' := by
  have := on_any 0 (by decide) v l hl w hB hR
  simpa using this
set_option maxHeartbeats 2000000 in
set_option maxRecDepth 100000 in
theorem crcKnown_walk (w : World) (hR : Rests w) :
    Calls Tryd.prog 12 #[] w fun e w' => e = .returned (.bool true) ∧ Fr0 w w' := by
  have HR := Lib.hid hR
  clear hR
  have kc := fun (w : World) (C : Array Value) (n c : Nat) => Lib.run_convert_bytes_const (P := Tryd.prog) w 30 5 C n c Tryd.underlying30 Tryd.underlying5
  go_enter Tryd.func12, Tryd.ntmps12
  go_wp2_with fail
  refine (awake_any _ HR.out).mono ?_
  rintro e w1 ⟨rfl, hF1⟩
  have HF1 := Lib.hid hF1
  have HR1 := Lib.hid (HR.out.fr hF1 (fun f => f))
  clear hF1
  go_wp2_with fail
  refine (of_any _ [] w1 (parts_nil w1) HR1.out (by simp)).mono ?_
  rintro e w' ⟨rfl, rfl⟩
  rw [k1]
  go_wp2_with fail
  refine (of_any _ [[]] _ (PartsIs.one w1 _ [] (BytesIs.nil _) _ _ rfl) (HR1.out.fr (S := fun _ => False) ((Fr.refl _ _).alloc _) (fun f => f)) (by simp)).mono ?_
  rintro e w' ⟨rfl, rfl⟩
  rw [k2]
  generalize hw2 : w1.alloc (.cells #[.slice none 0 0] 30) = w2
  have HF2 : Hid (Fr0 w w2) := Lib.hid (by rw [← hw2]; exact HF1.out.alloc _)
  clear hw2
  have kc2 : ∀ (o : Obj) (C : Array Value) (n c : Nat), (convert 30 30 (.slice (some ⟨w2.heap.size + 1, 0, none⟩) n c)).run Tryd.prog ((w2.alloc o).alloc (.cells C 5)) = .ok (.slice (some ⟨w2.heap.size + 1, 0, none⟩) n c) ((w2.alloc o).alloc (.cells C 5 (C.size, C.size + 1))) := fun o C n c => by
    have := kc (w2.alloc o) C n c
    rwa [World.size_alloc] at this
  go_wp2_with fail
  refine (of_any _ [n4, [], n5] _ (parts_mid ((w2.alloc (.cells #[.int .u8 49, .int .u8 50, .int .u8 51, .int .u8 52] 5 (4, 5))).alloc (.cells #[.int .u8 53, .int .u8 54, .int .u8 55, .int .u8 56, .int .u8 57] 5 (5, 6))) _ _ n4 n5 ((bytes_mark w2 n4 _ _ _ 4 rfl 4 (by omega) rfl _ rfl).fr0 ((Fr.refl _ _).alloc _)) (bytes_mark _ n5 _ _ _ 5 rfl 5 (by omega) rfl _ (by simp)) _ _ (by simp)) (HR.out.fr (((HF2.out.alloc _).alloc _).alloc _) (fun f => f)) (by simp [n4, n5])).mono ?_
  rintro e w' ⟨rfl, rfl⟩
  rw [k3]
  generalize hw3 : ((w2.alloc (.cells #[.int .u8 49, .int .u8 50, .int .u8 51, .int .u8 52] 5 (4, 5))).alloc (.cells #[.int .u8 53, .int .u8 54, .int .u8 55, .int .u8 56, .int .u8 57] 5 (5, 6))).alloc (.cells _ 30) = w3
  have HF3 : Hid (Fr0 w w3) := Lib.hid (by rw [← hw3]; exact ((HF2.out.alloc _).alloc _).alloc _)
  clear hw3 kc2
  go_wp2_with fail
  refine (of_any _ [n4] _ (PartsIs.one (w3.alloc (.cells #[.int .u8 49, .int .u8 50, .int .u8 51, .int .u8 52] 5 (4, 5))) _ n4 (bytes_mark w3 n4 _ _ _ 4 rfl 4 (by omega) rfl _ rfl) _ _ (by simp)) (HR.out.fr ((HF3.out.alloc _).alloc _) (fun f => f)) (by simp [n4])).mono ?_
  rintro e w' ⟨rfl, rfl⟩
  rw [k4]
  generalize hw4 : (w3.alloc (.cells #[.int .u8 49, .int .u8 50, .int .u8 51, .int .u8 52] 5 (4, 5))).alloc (.cells _ 30) = w4
  have HF4 : Hid (Fr0 w w4) := Lib.hid (by rw [← hw4]; exact (HF3.out.alloc _).alloc _)
  clear hw4
  go_wp2_with fail
  refine (on_any 2615402659 (by decide) _ n5 (by decide) (w4.alloc (.cells #[.int .u8 53, .int .u8 54, .int .u8 55, .int .u8 56, .int .u8 57] 5 (5, 6))) (bytes_mark w4 n5 _ _ _ 5 rfl 5 (by omega) rfl _ rfl) (HR.out.fr (HF4.out.alloc _) (fun f => f))).mono ?_
  rintro e w' ⟨rfl, rfl⟩
  rw [k5]
  generalize hw5 : w4.alloc (.cells #[.int .u8 53, .int .u8 54, .int .u8 55, .int .u8 56, .int .u8 57] 5 (5, 6)) = w5
  have HF5 : Hid (Fr0 w w5) := Lib.hid (by rw [← hw5]; exact HF4.out.alloc _)
  clear hw5
  go_wp2_with fail
  refine (on_zero _ [] (by decide) w5 (BytesIs.nil _) (HR.out.fr HF5.out (fun f => f))).mono ?_
  rintro e w' ⟨rfl, rfl⟩
  rw [k6]
  go_wp2_with fail
  refine (of_any _ [[0]] _ (PartsIs.one (w5.alloc (.cells #[.int .u8 0] 5)) _ [0] (bytes_mark w5 [0] _ _ _ 1 rfl 1 (by omega) rfl _ rfl) _ _ (by simp)) (HR.out.fr ((HF5.out.alloc _).alloc _) (fun f => f)) (by simp)).mono ?_
  rintro e w' ⟨rfl, rfl⟩
  rw [k7]
  go_wp2
  go_ret
  exact ⟨rfl, (HF5.out.alloc _).alloc _⟩
end Go.Proofs.YtcdfflieooopjaaDoor.Crc
