/-
  The crc laws' awake.
-/
import Derived.Test.YtcdfflieooopjaaDoorCrcWalk
import Derived.Test.YtcdfflieooopjaaDoorBaseC
import Derived.Lib.SlBytesConst
namespace Go.Proofs.YtcdfflieooopjaaDoor.Crc
open Go.RowKit Base

def nine : List UInt8 := [49, 50, 51, 52, 53, 54, 55, 56, 57]
theorem crc_nine : crc 0 [nine].flatten = 3421780262 := by decide +kernel
theorem bytes_mark (w : World) (l : List UInt8) (c : Array Value) (t : TypeId) (fr : Nat × Nat) (n : Nat) (hn : n = l.length) (cap : Nat) (hcap : n ≤ cap) (hc : bvals l = c.toList) (N : Nat) (hN : N = w.heap.size) :
    BytesIs (w.alloc (.cells c t fr)) (.slice (some ⟨N, 0, none⟩) n cap) l := by
  subst hn hN
  refine ⟨_, cap, w.heap.size, 0, rfl, hcap, fun _ => rfl, fun j hj => ?_⟩
  rw [cell_of_row _ _ _ _ _ _ (heap_alloc_new w _), Nat.zero_add]
  have := bvals_get l j hj
  rw [hc] at this
  simpa using this
set_option maxHeartbeats 1000000 in
theorem awake_any (w : World) (hR : Rests w) : Calls Tryd.prog 29 #[] w fun e w' => e = .returned (.bool true) ∧ Fr0 w w' := by
  have HR := Lib.hid hR
  clear hR
  have kc := fun (w : World) (C : Array Value) (n c : Nat) => Lib.run_convert_bytes_const (P := Tryd.prog) w 30 5 C n c Tryd.underlying30 Tryd.underlying5
  go_enter Tryd.func29, Tryd.ntmps29
  go_wp2_with fail
  refine (of_any _ [nine] _ (PartsIs.one (w.alloc (.cells #[.int .u8 49, .int .u8 50, .int .u8 51, .int .u8 52, .int .u8 53, .int .u8 54, .int .u8 55, .int .u8 56, .int .u8 57] 5 (9, 10))) _ nine (bytes_mark w nine _ _ _ 9 rfl 9 (by omega) rfl _ rfl) _ _ (by simp)) (HR.out.fr (S := fun _ => False) (((Fr.refl _ _).alloc _).alloc _) (fun f => f)) (by simp [nine])).mono ?_
  rintro e w1 ⟨rfl, rfl⟩
  rw [crc_nine]
  go_wp2
  go_ret
  exact ⟨rfl, ((Fr.refl _ _).alloc _).alloc _⟩
theorem gTab : Tryd.prog.globalNamed "warrener/crc.rests" = some 0 := by kernel_rfl
end Go.Proofs.YtcdfflieooopjaaDoor.Crc
