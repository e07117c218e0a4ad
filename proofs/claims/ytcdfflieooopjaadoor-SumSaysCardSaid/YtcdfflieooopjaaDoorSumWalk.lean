/-
  The walks of layer 1's laws over the contracts of sum.Of, sum.Text, sum.Parse.
-/
import Derived.Test.YtcdfflieooopjaaDoorShaOf
import Derived.Test.YtcdfflieooopjaaDoorShaParse
import Derived.Test.YtcdfflieooopjaaDoorLaw
import Derived.Lib.SlBytesConst
namespace Go.Proofs.YtcdfflieooopjaaDoor.Sha
open Go.RowKit Base

/-- one part alone, as the walk lays it -/
theorem parts_one (w : World) (v : Value) (l : List UInt8) (hv : BytesIs w v l) (t : TypeId) (N : Nat) (hN : N = w.heap.size) : PartsIs (w.alloc (.cells #[v] t)) (.slice (some ⟨N, 0, none⟩) 1 1) [l] := by
  subst hN
  refine ⟨_, 1, w.heap.size, 0, rfl, by simp, by simp, fun _ => rfl, fun i hi => ?_⟩
  have : i = 0 := by simpa using hi
  subst this
  refine ⟨v, ?_, hv.fr0 ((Fr.refl _ _).alloc _)⟩
  rw [cell_of_row _ _ _ _ _ _ (heap_alloc_new w _)]
  rfl
theorem bytes_marked (w : World) (l : List UInt8) (c : Array Value) (t : TypeId) (fr : Nat × Nat) (n : Nat) (hn : n = l.length) (cap : Nat) (hcap : n ≤ cap) (hc : bvals l = c.toList) (N : Nat) (hN : N = w.heap.size) :
    BytesIs (w.alloc (.cells c t fr)) (.slice (some ⟨N, 0, none⟩) n cap) l := by
  subst hn hN
  refine ⟨_, cap, w.heap.size, 0, rfl, hcap, fun _ => rfl, fun j hj => ?_⟩
  rw [cell_of_row _ _ _ _ _ _ (heap_alloc_new w _), Nat.zero_add]
  have := bvals_get l j hj
  rw [hc] at this
  simpa using this
def abc : List UInt8 := [97, 98, 99]
def abcText : ByteArray := ⟨#[98, 97, 55, 56, 49, 54, 98, 102, 56, 102, 48, 49, 99, 102, 101, 97, 52, 49, 52, 49, 52, 48, 100, 101, 53, 100, 97, 101, 50, 50, 50, 51, 98, 48, 48, 51, 54, 49, 97, 51, 57, 54, 49, 55, 55, 97, 57, 99, 98, 52, 49, 48, 102, 102, 54, 49, 102, 50, 48, 48, 49, 53, 97, 100]⟩
theorem abc_text : hexText (digest abc) = abcText.data.toList := by decide +kernel
theorem digest_length (m : List UInt8) : (digest m).length = 32 := by simp [digest]

set_option maxHeartbeats 1000000 in
theorem awake_any (w : World) (hK : Rounds w) (hg : 1 < w.heap.size) : Calls Tryd.prog 17 #[] w fun e w' => e = .returned (.bool true) ∧ Fr0 w w' := by
  have HK := Lib.hid hK
  clear hK
  have kc := fun (w : World) (C : Array Value) (n c : Nat) => Lib.run_convert_bytes_const (P := Tryd.prog) w 30 5 C n c Tryd.underlying30 Tryd.underlying5
  go_enter Tryd.func17, Tryd.ntmps17
  go_wp2_with fail
  refine (of_any _ [abc] _ (parts_one (w.alloc (.cells #[.int .u8 97, .int .u8 98, .int .u8 99] 5 (3, 4))) _ abc (bytes_marked w abc _ _ _ 3 rfl 3 (by omega) rfl _ rfl) _ _ (by simp)) (HK.out.fr (S := fun _ => False) (((Fr.refl _ _).alloc _).alloc _) (fun f => f)) (by simp) (by decide)).mono ?_
  rintro e w1 ⟨rfl, hF1⟩
  have HF1 : Hid (Fr0 w w1) := Lib.hid (Fr.trans' (((Fr.refl _ _).alloc _).alloc _) hF1)
  clear hF1
  go_wp2_with fail
  refine (text_any (digest [abc].flatten) (digest_length _) _).mono ?_
  rintro e w2 ⟨rfl, hF2⟩
  have HF2 : Hid (Fr0 w w2) := Lib.hid (HF1.out.trans' hF2)
  clear hF2
  have ht : hexText (digest [abc].flatten) = abcText.data.toList := abc_text
  rw [ht]
  go_wp2
  go_ret
  refine ⟨congrArg (fun b : Bool => Ending.returned (.bool b)) (?h : _ = true), HF2.out⟩
  decide +kernel
end Go.Proofs.YtcdfflieooopjaaDoor.Sha
