/-
  The walks of mac.Check and of the laws' awake.
-/
import Derived.Test.YtmmcnoapkdhgpaaDoorMacOf
namespace Go.Proofs.YtmmcnoapkdhgpaaDoor.Mac
open Go.RowKit Base Sha

def jefe : List UInt8 := [74, 101, 102, 101]
def what : List UInt8 := [119, 104, 97, 116, 32, 100, 111, 32, 121, 97, 32, 119, 97, 110, 116, 32, 102, 111, 114, 32, 110, 111, 116, 104, 105, 110, 103, 63]
def whatCells : Array Value := #[.int .u8 119, .int .u8 104, .int .u8 97, .int .u8 116, .int .u8 32, .int .u8 100, .int .u8 111, .int .u8 32, .int .u8 121, .int .u8 97, .int .u8 32, .int .u8 119, .int .u8 97, .int .u8 110, .int .u8 116, .int .u8 32, .int .u8 102, .int .u8 111, .int .u8 114, .int .u8 32, .int .u8 110, .int .u8 111, .int .u8 116, .int .u8 104, .int .u8 105, .int .u8 110, .int .u8 103, .int .u8 63]
def macText : ByteArray := ⟨#[53, 98, 100, 99, 99, 49, 52, 54, 98, 102, 54, 48, 55, 53, 52, 101, 54, 97, 48, 52, 50, 52, 50, 54, 48, 56, 57, 53, 55, 53, 99, 55, 53, 97, 48, 48, 51, 102, 48, 56, 57, 100, 50, 55, 51, 57, 56, 51, 57, 100, 101, 99, 53, 56, 98, 57, 54, 52, 101, 99, 51, 56, 52, 51]⟩
theorem mac_text : hexText (hmac jefe what) = macText.data.toList := by decide +kernel
set_option maxHeartbeats 1000000 in
theorem awake_any (w : World) (hK : Rounds w) (hg : 0 < w.heap.size) : Calls Tryd.prog 19 #[] w fun e w' => e = .returned (.bool true) ∧ Fr0 w w' := by
  have HK := Lib.hid hK
  clear hK
  have kc := fun (w : World) (C : Array Value) (n c : Nat) => Lib.run_convert_bytes_const (P := Tryd.prog) w 30 5 C n c Tryd.underlying30 Tryd.underlying5
  have kc2 : ∀ (w : World) (o : Obj) (C : Array Value) (n c : Nat), (convert 30 30 (.slice (some ⟨w.heap.size + 1, 0, none⟩) n c)).run Tryd.prog ((w.alloc o).alloc (.cells C 5)) = .ok (.slice (some ⟨w.heap.size + 1, 0, none⟩) n c) ((w.alloc o).alloc (.cells C 5 (C.size, C.size + 1))) := fun w o C n c => by
    have := kc (w.alloc o) C n c
    rwa [World.size_alloc] at this
  go_enter Tryd.func19, Tryd.ntmps19
  go_wp2_with fail
  refine (macOf_any _ _ jefe [what] (by decide) (by decide) (by decide) _ ((bytes_marked w jefe _ _ _ 4 rfl 4 (by omega) rfl _ rfl).fr0 (Fr.alloc (Fr.alloc (Fr.refl _ _) _) _)) (parts_one _ _ what (bytes_marked (w.alloc (.cells #[.int .u8 74, .int .u8 101, .int .u8 102, .int .u8 101] 5 (4, 5))) what whatCells _ _ 28 rfl 28 (by omega) rfl (w.heap.size + 1) (by simp)) _ (w.heap.size + 1 + 1) (by simp)) (HK.out.fr (S := fun _ => False) (Fr.alloc (Fr.alloc (Fr.alloc (Fr.refl _ _) _) _) _) (fun f => f)) (by simp <;> omega)).mono ?_
  rintro e w1 ⟨rfl, hF1⟩
  have HF1 : Hid (Fr0 w w1) := Lib.hid (Fr.trans' (Fr.alloc (Fr.alloc (Fr.alloc (Fr.refl _ _) _) _) _) hF1)
  clear hF1
  go_wp2_with fail
  refine (text_any (hmac jefe [what].flatten) (hmac_len _ _) _).mono ?_
  rintro e w2 ⟨rfl, hF2⟩
  have HF2 : Hid (Fr0 w w2) := Lib.hid (HF1.out.trans' hF2)
  clear hF2
  have ht : hexText (hmac jefe [what].flatten) = macText.data.toList := mac_text
  rw [ht]
  go_wp2
  go_ret
  refine ⟨congrArg (fun b : Bool => Ending.returned (.bool b)) (?h : _ = true), HF2.out⟩
  decide +kernel

set_option maxHeartbeats 1000000 in
set_option maxRecDepth 100000 in
theorem check_any (v v2 : Value) (k s : List UInt8) (ps : List (List UInt8)) (hk : k.length ≤ 1048576) (hs : s.length = 32) (hp : ps.length ≤ 1048576) (hm : ps.flatten.length ≤ 1099511627776) (w : World) (hB : BytesIs w v k) (hP : PartsIs w v2 ps) (hK : Rounds w) (hg : 0 < w.heap.size) :
    Calls Tryd.prog 21 #[v, .agg (bvals s).toArray, v2] w fun e w' => e = .returned (.bool (decide (hmac k ps.flatten = s))) ∧ Fr0 w w' := by
  have HB := Lib.hid hB
  have HP := Lib.hid hP
  have HK := Lib.hid hK
  clear hB hP hK
  have hz2 := (zero_of_info (P := Tryd.prog) zero24).1
  generalize hZD : (Array.replicate 32 (Value.int .u8 0)) = ZD at hz2
  have HZD : Hid (ZD.size = 32) := Lib.hid (by rw [← hZD]; simp)
  generalize hS : (bvals s).toArray = S
  have HS := Lib.hid hS
  clear hZD hS
  go_enter Tryd.func21, Tryd.ntmps21
  go_wp2_with fail
  refine (macOf_any _ _ k ps hk hp hm _ (HB.out.fr0 ((Fr.refl _ _).alloc _)) (HP.out.fr0 ((Fr.refl _ _).alloc _)) (HK.out.fr (S := fun _ => False) ((Fr.refl _ _).alloc _) (fun f => f)) (by simp; try omega)).mono ?_
  rintro e w1 ⟨rfl, hF1⟩
  have HF1 : Hid (Fr0 w w1) := Lib.hid (Fr.trans' ((Fr.refl _ _).alloc _) hF1)
  have HS1 : Hid (w1.heap[w.heap.size]? = some (.cells (bvals s).toArray 24 (0, 0))) := Lib.hid (by rw [HS.out]; exact hF1.heap (heap_alloc_new w _) (fun f => f))
  have HRI : Hid ((Tryd.prog.info? 24).map (·.size) = some (bvals (hmac k ps.flatten)).toArray.size) := Lib.hid (digArr_info _)
  have HRS : Hid (ZD.size = (bvals (hmac k ps.flatten)).toArray.size) := Lib.hid (by rw [HZD.out]; simp [bvals_length, hmac_len])
  have HR1 : Hid ((bvals (hmac k ps.flatten)).toArray.all (·.oneCell') = true) := Lib.hid (barr_one _)
  have hH := hmac_len k ps.flatten
  generalize hHE : hmac k ps.flatten = H at *
  have HE := Lib.hid hHE
  clear hHE
  have HH := Lib.hid hH
  clear hF1 hH
  obtain ⟨R, hR⟩ : ∃ R, R = (bvals H).toArray := ⟨_, rfl⟩
  rw [← hR] at HRI HRS HR1 ⊢
  have HR := Lib.hid hR
  clear hR
  go_wp2_with (first | (refine wpList_store_new rfl 24 _ _ rfl w1.heap.size rfl R rfl rfl 24 _ HRI.out HRS.out HR1.out ?_))
  have HX : Hid (BytesIs (w1.alloc (.cells R 24)) (.slice (some ⟨w1.heap.size, 0, none⟩) 32 32) H) := Lib.hid (BytesIs.block (t := 24) (fr := (0, 0)) (by rw [← HR.out]; exact heap_alloc_new w1 _) 32 32 HH.out.symm (Nat.le_refl _))
  have HY : Hid (BytesIs (w1.alloc (.cells R 24)) (.slice (some ⟨w.heap.size, 0, none⟩) 32 32) s) := Lib.hid ((BytesIs.block HS1.out 32 32 hs.symm (Nat.le_refl _)).fr0 (Fr.alloc (Fr.refl _ _) _))
  go_name_world w2 hw2
  have HF2 : Hid (Fr0 w w2) := Lib.hid (by rw [← hw2]; exact HF1.out.alloc _)
  rw [hw2] at HX HY
  clear hw2
  go_region_with ((go_at_call 22; refine (same_any _ _ H s (by rw [HH.out]; decide) (by omega) _ (HX.out.fr0 ((Fr.refl _ _).drew)) (HY.out.fr0 ((Fr.refl _ _).drew))).mono ?_; rintro e w3 ⟨rfl, hF3⟩))
  all_goals
    go_wp2
    go_ret
    exact ⟨by rw [HE.out]; rfl, Fr.trans' HF2.out (Fr.trans' (Fr.drew (Fr.refl _ _)) hF3)⟩
end Go.Proofs.YtmmcnoapkdhgpaaDoor.Mac
