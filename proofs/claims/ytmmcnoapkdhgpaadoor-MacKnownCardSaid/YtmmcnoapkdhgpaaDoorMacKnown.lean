/-
  MacKnown: what chapter 2 says of long keys, of no key, of unlike lengths: the walk.
-/
import Derived.Test.YtmmcnoapkdhgpaaDoorMacKnownR
import Derived.Deep.DeepCutAuto
namespace Go.Proofs.YtmmcnoapkdhgpaaDoor.Mac
open Go.RowKit Base Sha

set_option maxHeartbeats 2000000 in
set_option maxRecDepth 100000 in
theorem macKnown_walk (w : World) (hK : Rounds w) (hg : 0 < w.heap.size) :
    Calls Tryd.prog 7 #[] w fun e w' => e = .returned (.bool true) ∧ Fr0 w w' := by
  have HK := Lib.hid hK
  clear hK
  have kc := fun (w : World) (C : Array Value) (n c : Nat) => Lib.run_convert_bytes_const (P := Tryd.prog) w 30 5 C n c Tryd.underlying30 Tryd.underlying5
  have kc2 : ∀ (w : World) (o : Obj) (C : Array Value) (n c : Nat), (convert 30 30 (.slice (some ⟨w.heap.size + 1, 0, none⟩) n c)).run Tryd.prog ((w.alloc o).alloc (.cells C 5)) = .ok (.slice (some ⟨w.heap.size + 1, 0, none⟩) n c) ((w.alloc o).alloc (.cells C 5 (C.size, C.size + 1))) := fun w o C n c => by
    have := kc (w.alloc o) C n c
    rwa [World.size_alloc] at this
  have kc3 : ∀ (w : World) (o o2 : Obj) (C : Array Value) (n c : Nat), (convert 30 30 (.slice (some ⟨w.heap.size + 1 + 1, 0, none⟩) n c)).run Tryd.prog (((w.alloc o).alloc o2).alloc (.cells C 5)) = .ok (.slice (some ⟨w.heap.size + 1 + 1, 0, none⟩) n c) (((w.alloc o).alloc o2).alloc (.cells C 5 (C.size, C.size + 1))) := fun w o o2 C n c => by
    have := kc2 (w.alloc o) o2 C n c
    rwa [World.size_alloc] at this
  go_enter Tryd.func7, Tryd.ntmps7
  go_wp2_with fail
  refine (awake_any _ HK.out hg).mono ?_
  rintro e w1 ⟨rfl, hF1⟩
  have HF1 := Lib.hid hF1
  clear hF1
  have mk65 := mk65
  have mk64 := mk64
  have HLA : Hid (longArr = (bvals long).toArray) := Lib.hid rfl
  have HNA : Hid (noArr = (bvals (List.replicate 64 0)).toArray) := Lib.hid rfl
  generalize longArr = LA at *
  generalize noArr = NA at *
  have hDI := digArr_info long
  have hD1 := digArr_one long
  have hDS := digArr_size long
  have HDE : Hid (digArr long = (bvals (digest long)).toArray) := Lib.hid rfl
  have hsum : ∀ (W : World) (v : Value), Fr0 w W → PartsIs W v [long] → Calls Tryd.prog 13 #[v] W fun e w' => e = .returned (.agg (digArr long)) ∧ Fr0 W w' := fun W v hF hP => by
    have := of_any v [long] W hP (HK.out.fr hF (fun f => f)) (Nat.lt_of_lt_of_le hg hF.size) (by decide)
    rw [show [long].flatten = long from by simp] at this
    exact this
  generalize digArr long = DL at *
  have HDI := Lib.hid hDI
  have HD1 := Lib.hid hD1
  have HDS := Lib.hid hDS
  have HSUM := Lib.hid hsum
  have hz2 := (zero_of_info (P := Tryd.prog) zero24).1
  generalize hZD : (Array.replicate 32 (Value.int .u8 0)) = ZD at hz2
  have HZD : Hid (ZD.size = 32) := Lib.hid (by rw [← hZD]; simp)
  clear hDI hD1 hDS hsum hZD
  have hmac3 : ∀ (k m : List UInt8) (H : Array Value), H = (bvals (hmac k m)).toArray → k.length ≤ 100 → m.length ≤ 100 → ∀ (W : World) (vk v : Value) (ps : List (List UInt8)), Fr0 w W → BytesIs W vk k → PartsIs W v ps → ps.length ≤ 100 → ps.flatten = m → Calls Tryd.prog 20 #[vk, v] W fun e w' => e = .returned (.agg H) ∧ Fr0 W w' := fun k m H hH hk hm W vk v ps hF hB hP hl hfl => by
    have := macOf_any vk v k ps (by omega) (by omega) (by rw [hfl]; omega) W hB hP (HK.out.fr hF (fun f => f)) (Nat.lt_of_lt_of_le hg hF.size)
    rw [hfl, ← hH] at this
    exact this
  have chk : ∀ (k m s : List UInt8) (S : Array Value) (d : Bool), S = (bvals s).toArray → s.length = 32 → decide (hmac k m = s) = d → k.length ≤ 100 → m.length ≤ 100 → ∀ (W : World) (vk v : Value) (ps : List (List UInt8)), Fr0 w W → BytesIs W vk k → PartsIs W v ps → ps.length ≤ 100 → ps.flatten = m → Calls Tryd.prog 21 #[vk, .agg S, v] W fun e w' => e = .returned (.bool d) ∧ Fr0 W w' := fun k m s S d hS hs hd hk hm W vk v ps hF hB hP hl hfl => by
    have := check_any vk v k s ps (by omega) hs (by omega) (by rw [hfl]; omega) W hB hP (HK.out.fr hF (fun f => f)) (Nat.lt_of_lt_of_le hg hF.size)
    rw [hfl, hd, ← hS] at this
    exact this
  have HMAC := Lib.hid hmac3
  have HCHK := Lib.hid chk
  clear hmac3 chk
  obtain ⟨HX, hX⟩ : ∃ H, H = (bvals (hmac long [120])).toArray := ⟨_, rfl⟩
  obtain ⟨HN, hN⟩ : ∃ H, H = (bvals (hmac [] [])).toArray := ⟨_, rfl⟩
  obtain ⟨HM, hM⟩ : ∃ H, H = (bvals (hmac [107] [97, 98])).toArray := ⟨_, rfl⟩
  have eX := eqH HX _ hX (hmac_len _ _)
  have eN := eqH HN _ hN (hmac_len _ _)
  have eM := eqH HM _ hM (hmac_len _ _)
  have HMI : Hid ((Tryd.prog.info? 24).map (·.size) = some HM.size) := Lib.hid (by rw [hM]; exact digArr_info _)
  have HMS : Hid (ZD.size = HM.size) := Lib.hid (by rw [HZD.out, hM]; simp [bvals_length, hmac_len])
  have HM1 : Hid (HM.all (·.oneCell') = true) := Lib.hid (by rw [hM]; exact barr_one _)
  have HXE := Lib.hid hX
  have HNE := Lib.hid hN
  have HME := Lib.hid hM
  clear hX hN hM
  go_wp2_with fail
  refine (HSUM.out _ _ (Fr.alloc (Fr.alloc HF1.out _) _) (parts_one _ _ long (BytesIs.block (t := 5) (fr := (0, 0)) (by rw [← HLA.out]; exact heap_alloc_new w1 _) 65 65 (by decide) (by decide)) _ _ (by simp))).mono ?_
  rintro e w2 ⟨rfl, hF⟩
  have HF2 : Hid (Fr0 w w2) := Lib.hid (Fr.trans' (Fr.alloc (Fr.alloc HF1.out _) _) hF)
  have HB2 : Hid (w2.heap[w1.heap.size]? = some (.cells (bvals long).toArray 5 (0, 0))) := Lib.hid (by rw [← HLA.out]; exact hF.heap ((Fr.alloc (Fr.refl (fun _ => False) _) _).heap (heap_alloc_new w1 _) (fun f => f)) (fun f => f))
  clear hF HF1
  go_upto_region 5 with (refine wpList_store_new rfl 24 _ _ rfl w2.heap.size rfl DL rfl rfl 24 _ HDI.out (by rw [HZD.out, HDS.out]) HD1.out ?_)
  go_name_world w3 hw3
  have HF3 : Hid (Fr0 w w3) := Lib.hid (by rw [← hw3]; exact HF2.out.alloc _)
  have HBL : Hid (BytesIs w3 (.slice (some ⟨w1.heap.size, 0, none⟩) 65 65) long) := Lib.hid (BytesIs.block (by rw [← hw3]; exact (Fr.alloc (Fr.refl (fun _ => False) _) _).heap HB2.out (fun f => f)) 65 65 (by decide) (by decide))
  have HBS : Hid (BytesIs w3 (.slice (some ⟨w2.heap.size, 0, none⟩) 32 32) (digest long)) := Lib.hid (BytesIs.block (t := 24) (fr := (0, 0)) (by rw [← HDE.out, ← hw3]; exact heap_alloc_new w2 _) 32 32 (digest_len _).symm (by decide))
  clear hw3 HB2 HF2
  go_wp2_with fail
  refine (HMAC.out [107] [97, 98] HM HME.out (by decide) (by decide) _ _ _ [[97], [98]] (Fr.alloc (Fr.alloc (Fr.alloc (Fr.alloc HF3.out _) _) _) _) ((m1 w3 107 _ rfl _ _ rfl).fr0 (Fr.alloc (Fr.alloc (Fr.alloc (Fr.refl (fun _ => False) _) _) _) _)) (PartsIs.two _ _ _ [97] [98] ((m1 _ 97 _ rfl _ _ (by simp)).fr0 (Fr.alloc (Fr.refl (fun _ => False) _) _)) (m1 _ 98 _ rfl _ _ (by simp)) _ _ (by simp)) (by decide) (by decide)).mono ?_
  rintro e w4 ⟨rfl, hF⟩
  have HF4 : Hid (Fr0 w3 w4) := Lib.hid (Fr.trans' (Fr.alloc (Fr.alloc (Fr.alloc (Fr.alloc (Fr.refl _ _) _) _) _) _) hF)
  clear hF
  go_wp2_with (first | (refine wpList_store_new rfl 24 _ _ rfl w4.heap.size rfl HM rfl rfl 24 _ HMI.out HMS.out HM1.out ?_))
  have HB5 : Hid ((w4.alloc (.cells HM 24)).heap[w4.heap.size]? = some (.cells HM 24 (0, 0))) := Lib.hid (heap_alloc_new w4 _)
  have HF5 : Hid (Fr0 w3 (w4.alloc (.cells HM 24))) := Lib.hid (HF4.out.alloc _)
  go_name_world w5 hw5
  rw [hw5] at HB5 HF5
  have HF5w : Hid (Fr0 w w5) := Lib.hid (HF3.out.trans' HF5.out)
  have HBL5 := Lib.hid (HBL.out.fr0 HF5.out)
  have HBS5 := Lib.hid (HBS.out.fr0 HF5.out)
  clear hw5 HF4 HBL HBS HF5
  refine known_region (w := w) (HX := HX) (HN := HN) (HM := HM) (b1 := w1.heap.size) (b2 := w2.heap.size) (b3 := w4.heap.size) ⟨rfl, rfl, rfl, rfl, HF5w.out, HBL5.out, HBS5.out, HB5.out, HMI.out, HXE.out, HNE.out, HME.out, HMAC.out, HCHK.out⟩ ?_
  intro a' w6 hF6 hdf h0
  have hF : Fr0 w w6 := HF5w.out.trans' hF6
  clear HMAC HCHK HSUM
  go_wp2
  exact bodyPost_ret (results_tmp rfl a'.tmps Tryd.prog w6) hdf ⟨congrArg Ending.returned h0, hF⟩
end Go.Proofs.YtmmcnoapkdhgpaaDoor.Mac
