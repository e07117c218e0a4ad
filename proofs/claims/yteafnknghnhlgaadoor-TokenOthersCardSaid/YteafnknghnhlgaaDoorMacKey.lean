/-
  The walk of mac.keyBlock.
-/
import Derived.Test.YteafnknghnhlgaaDoorMacSame
import Derived.Test.YteafnknghnhlgaaDoorBaseB
import Derived.Test.YteafnknghnhlgaaDoorSumWalk
import Derived.Deep.RegionLaw
namespace Go.Proofs.YteafnknghnhlgaaDoor.Mac
open Go.RowKit Base Sha

set_option maxHeartbeats 1000000 in
set_option maxRecDepth 100000 in
theorem key_any (v : Value) (k : List UInt8) (hk : k.length ≤ 1048576) (w : World) (hB : BytesIs w v k) (hK : Rounds w) (hg : 0 < w.heap.size) :
    Calls Tryd.prog 25 #[v] w fun e w' => e = .returned (.agg (bvals (keyBlk k)).toArray) ∧ Fr0 w w' := by
  have HB := Lib.hid hB
  have HK := Lib.hid hK
  obtain ⟨a, cap, pb, po, rfl, hcap, ha, hc⟩ := hB
  have HA := Lib.hid ha
  have HC := Lib.hid hc
  clear ha hc hK
  have hz := (zero_of_info (P := Tryd.prog) zero64i).1
  have hz2 := (zero_of_info (P := Tryd.prog) zero24).1
  rw [zerosB 64] at hz
  obtain ⟨ZL, hZL⟩ : ∃ ZL, ZL = bvals (List.replicate 64 0) := ⟨_, rfl⟩
  rw [← hZL] at hz
  generalize hZD : (Array.replicate 32 (Value.int .u8 0)) = ZD at hz2
  have HZL := Lib.hid hZL
  have HZD : Hid (ZD.size = 32) := Lib.hid (by rw [← hZD]; simp)
  clear hZL hZD
  have HZS : Hid (ZL.length = 64) := Lib.hid (by rw [HZL.out, bvals_length, List.length_replicate])
  have HY := Lib.hid (barr_info (keyBlk k) (keyBlk_len k))
  have HY1 := Lib.hid (barr_one (keyBlk k))
  have HYS : Hid (ZL.toArray.size = (bvals (keyBlk k)).toArray.size) := Lib.hid (by simp [HZS.out, bvals_length, keyBlk_len])
  by_cases h : 64 < k.length
  · have HL : Hid (keyL k = digest k) := Lib.hid (by unfold keyL; rw [if_pos h])
    have HDI := Lib.hid (digArr_info k)
    have HD1 := Lib.hid (digArr_one k)
    have HDS := Lib.hid (digArr_size k)
    have HDE : Hid (digArr k = (bvals (digest k)).toArray) := Lib.hid rfl
    have hsp : splice ZL 0 (bvals (digest k)) = bvals (keyBlk k) := by
      rw [HZL.out, splice_zero (digest k) 64]
      unfold keyBlk
      rw [HL.out]
    have HSP := Lib.hid hsp
    rw [← hsp] at HY HY1 HYS
    clear hsp
    obtain ⟨X, hX⟩ : ∃ X, X = bvals (digest k) := ⟨_, rfl⟩
    rw [← hX] at HSP HY HY1 HYS HDE
    have HXL : Hid (X.length = Nat.min 32 64) := Lib.hid (by rw [hX, bvals_length, digest_len]; rfl)
    have HXF : Hid (0 + X.length ≤ ZL.length) := Lib.hid (by rw [HXL.out, HZS.out]; decide)
    have HX1 : Hid (∀ u ∈ X, u.oneCell' = true) := Lib.hid (by rw [hX]; exact bvals_one _)
    clear hX
    go_enter Tryd.func25, Tryd.ntmps25
    go_wp2_with fail
    refine (of_any _ [k] _ (parts_one _ _ k (HB.out.fr0 (Fr.alloc (Fr.alloc (Fr.refl _ _) _) _)) _ _ (by simp)) (HK.out.fr (S := fun _ => False) (Fr.alloc (Fr.alloc (Fr.alloc (Fr.refl _ _) _) _) _) (fun f => f)) (by simp; try omega) (by simp; try omega)).mono ?_
    rintro e w1 ⟨rfl, hF1⟩
    rw [show [k].flatten = k from by simp]
    have HF1 : Hid (Fr0 w w1) := Lib.hid (Fr.trans' (Fr.alloc (Fr.alloc (Fr.alloc (Fr.refl _ _) _) _) _) hF1)
    have HZ0 : Hid (w1.heap[w.heap.size]? = some (.cells ZL.toArray 50 (0, 0))) := Lib.hid (hF1.heap ((Fr.alloc (Fr.alloc (Fr.refl (fun _ => False) _) _) _).heap (heap_alloc_new w _) (fun f => f)) (fun f => f))
    have HZ1 : Hid (w1.heap[w.heap.size + 1]? = some (.cells ZL.toArray 50 (0, 0))) := Lib.hid (hF1.heap ((Fr.alloc (Fr.refl (fun _ => False) _) _).heap (heap_alloc2_new w _ _) (fun f => f)) (fun f => f))
    have hs1 := lt_of_heap HZ1.out
    clear hF1
    generalize hDA : digArr k = DA at *
    clear hDA
    go_wp2_with (first | (refine wpList_store_new rfl 38 _ _ rfl w1.heap.size rfl DA rfl rfl 38 _ HDI.out (by rw [HZD.out, HDS.out]) HD1.out ?_))
    go_name_world w2 hw2
    have HF2 : Hid (Fr0 w1 w2) := Lib.hid (by rw [← hw2]; exact (Fr.refl _ _).alloc _)
    have HD2 : Hid (w2.heap[w1.heap.size]? = some (.cells DA 38 (0, 0))) := Lib.hid (by rw [← hw2]; exact heap_alloc_new w1 _)
    clear hw2
    have HPOS : Hid (0 < X.length → some (⟨w.heap.size + 1, 0, none⟩ : Addr) = some ⟨w.heap.size + 1, 0, none⟩ ∧ ∃ ad, some (⟨w1.heap.size, 0, none⟩ : Addr) = some ad ∧ ∀ j u, X[j]? = some u → w2.drew.cell? (ad.add j) = some u) := Lib.hid (fun _ => ⟨rfl, _, rfl, fun j u hj => by
      rw [Addr.add_mid, Nat.zero_add, World.cell?_drew, cell_of_row _ _ _ _ _ _ HD2.out, HDE.out, toArray_get]; exact hj⟩)
    have HZ2 : Hid (w2.drew.heap[w.heap.size + 1]? = some (.cells ZL.toArray 50 (0, 0))) := Lib.hid (HF2.out.heap HZ1.out (fun f => f))
    have HZ3 : Hid (w2.drew.heap[w.heap.size]? = some (.cells ZL.toArray 50 (0, 0))) := Lib.hid (HF2.out.heap HZ0.out (fun f => f))
    go_region_law (refine step_copy_splice rfl (.tmp 11) (.tmp 12) 23 23 rfl 5 Tryd.underlying23 (by kernel_rfl) _ _ 64 64 _ _ (by rfl) (by rfl) (w.heap.size + 1) 0 ZL 50 HZ2.out X HXL.out HPOS.out HXF.out HX1.out (w.heap.size + 1) _ (Below.refl _ _) (Nat.le_refl _) ?_; intro w3 HG3 hB3)
    go_wp2_with (first
      | (refine wpList_load_row rfl 50 _ rfl (w.heap.size + 1) rfl 50 (splice ZL 0 X).toArray (0, 0) _ HG3.out Tryd.underlying50 rfl HY.out ?_)
      | (refine wpList_store_row rfl 50 _ _ rfl w.heap.size (splice ZL 0 X).toArray rfl rfl 50 _ ((hB3.block w.heap.size (by omega)).trans HZ3.out) HY.out HYS.out HY1.out ?_))
    have hF : Fr0 w w3 := Fr.then_below (Fr.trans' HF1.out (Fr.drew HF2.out)) hB3 (fun i h1 h2 => by omega)
    exact bodyPost_ret (v := .agg (splice ZL 0 X).toArray) (results_cell_row (fn := Tryd.f25) rfl _ _ w.heap.size 50 (splice ZL 0 X).toArray (0, 0) _ rfl (setRow_heap _ _ _ _ _ _ ((hB3.block w.heap.size (by omega)).trans HZ3.out)) Tryd.underlying50 rfl HY.out) rfl ⟨by rw [HSP.out], Fr.setRow hF (by intro h; exfalso; omega) _⟩
  · have HL : Hid (keyL k = k) := Lib.hid (by unfold keyL; rw [if_neg h])
    obtain ⟨X, hX⟩ : ∃ X, X = bvals k := ⟨_, rfl⟩
    have hXl : X.length = k.length := by rw [hX, bvals_length]
    have HX := Lib.hid hX
    have HXL := Lib.hid hXl
    have HX1 : Hid (∀ u ∈ X, u.oneCell' = true) := Lib.hid (by rw [hX]; exact bvals_one k)
    have HXC : Hid (∀ j u, X[j]? = some u → w.cell? ((⟨pb, po, none⟩ : Addr).add j) = some u) := Lib.hid (by
      intro j u hj
      have hjl : j < k.length := by rw [← hXl]; exact (List.getElem?_eq_some_iff.1 hj).1
      rw [Addr.add_mid, HC.out j hjl, ← hj, hX, bvals_get _ _ hjl])
    clear hX hXl
    have hn1 : X.length = Nat.min k.length 64 := by rw [HXL.out]; exact (Nat.min_eq_left (by omega)).symm
    have hpos : 0 < X.length → some (⟨w.heap.size + 1, 0, none⟩ : Addr) = some ⟨w.heap.size + 1, 0, none⟩ ∧ ∃ ad, a = some ad ∧ ∀ j u, X[j]? = some u → ((w.alloc (.cells ZL.toArray 50)).alloc (.cells ZL.toArray 50)).cell? (ad.add j) = some u := by
      intro h0
      refine ⟨rfl, _, HA.out (by rw [← HXL.out]; exact h0), fun j u hj => ?_⟩
      have hx := HXC.out j u hj
      rw [Addr.add_mid] at hx ⊢
      exact ((Fr.alloc (Fr.alloc (Fr.refl (fun _ => False) w) _) _).cell (p := ⟨pb, po + j, none⟩) (World.block_lt_of_cell? w _ hx) (fun f => f)).trans hx
    have hfit : 0 + X.length ≤ ZL.length := by rw [HXL.out, HZS.out]; omega
    have hsp : splice ZL 0 X = bvals (keyBlk k) := by
      rw [HZL.out, HX.out, splice_zero k 64]
      unfold keyBlk
      rw [HL.out]
    have HZ0 : Hid (((w.alloc (.cells ZL.toArray 50)).alloc (.cells ZL.toArray 50)).heap[w.heap.size]? = some (.cells ZL.toArray 50 (0, 0))) := Lib.hid ((Fr.alloc (Fr.refl (fun _ => False) _) _).heap (heap_alloc_new w _) (fun f => f))
    have HSP := Lib.hid hsp
    rw [← hsp] at HY HY1 HYS
    clear hsp
    have HN1 := Lib.hid hn1
    have HPOS := Lib.hid hpos
    have HFIT := Lib.hid hfit
    clear hn1 hpos hfit
    go_enter Tryd.func25, Tryd.ntmps25
    go_wp2_with (first
      | (refine wpList_copy_splice rfl (.tmp 14) (.tmp 15) 23 23 rfl 5 Tryd.underlying23 (by kernel_rfl) _ _ 64 64 _ _ rfl rfl (w.heap.size + 1) 0 ZL 50 (heap_alloc2_new w _ _) X HN1.out HPOS.out HFIT.out HX1.out (w.heap.size + 1) _ (Below.refl _ _) (Nat.le_refl _) ?_; intro w2 HG2 hB2)
      | (refine wpList_load_row rfl 50 _ rfl (w.heap.size + 1) rfl 50 (splice ZL 0 X).toArray (0, 0) _ HG2.out Tryd.underlying50 rfl HY.out ?_)
      | (refine wpList_store_row rfl 50 _ _ rfl w.heap.size (splice ZL 0 X).toArray rfl rfl 50 _ ((hB2.block w.heap.size (by omega)).trans HZ0.out) HY.out HYS.out HY1.out ?_))
    have hF : Fr0 w w2 := Fr.then_below (Fr.alloc (Fr.alloc (Fr.refl _ _) _) _) hB2 (fun i h1 h2 => by omega)
    exact bodyPost_ret (v := .agg (splice ZL 0 X).toArray) (results_cell_row (fn := Tryd.f25) rfl _ _ w.heap.size 50 (splice ZL 0 X).toArray (0, 0) _ rfl (setRow_heap _ _ _ _ _ _ ((hB2.block w.heap.size (by omega)).trans HZ0.out)) Tryd.underlying50 rfl HY.out) rfl ⟨by rw [HSP.out], Fr.setRow hF (by intro h; exfalso; omega) _⟩
end Go.Proofs.YteafnknghnhlgaaDoor.Mac
