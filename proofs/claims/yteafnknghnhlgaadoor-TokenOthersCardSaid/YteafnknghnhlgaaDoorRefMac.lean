/-
  The reference's HMAC.
-/
import Derived.Test.YteafnknghnhlgaaDoorRefOut
import Derived.Test.YteafnknghnhlgaaDoorMacKey
import Derived.Test.YteafnknghnhlgaaDoorVals
import Derived.Test.YteafnknghnhlgaaDoorBaseC
import Derived.Deep.DeepCutAuto
namespace Go.Proofs.YteafnknghnhlgaaDoor.Mac
open Go.RowKit Base Sha

def zs64 : Array Value := (bvals (List.replicate 64 0)).toArray
theorem mkz64 : ∀ w : World, (Instr.makeSlice 23 (.int .i64 64) (.int .i64 64)).run Tryd.prog w = .ok (.slice (some ⟨w.heap.size, 0, none⟩) 64 64) (w.alloc (.cells zs64 5)) := fun w => by kernel_rfl
theorem owns_block {w : World} {base g : Nat} {e : TypeId} {l : List UInt8} (h : w.heap[g]? = some (.cells (bvals l).toArray e (0, 0))) (hb : base ≤ g) (n : Nat) (hn : n = l.length) (hm : n ≤ maxLen) : w.ownsRow base e 1 (.slice (some ⟨g, 0, none⟩) n n) n (bvals l) := by
  subst hn
  refine ⟨by simp [bvals_length], .inr ⟨g, l.length, (bvals l).toArray, rfl, hb, h, Nat.le_refl _, hm, by simp [bvals_length], ?_⟩⟩
  rw [Nat.mul_one, List.take_of_length_le (by simp [bvals_length])]
/-- what stands behind the key's block: in and out, one after the other -/
def MacMid (w : World) (kb : List UInt8) (g5 : Nat) (k : Nat) (g7 g8 : Nat) (wx : World) : Prop :=
  wx.heap[g5]? = some (.cells (bvals kb).toArray 5 (0, 0)) ∧ wx.rowIs g7 5 64 (fun j => if j < k then .int .u8 (((kb.getD j 0) ^^^ 54).toNat : Int) else .int .u8 0) ∧ wx.rowIs g8 5 64 (fun j => if j < k then .int .u8 (((kb.getD j 0) ^^^ 92).toNat : Int) else .int .u8 0) ∧
    g5 ≠ g7 ∧ g5 ≠ g8 ∧ g7 ≠ g8 ∧ w.heap.size < g5 ∧ w.heap.size < g7 ∧ w.heap.size < g8 ∧ Fr0 w wx
theorem row_xor {wx : World} {g : Nat} {kb : List UInt8} {p : UInt8} (hk : kb.length = 64) (h : wx.rowIs g 5 64 (fun j => if j < 64 then .int .u8 (((kb.getD j 0) ^^^ p).toNat : Int) else .int .u8 0)) : wx.heap[g]? = some (.cells (bvals (xorB p kb)).toArray 5 (0, 0)) := by
  refine bytes_rowIs h (by rw [xorB_len, hk]) (fun i hi => ?_)
  rw [if_pos hi]
  simp [xorB, hk, hi]
theorem mac_next {w wr : World} {kb : List UInt8} {g5 j g7 g8 : Nat} (h : MacMid w kb g5 j g7 g8 wr) (v7 v8 : Value) (h7 : v7 = .int .u8 (((kb.getD j 0) ^^^ 54).toNat : Int)) (h8 : v8 = .int .u8 (((kb.getD j 0) ^^^ 92).toNat : Int)) :
    MacMid w kb g5 (j + 1) g7 g8 ((wr.setCell ⟨g7, j, none⟩ v7).setCell ⟨g8, j, none⟩ v8).drew := by
  obtain ⟨m5, m7, m8, n57, n58, n78, l5, l7, l8, mF⟩ := h
  have next : ∀ (p : UInt8) (v : Value), v = .int .u8 (((kb.getD j 0) ^^^ p).toNat : Int) → ∀ i, i < 64 → (if i = j then v else (if i < j then Value.int .u8 (((kb.getD i 0) ^^^ p).toNat : Int) else .int .u8 0)) = (if i < j + 1 then .int .u8 (((kb.getD i 0) ^^^ p).toNat : Int) else .int .u8 0) := by
    intro p v hv i _
    by_cases e : i = j
    · subst e; rw [if_pos rfl, if_pos (by omega), hv]
    · rw [if_neg e]
      by_cases e' : i < j
      · rw [if_pos e', if_pos (by omega)]
      · rw [if_neg e', if_neg (by omega)]
  refine ⟨?_, ?_, ?_, n57, n58, n78, l5, l7, l8, ?_⟩
  · have f7 : Fr1 g7 wr (wr.setCell ⟨g7, j, none⟩ v7) := Fr.setCell (S := fun k => k = g7) (Fr.refl _ _) (p := ⟨g7, j, none⟩) (fun _ => rfl) _
    have f8 : Fr1 g8 (wr.setCell ⟨g7, j, none⟩ v7) ((wr.setCell ⟨g7, j, none⟩ v7).setCell ⟨g8, j, none⟩ v8) := Fr.setCell (S := fun k => k = g8) (Fr.refl _ _) (p := ⟨g8, j, none⟩) (fun _ => rfl) _
    exact (Fr.drew (Fr.refl (fun _ => False) _)).heap (f8.heap (f7.heap m5 n57) n58) (fun f => f)
  · exact (((m7.set j _).congr (next 54 v7 h7)).setOther (by simpa using n78) _).drew
  · exact (((m8.setOther (by simpa using (Ne.symm n78)) _).set j _).congr (next 92 v8 h8)).drew
  · exact Fr.drew (Fr.setCell (Fr.setCell mF (by intro h; exfalso; simp at h; omega) _) (by intro h; exfalso; simp at h; omega) _)
set_option maxHeartbeats 2000000 in
set_option maxRecDepth 100000 in
theorem refMac_any (v0 v1 : Value) (k m : List UInt8) (hk : k.length ≤ 1000000) (hm : m.length ≤ 1000000) (w : World) (hB : BytesIs w v0 k) (hC : BytesIs w v1 m) :
    Calls Tryd.prog 23 #[v0, v1] w fun e w' => e = .returned (.agg (bvals (hmac k m)).toArray) ∧ Fr0 w w' := by
  have HB := Lib.hid hB
  have HC := Lib.hid hC
  obtain ⟨a0, cap0, pb0, po0, rfl, hcap0, ha0, hc0⟩ := hB
  obtain ⟨a1, cap1, _, _, rfl, _⟩ := hC
  have HA0 := Lib.hid ha0
  have HC0 := Lib.hid hc0
  clear ha0 hc0
  have hz := (zero_of_info (P := Tryd.prog) zero23j).1
  generalize hZ : (Array.replicate 32 (Value.int .u8 0)) = Z at hz
  have HZ : Hid (Z.size = 32) := Lib.hid (by rw [← hZ]; simp)
  clear hZ
  have mkz := mkz64
  have HZ6 : Hid (zs64 = (bvals (List.replicate 64 0)).toArray) := Lib.hid rfl
  generalize zs64 = Z6 at *
  obtain ⟨ZL, hZL⟩ : ∃ ZL, ZL = bvals (List.replicate 64 0) := ⟨_, rfl⟩
  have HZL := Lib.hid hZL
  rw [← hZL] at HZ6
  have HZLl : Hid (ZL.length = 64) := Lib.hid (by rw [hZL, bvals_length, List.length_replicate])
  clear hZL
  go_enter Tryd.func23, Tryd.ntmps23
  go_upto_if 14 with fail
  have HR : Hid (((w.alloc (.cells Z 37)).alloc (.cells Z6 5)).heap[w.heap.size]? = some (.cells Z 37 (0, 0))) := Lib.hid ((Fr.alloc (Fr.refl (fun _ => False) _) _).heap (heap_alloc_new w _) (fun f => f))
  have H5 : Hid (((w.alloc (.cells Z 37)).alloc (.cells Z6 5)).heap[w.heap.size + 1]? = some (.cells ZL.toArray 5 (0, 0))) := Lib.hid (by rw [← HZ6.out]; exact heap_alloc2_new w _ _)
  go_name_world w1 hw1
  rw [hw1] at HR H5
  have HF1 : Hid (Fr0 w w1) := Lib.hid (by rw [← hw1]; exact Fr.alloc (Fr.alloc (Fr.refl _ _) _) _)
  have hs1 : w1.heap.size = w.heap.size + 2 := by rw [← hw1]; simp
  clear hw1
  go_cut [5] (fun s5 wx => s5 = .slice (some ⟨w.heap.size + 1, 0, none⟩) 64 64 ∧ wx.heap[w.heap.size + 1]? = some (.cells (bvals (keyBlk k)).toArray 5 (0, 0)) ∧ wx.heap[w.heap.size]? = some (.cells Z 37 (0, 0)) ∧ Fr0 w wx)
  case first =>
    by_cases h64 : 64 < k.length
    · have HKL : Hid (keyL k = digest k) := Lib.hid (by unfold keyL; rw [if_pos h64])
      have hsp : splice ZL 0 (bvals (digest k)) = bvals (keyBlk k) := by
        rw [HZL.out, splice_zero (digest k) 64]
        unfold keyBlk
        rw [HKL.out]
      have HSP := Lib.hid hsp
      clear hsp
      obtain ⟨X, hX⟩ : ∃ X, X = bvals (digest k) := ⟨_, rfl⟩
      rw [← hX] at HSP
      have HXL : Hid (X.length = Nat.min 32 64) := Lib.hid (by rw [hX, bvals_length, digest_len]; rfl)
      have HXF : Hid (0 + X.length ≤ ZL.length) := Lib.hid (by rw [HXL.out, HZLl.out]; decide)
      have HX1 : Hid (∀ u ∈ X, u.oneCell' = true) := Lib.hid (by rw [hX]; exact bvals_one _)
      have HX := Lib.hid hX
      clear hX
      go_wp2_with fail
      refine (refSum_any _ k (by omega) _ (HB.out.fr0 HF1.out)).mono ?_
      rintro e w2 ⟨rfl, hF2⟩
      have HF2 := Lib.hid hF2
      have HDE : Hid (digArr k = (bvals (digest k)).toArray) := Lib.hid rfl
      have HDI := Lib.hid (dig_info23 k)
      have HD1 := Lib.hid (digArr_one k)
      have HDS := Lib.hid (digArr_size k)
      generalize digArr k = DA at *
      have HR2 := Lib.hid (hF2.heap HR.out (fun f => f))
      have H52 := Lib.hid (hF2.heap H5.out (fun f => f))
      have hs2 := hF2.size
      clear hF2
      go_upto_region 4 with (refine wpList_store_new rfl 37 _ _ rfl w2.heap.size rfl DA rfl rfl 37 _ HDI.out (by rw [HZ.out, HDS.out]) HD1.out ?_)
      go_name_world w3 hw3
      have hF3 : Fr0 w2 w3 := by rw [← hw3]; exact (Fr.refl _ _).alloc _
      have HD3 : Hid (w3.heap[w2.heap.size]? = some (.cells DA 37 (0, 0))) := Lib.hid (by rw [← hw3]; exact heap_alloc_new w2 _)
      have H53 := Lib.hid (hF3.heap H52.out (fun f => f))
      have HR3 := Lib.hid (hF3.heap HR2.out (fun f => f))
      have HF3 : Hid (Fr0 w w3) := Lib.hid ((HF1.out.trans' HF2.out).trans' hF3)
      clear hw3 hF3
      have HPOS : Hid (0 < X.length → some (⟨w.heap.size + 1, 0, none⟩ : Addr) = some ⟨w.heap.size + 1, 0, none⟩ ∧ ∃ ad, some (⟨w2.heap.size, 0, none⟩ : Addr) = some ad ∧ ∀ j u, X[j]? = some u → w3.cell? (ad.add j) = some u) := Lib.hid (fun _ => ⟨rfl, _, rfl, fun j u hj => by
        rw [Addr.add_mid, Nat.zero_add, cell_of_row _ _ _ _ _ _ HD3.out, HDE.out, toArray_get, ← HX.out]; exact hj⟩)
      go_wp2_with (refine wpList_copy_splice rfl (.tmp 17) (.tmp 18) 23 23 rfl 5 Tryd.underlying23 (by kernel_rfl) _ _ 64 64 _ _ rfl rfl (w.heap.size + 1) 0 ZL 5 H53.out X HXL.out HPOS.out HXF.out HX1.out (w.heap.size + 1) _ (Below.refl _ _) (Nat.le_refl _) ?_; intro w4 HG4 hB4)
      go_meet
      case rel => exact ⟨rfl, by rw [← HSP.out]; exact HG4.out, (hB4.block w.heap.size (by omega)).trans HR3.out, Fr.then_below HF3.out hB4 (fun i h1 h2 => by omega)⟩
    · have HKL : Hid (keyL k = k) := Lib.hid (by unfold keyL; rw [if_neg h64])
      have hsp : splice ZL 0 (bvals k) = bvals (keyBlk k) := by
        rw [HZL.out, splice_zero k 64]
        unfold keyBlk
        rw [HKL.out]
      have HSP := Lib.hid hsp
      clear hsp
      obtain ⟨X, hX⟩ : ∃ X, X = bvals k := ⟨_, rfl⟩
      rw [← hX] at HSP
      have HXl : Hid (X.length = k.length) := Lib.hid (by rw [hX, bvals_length])
      have HXL : Hid (X.length = Nat.min k.length 64) := Lib.hid (by rw [HXl.out]; exact (Nat.min_eq_left (by omega)).symm)
      have HXF : Hid (0 + X.length ≤ ZL.length) := Lib.hid (by rw [HXl.out, HZLl.out]; omega)
      have HX1 : Hid (∀ u ∈ X, u.oneCell' = true) := Lib.hid (by rw [hX]; exact bvals_one _)
      have HPOS : Hid (0 < X.length → some (⟨w.heap.size + 1, 0, none⟩ : Addr) = some ⟨w.heap.size + 1, 0, none⟩ ∧ ∃ ad, a0 = some ad ∧ ∀ j u, X[j]? = some u → w1.cell? (ad.add j) = some u) := Lib.hid (fun h0 => ⟨rfl, _, HA0.out (by rw [← HXl.out]; exact h0), fun j u hj => by
        have hjl : j < k.length := by rw [← HXl.out]; exact (List.getElem?_eq_some_iff.1 hj).1
        rw [Addr.add_mid]
        refine (HF1.out.cell (p := ⟨pb0, po0 + j, none⟩) (World.block_lt_of_cell? w _ (HC0.out j hjl)) (fun f => f)).trans ?_
        rw [HC0.out j hjl, ← hj, hX, bvals_get _ _ hjl]⟩)
      clear hX
      go_wp2_with (refine wpList_copy_splice rfl (.tmp 20) (.tmp 21) 23 23 rfl 5 Tryd.underlying23 (by kernel_rfl) _ _ 64 64 _ _ rfl rfl (w.heap.size + 1) 0 ZL 5 H5.out X HXL.out HPOS.out HXF.out HX1.out (w.heap.size + 1) _ (Below.refl _ _) (Nat.le_refl _) ?_; intro w4 HG4 hB4)
      go_meet
      case rel => exact ⟨rfl, by rw [← HSP.out]; exact HG4.out, (hB4.block w.heap.size (by omega)).trans HR.out, Fr.then_below HF1.out hB4 (fun i h1 h2 => by omega)⟩
  case rest =>
    obtain ⟨rfl, h5, hR, hF⟩ := hcut
    have H5b := Lib.hid h5
    have HRb := Lib.hid hR
    have HFb := Lib.hid hF
    have hs5 := lt_of_heap h5
    clear h5 hR hF HR H5 HF1
    have hnew : ∀ (wx : World) (j : Nat), wx.rowIs j 5 64 (fun i => if i < 0 then Value.int .u8 1 else .int .u8 0) → True := fun _ _ _ => trivial
    clear hnew
    have HZR : Hid (∀ i, i < 64 → Z6[i]? = some (Value.int .u8 0)) := Lib.hid (fun i hi => by
      rw [HZ6.out, HZL.out, toArray_get, bvals_zeros, List.getElem?_replicate, if_pos hi])
    have HZ6s : Hid (Z6.size = 64) := Lib.hid (by rw [HZ6.out]; simp [HZLl.out])
    go_upto_region 6 with fail
    go_cut [7, 8] (fun s7 s8 wx => ∃ g7 g8 : Nat, s7 = .slice (some ⟨g7, 0, none⟩) 64 64 ∧ s8 = .slice (some ⟨g8, 0, none⟩) 64 64 ∧ MacMid w (keyBlk k) (w.heap.size + 1) 0 g7 g8 wx ∧ wx.heap[w.heap.size]? = some (.cells Z 37 (0, 0)))
    case first =>
      have row0 : ∀ (wx : World) (q : UInt8), (wx.alloc (.cells Z6 5)).rowIs wx.heap.size 5 64 (fun j => if j < 0 then .int .u8 ((((keyBlk k).getD j 0) ^^^ q).toNat : Int) else .int .u8 0) := fun wx q => rowIs_new wx Z6 _ 64 _ HZ6s.out (fun i hi => by rw [HZR.out i hi, if_neg (by omega)])
      have ROW0 := Lib.hid row0
      clear row0
      go_region
      all_goals go_wp2_with fail
      all_goals go_meet
      all_goals
        refine ⟨_, _, rfl, rfl, ⟨?_, ?_, ?_, ?_, ?_, ?_, ?_, ?_, ?_, ?_⟩, ?_⟩
        all_goals first
          | omega
          | exact (Fr.drew (Fr.alloc (Fr.alloc (Fr.refl (fun _ => False) _) _) _)).heap H5b.out (fun f => f)
          | exact (Fr.drew (Fr.alloc (Fr.alloc (Fr.refl (fun _ => False) _) _) _)).heap HRb.out (fun f => f)
          | exact ((ROW0.out wc _).alloc _).drew
          | (have h := ROW0.out (wc.alloc (.cells Z6 5)) 54; rw [World.size_alloc] at h; exact h.drew)
          | (have h := ROW0.out (wc.alloc (.cells Z6 5)) 92; rw [World.size_alloc] at h; exact h.drew)
          | exact Fr.drew (Fr.alloc (Fr.alloc HFb.out _) _)
    case rest =>
      obtain ⟨g7, g8, rfl, rfl, hM, hR⟩ := hcut
      have HM := Lib.hid hM
      have HR7 := Lib.hid hR
      clear hM hR
      go_wp2_with fail
      go_loopw [9] (fun i wr => ∃ j : Nat, j ≤ 64 ∧ i = .int .i64 j ∧ MacMid w (keyBlk k) (w.heap.size + 1) j g7 g8 wr ∧ wr.heap[w.heap.size]? = some (.cells Z 37 (0, 0))) (fun i _ => 64 - (intOf i).toNat)
      case atStart => exact ⟨0, by omega, rfl, HM.out, HR7.out⟩
      case round =>
        clear HM HR7
        obtain ⟨j, hj, rfl, hM, hR⟩ := hrel
        have HM := Lib.hid hM
        have HR7 := Lib.hid hR
        obtain ⟨m5, m7, m8, n57, n58, n78, l5, l7, l8, mF⟩ := hM
        have HM7 := Lib.hid m7
        have HM8 := Lib.hid m8
        have HMF := Lib.hid mF
        have HM5 := Lib.hid m5
        clear hR m7 m8 mF m5
        have hkb := keyBlk_len k
        by_cases hlt : j < 64
        · have c5 : wr.cell? ⟨w.heap.size + 1, j, none⟩ = some (.int .u8 (((keyBlk k).getD j 0).toNat : Int)) := by
            rw [cell_of_row _ _ _ _ _ _ HM5.out, toArray_get]; exact bvals_get _ _ (by omega)
          have c7 : wr.cell? ⟨g7, j, none⟩ = some (.int .u8 0) := by rw [HM7.out.cell (i := j) hlt, if_neg (by omega)]
          have c8 : wr.cell? ⟨g8, j, none⟩ = some (.int .u8 0) := by rw [HM8.out.cell (i := j) hlt, if_neg (by omega)]
          have f7 := HM7.out.frozen j
          have f8 := HM8.out.frozen j
          have x54 := xor_byte ((keyBlk k).getD j 0) 54
          have x92 := xor_byte ((keyBlk k).getD j 0) 92
          have hx := ((keyBlk k).getD j 0).toNat_lt
          have NX := Lib.hid (fun (v7 v8 : Value) h7 h8 => mac_next HM.out v7 v8 h7 h8)
          generalize (keyBlk k).getD j 0 = xb at c5 x54 x92 hx NX
          have X54 := Lib.hid x54
          have X92 := Lib.hid x92
          have HKB := Lib.hid hkb
          clear x54 x92 hkb
          go_wp2
          go_region
          all_goals go_wp2_with fail
          go_roundw
          case rel => exact ⟨j + 1, by omega, by go_num, NX.out _ _ (congrArg _ X54.out) (congrArg _ X92.out), (Fr.drew (Fr.setCell (S := fun q => q = g7 ∨ q = g8) (Fr.setCell (S := fun q => q = g7 ∨ q = g8) (Fr.refl _ _) (fun _ => .inl rfl) _) (fun _ => .inr rfl) _)).heap HR7.out (by omega)⟩
          case measure => simp only [intOf]; omega
        · have hj64 : j = 64 := by omega
          subst hj64
          have B7 := Lib.hid (row_xor hkb HM7.out)
          have B8 := Lib.hid (row_xor hkb HM8.out)
          have hx54 := xorB_len 54 (keyBlk k)
          have hx92 := xorB_len 92 (keyBlk k)
          have hs7 := HMF.out.size
          have OWN7 : Hid (wr.ownsRow w.heap.size 5 1 (.slice (some ⟨g7, 0, none⟩) 64 64) 64 (bvals (xorB 54 (keyBlk k)))) := Lib.hid (owns_block B7.out (by omega) 64 (by rw [hx54, hkb]) (by unfold maxLen; omega))
          have HXL54 : Hid ((xorB 54 (keyBlk k)).length = 64) := Lib.hid (by rw [hx54, hkb])
          have HXL92 : Hid ((xorB 92 (keyBlk k)).length = 64) := Lib.hid (by rw [hx92, hkb])
          have HRI : Hid ((Tryd.prog.info? 37).map (·.size) = some (digArr (xorB 54 (keyBlk k) ++ m)).size) := Lib.hid (dig_info23 _)
          have HR1 := Lib.hid (digArr_one (xorB 54 (keyBlk k) ++ m))
          have HRS : Hid (Z.size = (digArr (xorB 54 (keyBlk k) ++ m)).size) := Lib.hid (by rw [HZ.out, digArr_size])
          clear hx54 hx92 hkb HM7 HM8 HM HM5
          go_wp2_with (at_builtin; refine wpList_append_bytes rfl (.tmp 45) (.tmp 46) 23 rfl w.heap.size 5 Tryd.underlying23 infoU8 _ _ 64 (xorB 54 (keyBlk k)) m rfl rfl OWN7.out (HC.out.fr0 HMF.out) (by omega) (by omega) ?_)
          intro v2 w2 hown2 hgr2
          have HB2 : Hid (BytesIs w2 v2 (xorB 54 (keyBlk k) ++ m)) := Lib.hid (BytesIs.own (n := (xorB 54 (keyBlk k) ++ m).length) (by rw [List.length_append, HXL54.out]; exact hown2))
          have hfr : Fr (fun q => q = g7) wr w2 := Fr.grown (Fr.refl _ _) hgr2 (fun q hq e => by simp [Value.ownBlock] at e; exact e.symm)
          have HF2 : Hid (Fr0 w w2) := Lib.hid (HMF.out.trans hfr (fun i hi e => by omega))
          have HR2 := Lib.hid (hfr.heap HR7.out (by omega))
          have B82 := Lib.hid (hfr.heap B8.out (by omega))
          have hs2 := hfr.size
          clear hown2 hgr2 hfr
          go_wp2_with fail
          refine (refSum_any _ (xorB 54 (keyBlk k) ++ m) (by rw [List.length_append, HXL54.out]; omega) _ HB2.out).mono ?_
          rintro e w3 ⟨rfl, hF3⟩
          have HF3 : Hid (Fr0 w w3) := Lib.hid (HF2.out.trans' hF3)
          have HR3 := Lib.hid (hF3.heap HR2.out (fun f => f))
          have B83 := Lib.hid (hF3.heap B82.out (fun f => f))
          have HDE : Hid (digArr (xorB 54 (keyBlk k) ++ m) = (bvals (digest (xorB 54 (keyBlk k) ++ m))).toArray) := Lib.hid rfl
          generalize digArr (xorB 54 (keyBlk k) ++ m) = DA at *
          have hs3 := HF3.out.size
          have h83 := lt_of_heap B83.out
          clear hF3
          go_wp2_with (first
            | (refine wpList_store_new rfl 37 _ _ rfl w3.heap.size rfl DA rfl rfl 37 _ HRI.out HRS.out HR1.out ?_)
            | (at_builtin; refine wpList_append_bytes rfl (.tmp 49) (.tmp 50) 23 rfl w.heap.size 5 Tryd.underlying23 infoU8 _ _ 64 (xorB 92 (keyBlk k)) (digest (xorB 54 (keyBlk k) ++ m)) rfl rfl (owns_block ((Fr.alloc (Fr.refl (fun _ => False) _) _).heap B83.out (fun f => f)) (by omega) 64 HXL92.out.symm (by unfold maxLen; omega)) (BytesIs.block (t := 37) (fr := (0, 0)) (by rw [← HDE.out]; exact heap_alloc_new w3 _) 32 32 (digest_len _).symm (Nat.le_refl _)) (by rw [digest_len]; omega) (by simp; omega) ?_))
          intro v4 w4 hown4 hgr4
          have HB4 : Hid (BytesIs w4 v4 (xorB 92 (keyBlk k) ++ digest (xorB 54 (keyBlk k) ++ m))) := Lib.hid (BytesIs.own (n := (xorB 92 (keyBlk k) ++ digest (xorB 54 (keyBlk k) ++ m)).length) (by rw [List.length_append, HXL92.out]; exact hown4))
          have hfr : Fr (fun q => q = g8) w3 w4 := Fr.grown (Fr.alloc (Fr.refl _ _) _) hgr4 (fun q hq e => by simp [Value.ownBlock] at e; exact e.symm)
          have HF4 : Hid (Fr0 w w4) := Lib.hid (HF3.out.trans hfr (fun i hi e => by omega))
          have HR4 := Lib.hid (hfr.heap HR3.out (by omega))
          clear hown4 hgr4 hfr
          go_wp2_with fail
          refine (refSum_any _ (xorB 92 (keyBlk k) ++ digest (xorB 54 (keyBlk k) ++ m)) (by rw [List.length_append, HXL92.out, digest_len]; omega) _ HB4.out).mono ?_
          rintro e w5 ⟨rfl, hF5⟩
          have HF5 : Hid (Fr0 w w5) := Lib.hid (HF4.out.trans' hF5)
          have HR5 := Lib.hid (hF5.heap HR4.out (fun f => f))
          have HFI : Hid ((Tryd.prog.info? 37).map (·.size) = some (digArr (xorB 92 (keyBlk k) ++ digest (xorB 54 (keyBlk k) ++ m))).size) := Lib.hid (dig_info23 _)
          have HF1' := Lib.hid (digArr_one (xorB 92 (keyBlk k) ++ digest (xorB 54 (keyBlk k) ++ m)))
          have HFS : Hid (Z.size = (digArr (xorB 92 (keyBlk k) ++ digest (xorB 54 (keyBlk k) ++ m))).size) := Lib.hid (by rw [HZ.out, digArr_size])
          have HFE : Hid ((bvals (hmac k m)).toArray = digArr (xorB 92 (keyBlk k) ++ digest (xorB 54 (keyBlk k) ++ m))) := Lib.hid rfl
          generalize digArr (xorB 92 (keyBlk k) ++ digest (xorB 54 (keyBlk k) ++ m)) = FA at *
          clear hF5
          go_wp2_with (refine wpList_store_row rfl 37 _ _ rfl w.heap.size FA rfl rfl 37 _ HR5.out HFI.out HFS.out HF1'.out ?_)
          exact bodyPost_ret (v := .agg FA) (results_cell_row (fn := Tryd.f23) rfl _ _ w.heap.size 37 FA (0, 0) _ rfl (setRow_heap _ _ _ _ _ _ HR5.out) Tryd.underlying37 rfl HFI.out) rfl ⟨by rw [HFE.out], Fr.setRow HF5.out (by intro h; exfalso; omega) _⟩
end Go.Proofs.YteafnknghnhlgaaDoor.Mac
