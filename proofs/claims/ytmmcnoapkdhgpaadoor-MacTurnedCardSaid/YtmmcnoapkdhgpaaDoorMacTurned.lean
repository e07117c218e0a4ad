/-
  MacTurned: with one bit of a sum turned it is not taken: the walk.
-/
import Derived.Test.YtmmcnoapkdhgpaaDoorMacWalk
import Derived.Test.YtmmcnoapkdhgpaaDoorBaseC
import Derived.Deep.DeepCutAuto
namespace Go.Proofs.YtmmcnoapkdhgpaaDoor.Mac
open Go.RowKit Base Sha

theorem turned_ne (H : List UInt8) (i : Nat) (hi : i < H.length) (x : UInt8) (hx : x ≠ H.getD i 0) : decide (H = H.set i x) = false := by
  rw [decide_eq_false_iff_not]
  intro h
  have h1 := congrArg (fun l : List UInt8 => l.getD i 0) h
  simp [List.getD_eq_getElem?_getD, hi] at h1 hx
  exact hx h1.symm
theorem bit_byte (X : UInt8) (m : Nat) (hm : m < 8) : bits .xor .u8 (X.toNat : Int) (2 ^ m % 256) = ((X ^^^ UInt8.ofNat (2 ^ m)).toNat : Int) ∧ X ^^^ UInt8.ofNat (2 ^ m) ≠ X := by
  have e : ((UInt8.ofNat (2 ^ m)).toNat : Int) = 2 ^ m % 256 := by
    match m, hm with
    | 0, _ | 1, _ | 2, _ | 3, _ | 4, _ | 5, _ | 6, _ | 7, _ => decide
  have hp : (UInt8.ofNat (2 ^ m)).toNat ≠ 0 := by
    match m, hm with
    | 0, _ | 1, _ | 2, _ | 3, _ | 4, _ | 5, _ | 6, _ | 7, _ => decide
  refine ⟨by rw [← e]; exact xor_byte _ _, fun h => hp ?_⟩
  have h1 := congrArg UInt8.toNat h
  rw [UInt8.toNat_xor] at h1
  have h2 : X.toNat ^^^ (X.toNat ^^^ (UInt8.ofNat (2 ^ m)).toNat) = X.toNat ^^^ X.toNat := by rw [h1]
  rwa [← Nat.xor_assoc, Nat.xor_self, Nat.zero_xor] at h2
set_option maxHeartbeats 1000000 in
set_option maxRecDepth 100000 in
theorem macTurned_walk (v0 v1 : Value) (k b : List UInt8) (bit : Int) (hk : k.length ≤ 9223372036854775807) (hb : b.length ≤ 9223372036854775807) (hbit : -9223372036854775808 ≤ bit ∧ bit ≤ 9223372036854775807) (w : World) (hA : BytesIs w v0 k) (hB : BytesIs w v1 b)
    (hK : Rounds w) (hg : 0 < w.heap.size) :
    Calls Tryd.prog 9 #[v0, v1, .int .i64 bit] w fun e w' => e = .returned (.bool true) ∧ Fr0 w w' := by
  have HA := Lib.hid hA
  have HB := Lib.hid hB
  have HK := Lib.hid hK
  obtain ⟨a0, cap0, _, _, rfl, _⟩ := hA
  obtain ⟨a1, cap1, _, _, rfl, _⟩ := hB
  clear hK
  have hz2 := (zero_of_info (P := Tryd.prog) zero24).1
  generalize hZD : (Array.replicate 32 (Value.int .u8 0)) = ZD at hz2
  have HZD : Hid (ZD.size = 32) := Lib.hid (by rw [← hZD]; simp)
  clear hZD
  by_cases hbad : 100 < k.length ∨ 500 < b.length ∨ bit < 0 ∨ 255 < bit
  · go_enter Tryd.func9, Tryd.ntmps9
    go_wp2_with fail
    refine (awake_any _ HK.out hg).mono ?_
    rintro e w1 ⟨rfl, hF1⟩
    have HF1 := Lib.hid hF1
    clear hF1
    by_cases h1 : 100 < k.length
    · clear hbad
      go_wp2
      go_ret
      exact ⟨rfl, HF1.out⟩
    · by_cases h2 : 500 < b.length
      · clear hbad
        go_wp2
        go_ret
        exact ⟨rfl, HF1.out⟩
      · by_cases h3 : bit < 0
        · clear hbad
          go_wp2
          go_ret
          exact ⟨rfl, HF1.out⟩
        · have h4 : 255 < bit := by omega
          clear hbad
          go_wp2
          go_ret
          exact ⟨rfl, HF1.out⟩
  · obtain ⟨n, rfl⟩ := Int.eq_ofNat_of_zero_le (show 0 ≤ bit by omega)
    have h1 : ¬ 100 < k.length := by omega
    have h2 : ¬ 500 < b.length := by omega
    have h3 : ¬ 255 < n := by omega
    clear hbad hbit
    go_enter Tryd.func9, Tryd.ntmps9
    go_wp2_with fail
    refine (awake_any _ HK.out hg).mono ?_
    rintro e w1 ⟨rfl, hF1⟩
    have HF1 := Lib.hid hF1
    have hs1 := hF1.size
    clear hF1
    go_wp2_with fail
    refine (macOf_any _ _ k [b] (by omega) (by simp) (by simp; omega) _ (HA.out.fr0 (HF1.out.alloc _)) (parts_one w1 _ b (HB.out.fr0 HF1.out) _ _ rfl) (HK.out.fr (HF1.out.alloc _) (fun f => f)) (by simp; try omega)).mono ?_
    rintro e w2 ⟨rfl, hF2⟩
    have HF2 : Hid (Fr0 w w2) := Lib.hid (Fr.trans' (HF1.out.alloc _) hF2)
    have hHL := hmac_len k [b].flatten
    have HRI : Hid ((Tryd.prog.info? 24).map (·.size) = some (bvals (hmac k [b].flatten)).toArray.size) := Lib.hid (digArr_info _)
    have HR1 : Hid ((bvals (hmac k [b].flatten)).toArray.all (·.oneCell') = true) := Lib.hid (barr_one _)
    generalize hHE : hmac k [b].flatten = H at *
    have HE := Lib.hid hHE
    have HHL := Lib.hid hHL
    clear hHE hF2 hHL
    obtain ⟨R, hR⟩ : ∃ R, R = (bvals H).toArray := ⟨_, rfl⟩
    have HRS : Hid (ZD.size = R.size) := Lib.hid (by rw [HZD.out, hR]; simp [bvals_length, HHL.out])
    rw [← hR] at HRI HR1 ⊢
    have HB2 : Hid ((w2.alloc (.cells R 24)).heap[w2.heap.size]? = some (.cells (bvals H).toArray 24 (0, 0))) := Lib.hid (by rw [← hR]; exact heap_alloc_new w2 _)
    clear hR
    go_upto_region 6 with (refine wpList_store_new rfl 24 _ _ rfl w2.heap.size rfl R rfl rfl 24 _ HRI.out HRS.out HR1.out ?_)
    go_name_world w3 hw3
    rw [hw3] at HB2
    have HF3 : Hid (Fr0 w w3) := Lib.hid (by rw [← hw3]; exact HF2.out.alloc _)
    clear hw3
    have hn8 : n / 8 < 32 := by omega
    have c0 : w3.cell? ⟨w2.heap.size, n / 8, none⟩ = some (.int .u8 ((H.getD (n / 8) 0).toNat : Int)) := by
      rw [cell_of_row _ _ _ _ _ _ HB2.out, toArray_get]; exact bvals_get H _ (by rw [HHL.out]; exact hn8)
    have f0 : w3.frozen? ⟨w2.heap.size, n / 8, none⟩ = false := (rowIs_bytes HB2.out).frozen _
    have hx := (H.getD (n / 8) 0).toNat_lt
    generalize hX : H.getD (n / 8) 0 = X at *
    have HX := Lib.hid hX
    clear hX
    go_upto_region 7 with fail
    obtain ⟨hbb, hne⟩ := bit_byte X (n % 8) (Nat.mod_lt _ (by decide))
    have hB4 := set_byte HB2.out (n / 8) (X ^^^ UInt8.ofNat (2 ^ (n % 8))) (Value.int IntKind.u8 (bits BinOp.xor IntKind.u8 (↑X.toNat) (2 ^ (n % 8) % 256))) (by rw [hbb])
    go_name_world w4 hw4
    rw [hw4] at hB4
    have HF4 : Hid (Fr0 w w4) := Lib.hid (by rw [← hw4]; exact Fr.setCell HF3.out (by intro h; exfalso; simp at h; have := HF2.out.size; omega) _)
    have hT := turned_ne H (n / 8) (by rw [HHL.out]; exact hn8) (X ^^^ UInt8.ofNat (2 ^ (n % 8))) (by rw [HX.out]; exact hne)
    have HT := Lib.hid hT
    have hl4 : (H.set (n / 8) (X ^^^ UInt8.ofNat (2 ^ (n % 8)))).length = 32 := by rw [List.length_set]; exact HHL.out
    generalize H.set (n / 8) (X ^^^ UInt8.ofNat (2 ^ (n % 8))) = H' at *
    have HL4 := Lib.hid hl4
    have HB4 := Lib.hid hB4
    clear hw4 hT hbb hne c0 f0 hB4 hl4
    have HI4 : Hid ((Tryd.prog.info? 24).map (·.size) = some (bvals H').toArray.size) := Lib.hid (by rw [show (bvals H').toArray.size = 32 from by simp [bvals_length, HL4.out]]; exact info24)
    obtain ⟨R', hR'⟩ : ∃ R', R' = (bvals H').toArray := ⟨_, rfl⟩
    rw [← hR'] at HB4 HI4
    have HR' := Lib.hid hR'
    clear hR'
    go_wp2_with (refine wpList_load_row rfl 24 _ rfl w2.heap.size rfl 24 R' (0, 0) _ HB4.out Tryd.underlying24 rfl HI4.out ?_)
    have hc := check_any (.slice a0 k.length cap0) (.slice (some ⟨w4.heap.size, 0, none⟩) 1 1) k H' [b] (by omega) HL4.out (by simp) (by simp; omega) (w4.alloc (.cells #[.slice a1 b.length cap1] 30)) (HA.out.fr0 (HF4.out.alloc _)) (parts_one w4 _ b (HB.out.fr0 HF4.out) _ _ rfl) (HK.out.fr (HF4.out.alloc _) (fun f => f)) (by simp; try omega)
    rw [HE.out, HT.out, ← HR'.out] at hc
    refine hc.mono ?_
    rintro e w5 ⟨rfl, hF5⟩
    have HF5 : Hid (Fr0 w w5) := Lib.hid (Fr.trans' (HF4.out.alloc _) hF5)
    clear hF5 hc
    go_wp2
    go_ret
    exact ⟨rfl, HF5.out⟩
end Go.Proofs.YtmmcnoapkdhgpaaDoor.Mac
