/-
  MacParts: however bytes are parted, the sum is the same; a key with noughts behind is the same key: the walk.
-/
import Derived.Test.YtmmcnoapkdhgpaaDoorMacWalk
import Derived.Test.YtmmcnoapkdhgpaaDoorAppendMake
import Derived.Test.YtmmcnoapkdhgpaaDoorRefA
import Derived.Test.YtmmcnoapkdhgpaaDoorBaseC
namespace Go.Proofs.YtmmcnoapkdhgpaaDoor.Mac
open Go.RowKit Base Sha

theorem keyBlk_zeros (k : List UInt8) (n : Nat) (h : k.length + n ≤ 64) : keyBlk (k ++ List.replicate n 0) = keyBlk k := by
  unfold keyBlk keyL
  rw [if_neg (by simp; omega), if_neg (by omega)]
  simp only [List.length_append, List.length_replicate, List.append_assoc, List.replicate_append_replicate]
  congr 2
  omega
theorem hmac_zeros (k m : List UInt8) (n : Nat) (h : k.length + n ≤ 64) : hmac (k ++ List.replicate n 0) m = hmac k m := by
  unfold hmac
  rw [keyBlk_zeros k n h]
theorem eqH (H : Array Value) (l : List UInt8) (hH : H = (bvals l).toArray) (hl : l.length = 32) (wx : World) : (Op.equalIn 10000 24 (.agg H) (.agg H)).run Tryd.prog wx = .ok true wx := by
  subst hH
  have := eq_barr (P := Tryd.prog) 9998 24 5 32 Tryd.underlying24 (by kernel_rfl) Tryd.underlying5 l l hl hl wx
  simp only [decide_true] at this
  exact this
set_option maxHeartbeats 1000000 in
set_option maxRecDepth 100000 in
theorem macParts_walk (v0 v1 v2 : Value) (k x y : List UInt8) (n : Int) (hk : k.length ≤ 9223372036854775807) (hx : x.length ≤ 9223372036854775807) (hy : y.length ≤ 9223372036854775807) (hn : -9223372036854775808 ≤ n ∧ n ≤ 9223372036854775807) (w : World) (hA : BytesIs w v0 k) (hB : BytesIs w v1 x) (hC : BytesIs w v2 y)
    (hK : Rounds w) (hg : 0 < w.heap.size) :
    Calls Tryd.prog 10 #[v0, v1, v2, .int .i64 n] w fun e w' => e = .returned (.bool true) ∧ Fr0 w w' := by
  have HA := Lib.hid hA
  have HB := Lib.hid hB
  have HC := Lib.hid hC
  have HK := Lib.hid hK
  obtain ⟨a0, cap0, _, _, rfl, _⟩ := hA
  obtain ⟨a1, cap1, _, _, rfl, _⟩ := hB
  obtain ⟨a2, cap2, _, _, rfl, _⟩ := hC
  clear hK
  by_cases hbad : 64 < k.length ∨ 500 < x.length ∨ 500 < y.length ∨ n < 0 ∨ 64 - (k.length : Int) < n
  · go_enter Tryd.func10, Tryd.ntmps10
    go_wp2_with fail
    refine (awake_any _ HK.out hg).mono ?_
    rintro e w1 ⟨rfl, hF1⟩
    have HF1 := Lib.hid hF1
    clear hF1
    by_cases h1 : 64 < k.length
    · clear hbad
      go_wp2
      go_ret
      exact ⟨rfl, HF1.out⟩
    · by_cases h2 : 500 < x.length
      · clear hbad
        go_wp2
        go_ret
        exact ⟨rfl, HF1.out⟩
      · by_cases h3 : 500 < y.length
        · clear hbad
          go_wp2
          go_ret
          exact ⟨rfl, HF1.out⟩
        · by_cases h4 : n < 0
          · clear hbad
            go_wp2
            go_ret
            exact ⟨rfl, HF1.out⟩
          · have h5 : 64 - (k.length : Int) < n := by omega
            clear hbad
            go_wp2
            go_ret
            exact ⟨rfl, HF1.out⟩
  · obtain ⟨m, rfl⟩ := Int.eq_ofNat_of_zero_le (show 0 ≤ n by omega)
    have h1 : ¬ 64 < k.length := by omega
    have h2 : ¬ 500 < x.length := by omega
    have h3 : ¬ 500 < y.length := by omega
    have h5 : ¬ 64 - (k.length : Int) < (m : Int) := by omega
    have hmk : k.length + m ≤ 64 := by omega
    clear hbad hn
    go_enter Tryd.func10, Tryd.ntmps10
    go_wp2_with fail
    refine (awake_any _ HK.out hg).mono ?_
    rintro e w1 ⟨rfl, hF1⟩
    have HF1 := Lib.hid hF1
    have hs1 := hF1.size
    clear hF1
    go_wp2_with (at_builtin; refine wpList_append_bytes rfl (.tmp 37) (.tmp 38) 30 rfl w1.heap.size 5 Tryd.underlying30 infoU8 _ _ 0 [] x rfl rfl (owns_empty w1 w1.heap.size 5 (Nat.le_refl _) w1.heap.size rfl) (HB.out.fr0 (HF1.out.alloc _)) (by omega) (by simp) ?_)
    intro v3 w3 hown3 hgr3
    have HOWN3 : Hid (w3.ownsRow w1.heap.size 5 1 v3 x.length (bvals x)) := Lib.hid (by simpa using hown3)
    have HF3 : Hid (Fr0 w1 w3) := Lib.hid (Fr.grown (Fr.alloc (Fr.refl _ _) _) hgr3 (fun q hq e => by simp [Value.ownBlock] at e; omega))
    have hs3 := HF3.out.size
    clear hown3 hgr3
    go_wp2_with (at_builtin; refine wpList_append_bytes rfl (.tmp 39) (.tmp 40) 30 rfl w1.heap.size 5 Tryd.underlying30 infoU8 _ _ x.length x y rfl rfl HOWN3.out (HC.out.fr0 (HF1.out.trans' HF3.out)) (by omega) (by omega) ?_)
    intro v4 w4 hown4 hgr4
    have HB4 : Hid (BytesIs w4 v4 (x ++ y)) := Lib.hid (BytesIs.own (n := (x ++ y).length) (by rw [List.length_append]; exact hown4))
    have HF4 : Hid (Fr0 w w4) := Lib.hid (HF1.out.trans' (Fr.grown HF3.out hgr4 (fun q hq e => by have := HOWN3.out.lt q e; omega)))
    have hs4 := HF4.out.size
    clear hown4 hgr4
    obtain ⟨b4, n4, c4, hv4⟩ := HB4.out.slice
    subst hv4
    go_wp2_with (at_builtin; refine wpList_append_bytes rfl (.tmp 42) (.tmp 43) 30 rfl w4.heap.size 5 Tryd.underlying30 infoU8 _ _ 0 [] k rfl rfl (owns_empty w4 w4.heap.size 5 (Nat.le_refl _) w4.heap.size rfl) (HA.out.fr0 (HF4.out.alloc _)) (by omega) (by simp) ?_)
    intro v5 w5 hown5 hgr5
    have HOWN5 : Hid (w5.ownsRow w4.heap.size 5 1 v5 k.length (bvals k)) := Lib.hid (by simpa using hown5)
    have HF5 : Hid (Fr0 w4 w5) := Lib.hid (Fr.grown (Fr.alloc (Fr.refl _ _) _) hgr5 (fun q hq e => by simp [Value.ownBlock] at e; omega))
    have hs5 := HF5.out.size
    clear hown5 hgr5
    go_wp2_with (at_builtin; refine wpList_append_make_bytes rfl (.tmp 44) (.tmp 45) 30 3 rfl w4.heap.size 5 Tryd.underlying30 Tryd.underlying3 infoU8 _ k.length m k rfl rfl HOWN5.out (by omega) (by omega) ?_)
    intro v6 w6 hown6 hgr6
    have HB6 : Hid (BytesIs w6 v6 (k ++ List.replicate m 0)) := Lib.hid (BytesIs.own (n := (k ++ List.replicate m 0).length) (by rw [List.length_append, List.length_replicate]; exact hown6))
    have hf6 : Fr0 w4 w6 := Fr.grown HF5.out hgr6 (fun q hq e => by have := HOWN5.out.lt q e; omega)
    have HF6 : Hid (Fr0 w w6) := Lib.hid (HF4.out.trans' hf6)
    have HV6 : Hid (BytesIs w6 (.slice b4 n4 c4) (x ++ y)) := Lib.hid (HB4.out.fr0 hf6)
    have hs6 := HF6.out.size
    clear hown6 hgr6 hf6
    have hL1 := hmac_len k (x ++ y)
    obtain ⟨H1, hH1⟩ : ∃ H1, H1 = (bvals (hmac k (x ++ y))).toArray := ⟨_, rfl⟩
    have hE1 := eqH H1 _ hH1 hL1
    have hL2 := hmac_len k x
    obtain ⟨H2, hH2⟩ : ∃ H2, H2 = (bvals (hmac k x)).toArray := ⟨_, rfl⟩
    have hE2 := eqH H2 _ hH2 hL2
    have HH1 := Lib.hid hH1
    have HH2 := Lib.hid hH2
    clear hH1 hH2 hL1 hL2
    have of1 : ∀ (W : World) (v : Value) (ps : List (List UInt8)), Fr0 w W → PartsIs W v ps → ps.length ≤ 3 → ps.flatten = x ++ y → Calls Tryd.prog 20 #[.slice a0 k.length cap0, v] W fun e w' => e = .returned (.agg H1) ∧ Fr0 W w' := fun W v ps hF hP hl hfl => by
      have := macOf_any (.slice a0 k.length cap0) v k ps (by omega) (by omega) (by rw [hfl, List.length_append]; omega) W (HA.out.fr0 hF) hP (HK.out.fr hF (fun f => f)) (Nat.lt_of_lt_of_le hg hF.size)
      rw [hfl, ← HH1.out] at this
      exact this
    have of2 : ∀ (W : World) (v : Value) (ps : List (List UInt8)), Fr0 w W → PartsIs W v ps → ps.length ≤ 3 → ps.flatten = x → Calls Tryd.prog 20 #[.slice a0 k.length cap0, v] W fun e w' => e = .returned (.agg H2) ∧ Fr0 W w' := fun W v ps hF hP hl hfl => by
      have := macOf_any (.slice a0 k.length cap0) v k ps (by omega) (by omega) (by rw [hfl]; omega) W (HA.out.fr0 hF) hP (HK.out.fr hF (fun f => f)) (Nat.lt_of_lt_of_le hg hF.size)
      rw [hfl, ← HH2.out] at this
      exact this
    have of3 : ∀ (W : World) (v : Value) (ps : List (List UInt8)), Fr0 w W → BytesIs W v6 (k ++ List.replicate m 0) → PartsIs W v ps → ps.length ≤ 3 → ps.flatten = x ++ y → Calls Tryd.prog 20 #[v6, v] W fun e w' => e = .returned (.agg H1) ∧ Fr0 W w' := fun W v ps hF hB hP hl hfl => by
      have := macOf_any v6 v _ ps (by rw [List.length_append, List.length_replicate]; omega) (by omega) (by rw [hfl, List.length_append]; omega) W hB hP (HK.out.fr hF (fun f => f)) (Nat.lt_of_lt_of_le hg hF.size)
      rw [hfl, hmac_zeros k _ m hmk, ← HH1.out] at this
      exact this
    have OF1 := Lib.hid of1
    have OF2 := Lib.hid of2
    have OF3 := Lib.hid of3
    clear of1 of2 of3
    have hfl2 : [x, y].flatten = x ++ y := by simp
    have hfl1 : [x ++ y].flatten = x ++ y := by simp
    have HFL2 := Lib.hid hfl2
    have HFL1 := Lib.hid hfl1
    clear hfl1 hfl2
    go_wp2_with fail
    refine (OF1.out _ _ [x, y] (HF6.out.alloc _) (PartsIs.two w6 _ _ x y (HB.out.fr0 HF6.out) (HC.out.fr0 HF6.out) _ _ rfl) (by simp) HFL2.out).mono ?_
    rintro e w7 ⟨rfl, hF⟩
    have HF7 : Hid (Fr0 w6 w7) := Lib.hid (Fr.trans' ((Fr.refl _ _).alloc _) hF)
    clear hF
    go_wp2_with fail
    refine (OF1.out _ _ [x ++ y] (Fr.alloc (HF6.out.trans' HF7.out) _) (parts_one w7 _ (x ++ y) (HV6.out.fr0 HF7.out) _ _ rfl) (by simp) HFL1.out).mono ?_
    rintro e w8 ⟨rfl, hF⟩
    have HF8 : Hid (Fr0 w6 w8) := Lib.hid (Fr.trans' (HF7.out.alloc _) hF)
    clear hF HF7
    go_wp2_with fail
    refine (OF3.out _ _ [x ++ y] (Fr.alloc (HF6.out.trans' HF8.out) _) (HB6.out.fr0 (HF8.out.alloc _)) (parts_one w8 _ (x ++ y) (HV6.out.fr0 HF8.out) _ _ rfl) (by simp) HFL1.out).mono ?_
    rintro e w9 ⟨rfl, hF⟩
    have HF9 : Hid (Fr0 w6 w9) := Lib.hid (Fr.trans' (HF8.out.alloc _) hF)
    clear hF HF8
    go_wp2_with fail
    refine (OF1.out _ _ [x ++ y] (Fr.alloc (HF6.out.trans' HF9.out) _) (parts_one w9 _ (x ++ y) (HV6.out.fr0 HF9.out) _ _ rfl) (by simp) HFL1.out).mono ?_
    rintro e w10 ⟨rfl, hF⟩
    have HF10 : Hid (Fr0 w w10) := Lib.hid (HF6.out.trans' (Fr.trans' (HF9.out.alloc _) hF))
    clear hF HF9
    go_wp2_with fail
    refine (OF2.out _ _ [[], x, []] (HF10.out.alloc _) (PartsIs.nilled w10 _ x (HB.out.fr0 HF10.out) _ _ rfl) (by simp) (by simp)).mono ?_
    rintro e w11 ⟨rfl, hF⟩
    have HF11 : Hid (Fr0 w w11) := Lib.hid (Fr.trans' (HF10.out.alloc _) hF)
    clear hF HF10
    go_wp2_with fail
    refine (OF2.out _ _ [x] (HF11.out.alloc _) (parts_one w11 _ x (HB.out.fr0 HF11.out) _ _ rfl) (by simp) (by simp)).mono ?_
    rintro e w12 ⟨rfl, hF⟩
    have HF12 : Hid (Fr0 w w12) := Lib.hid (Fr.trans' (HF11.out.alloc _) hF)
    clear hF HF11
    go_wp2
    go_ret
    exact ⟨rfl, HF12.out⟩
end Go.Proofs.YtmmcnoapkdhgpaaDoor.Mac
