/-
  MacSays: any key, any bytes: as the document says: the walk.
-/
import Derived.Test.YtmmcnoapkdhgpaaDoorMacSaysR
import Derived.Deep.DeepCutAuto
namespace Go.Proofs.YtmmcnoapkdhgpaaDoor.Mac
open Go.RowKit Base Sha

theorem str_beqL (la lb : List UInt8) : (la == lb) = decide (la = lb) := by
  rw [Bool.eq_iff_iff, beq_iff_eq, decide_eq_true_eq]
set_option maxHeartbeats 2000000 in
set_option maxRecDepth 100000 in
theorem macSays_walk (v0 v1 v2 : Value) (k x y : List UInt8) (hk : k.length ≤ 9223372036854775807) (hx : x.length ≤ 9223372036854775807) (hy : y.length ≤ 9223372036854775807) (ls : List UInt8) (hls : ls.length = 32) (w : World) (hA : BytesIs w v0 k) (hB : BytesIs w v1 x) (hC : BytesIs w v2 y)
    (hK : Rounds w) (hg : 0 < w.heap.size) :
    Calls Tryd.prog 8 #[v0, v1, v2, .agg (bvals ls).toArray] w fun e w' => e = .returned (.bool true) ∧ Fr0 w w' := by
  have HA := Lib.hid hA
  have HB := Lib.hid hB
  have HC := Lib.hid hC
  have HK := Lib.hid hK
  obtain ⟨a0, cap0, _, _, rfl, _⟩ := hA
  obtain ⟨a1, cap1, _, _, rfl, _⟩ := hB
  obtain ⟨a2, cap2, _, _, rfl, _⟩ := hC
  obtain ⟨SA, hSA⟩ : ∃ SA, SA = (bvals ls).toArray := ⟨_, rfl⟩
  rw [← hSA]
  have HSA := Lib.hid hSA
  have HLS := Lib.hid hls
  clear hK hSA hls
  have HK1 : Hid (Rounds (w.alloc (.cells SA 23))) := Lib.hid (HK.out.fr (S := fun _ => False) ((Fr.refl _ _).alloc _) (fun f => f))
  by_cases hbad : 300 < k.length ∨ 1000 < x.length ∨ 1000 < y.length
  · go_enter Tryd.func8, Tryd.ntmps8
    go_wp2_with fail
    refine (awake_any _ HK1.out (by simp; try omega)).mono ?_
    rintro e w1 ⟨rfl, hF1⟩
    have HF1 : Hid (Fr0 w w1) := Lib.hid (Fr.trans' ((Fr.refl _ _).alloc _) hF1)
    clear hF1
    by_cases h1 : 300 < k.length
    · clear hbad
      go_wp2
      go_ret
      exact ⟨rfl, HF1.out⟩
    · by_cases h2 : 1000 < x.length
      · clear hbad
        go_wp2
        go_ret
        exact ⟨rfl, HF1.out⟩
      · have h3 : 1000 < y.length := by omega
        clear hbad
        go_wp2
        go_ret
        exact ⟨rfl, HF1.out⟩
  · have h1 : ¬ 300 < k.length := by omega
    have h2 : ¬ 1000 < x.length := by omega
    have h3 : ¬ 1000 < y.length := by omega
    clear hbad
    have hz2 := (zero_of_info (P := Tryd.prog) zero24).1
    have hz3 := (zero_of_info (P := Tryd.prog) zero23j).1
    generalize hZ : (Array.replicate 32 (Value.int .u8 0)) = Z at hz2 hz3
    have HZ : Hid (Z.size = 32) := Lib.hid (by rw [← hZ]; simp)
    clear hZ
    go_enter Tryd.func8, Tryd.ntmps8
    go_wp2_with fail
    refine (awake_any _ HK1.out (by simp; try omega)).mono ?_
    rintro e w1 ⟨rfl, hF1⟩
    have HF1 : Hid (Fr0 w w1) := Lib.hid (Fr.trans' ((Fr.refl _ _).alloc _) hF1)
    have HS1 : Hid (w1.heap[w.heap.size]? = some (.cells SA 23 (0, 0))) := Lib.hid (hF1.heap (heap_alloc_new w _) (fun f => f))
    have hs1 := HF1.out.size
    clear hF1
    have hfl2 : [x, y].flatten = x ++ y := by simp
    have HFL := Lib.hid hfl2
    clear hfl2
    obtain ⟨H, hH⟩ : ∃ H, H = hmac k (x ++ y) := ⟨_, rfl⟩
    have hHl : H.length = 32 := by rw [hH]; exact hmac_len _ _
    obtain ⟨X, hX⟩ : ∃ X, X = (bvals H).toArray := ⟨_, rfl⟩
    have HXI : Hid ((Tryd.prog.info? 24).map (·.size) = some X.size) := Lib.hid (by rw [hX, show (bvals H).toArray.size = 32 from by simp [bvals_length, hHl]]; exact info24)
    have HXI3 : Hid ((Tryd.prog.info? 23).map (·.size) = some X.size) := Lib.hid (by rw [hX, show (bvals H).toArray.size = 32 from by simp [bvals_length, hHl]]; kernel_rfl)
    have HSI3 : Hid ((Tryd.prog.info? 23).map (·.size) = some SA.size) := Lib.hid (by rw [HSA.out, show (bvals ls).toArray.size = 32 from by simp [bvals_length, HLS.out]]; kernel_rfl)
    have HXS : Hid (Z.size = X.size) := Lib.hid (by rw [HZ.out, hX]; simp [bvals_length, hHl])
    have HX1 : Hid (X.all (·.oneCell') = true) := Lib.hid (by rw [hX]; exact barr_one _)
    have HHE := Lib.hid hH
    have HHL := Lib.hid hHl
    have HXE := Lib.hid hX
    clear hH hHl hX
    go_wp2_with fail
    have hof := macOf_any (.slice a0 k.length cap0) (.slice (some ⟨w1.heap.size, 0, none⟩) 2 2) k [x, y] (by omega) (by simp) (by rw [HFL.out, List.length_append]; omega) (w1.alloc (.cells #[.slice a1 x.length cap1, .slice a2 y.length cap2] 30)) (HA.out.fr0 (HF1.out.alloc _)) (PartsIs.two w1 _ _ x y (HB.out.fr0 HF1.out) (HC.out.fr0 HF1.out) _ _ rfl) (HK.out.fr (HF1.out.alloc _) (fun f => f)) (by simp; try omega)
    rw [HFL.out, ← HHE.out, ← HXE.out] at hof
    refine hof.mono ?_
    rintro e w2 ⟨rfl, hF2⟩
    have HF2 : Hid (Fr0 w1 w2) := Lib.hid (Fr.trans' ((Fr.refl _ _).alloc _) hF2)
    have hs2 := HF2.out.size
    clear hF2 hof
    go_upto_region 6 with (refine wpList_store_new rfl 24 _ _ rfl w2.heap.size rfl X rfl rfl 24 _ HXI.out HXS.out HX1.out ?_)
    go_name_world w3 hw3
    have HG9 : Hid (w3.heap[w2.heap.size]? = some (.cells X 24 (0, 0))) := Lib.hid (by rw [← hw3]; exact heap_alloc_new w2 _)
    have HF3 : Hid (Fr0 w1 w3) := Lib.hid (by rw [← hw3]; exact HF2.out.alloc _)
    have HF3w : Hid (Fr0 w w3) := Lib.hid (HF1.out.trans' HF3.out)
    have hs3 := HF3w.out.size
    clear hw3
    go_wp2_with (at_builtin; refine wpList_append_bytes rfl (.tmp 32) (.tmp 33) 30 rfl w3.heap.size 5 Tryd.underlying30 infoU8 _ _ 0 [] x rfl rfl (owns_empty w3 w3.heap.size 5 (Nat.le_refl _) w3.heap.size rfl) (HB.out.fr0 (HF3w.out.alloc _)) (by omega) (by simp) ?_)
    intro v4 w4 hown4 hgr4
    have HOWN4 : Hid (w4.ownsRow w3.heap.size 5 1 v4 x.length (bvals x)) := Lib.hid (by simpa using hown4)
    have HF4 : Hid (Fr0 w3 w4) := Lib.hid (Fr.grown (Fr.alloc (Fr.refl _ _) _) hgr4 (fun q hq e => by simp [Value.ownBlock] at e; omega))
    have hs4 := HF4.out.size
    clear hown4 hgr4
    go_wp2_with (at_builtin; refine wpList_append_bytes rfl (.tmp 34) (.tmp 35) 30 rfl w3.heap.size 5 Tryd.underlying30 infoU8 _ _ x.length x y rfl rfl HOWN4.out (HC.out.fr0 (HF3w.out.trans' HF4.out)) (by omega) (by omega) ?_)
    intro v5 w5 hown5 hgr5
    have HB5 : Hid (BytesIs w5 v5 (x ++ y)) := Lib.hid (BytesIs.own (n := (x ++ y).length) (by rw [List.length_append]; exact hown5))
    have HF5 : Hid (Fr0 w3 w5) := Lib.hid (Fr.grown HF4.out hgr5 (fun q hq e => by have := HOWN4.out.lt q e; omega))
    clear hown5 hgr5
    go_wp2_with fail
    have hrm := refMac_any (.slice a0 k.length cap0) v5 k (x ++ y) (by omega) (by rw [List.length_append]; omega) w5 (HA.out.fr0 (HF3w.out.trans' HF5.out)) HB5.out
    rw [← HHE.out, ← HXE.out] at hrm
    refine hrm.mono ?_
    rintro e w6 ⟨rfl, hF6⟩
    have HF6 : Hid (Fr0 w3 w6) := Lib.hid (HF5.out.trans' hF6)
    clear hF6 hrm
    go_upto_region 7 with (refine wpList_store_new rfl 23 _ _ rfl w6.heap.size rfl X rfl rfl 23 _ HXI3.out HXS.out HX1.out ?_)
    go_name_world w7 hw7
    have HG10 : Hid (w7.heap[w6.heap.size]? = some (.cells X 23 (0, 0))) := Lib.hid (by rw [← hw7]; exact heap_alloc_new w6 _)
    have HF7 : Hid (Fr0 w3 w7) := Lib.hid (by rw [← hw7]; exact HF6.out.alloc _)
    have HF7w : Hid (Fr0 w w7) := Lib.hid (HF3w.out.trans' HF7.out)
    clear hw7
    have hd1 : decide (ls = H) = decide (H = ls) := by rw [decide_eq_decide]; exact eq_comm
    have eXX : ∀ wx : World, (Op.equalIn 10000 23 (.agg X) (.agg X)).run Tryd.prog wx = .ok true wx := fun wx => by
      rw [HXE.out]
      have := eq_barr (P := Tryd.prog) 9998 23 5 32 Tryd.underlying23 (by kernel_rfl) Tryd.underlying5 H H HHL.out HHL.out wx
      simp only [decide_true] at this
      exact this
    have eSX : ∀ wx : World, (Op.equalIn 10000 23 (.agg SA) (.agg X)).run Tryd.prog wx = .ok (decide (H = ls)) wx := fun wx => by
      rw [HXE.out, HSA.out, ← hd1]
      exact eq_barr (P := Tryd.prog) 9998 23 5 32 Tryd.underlying23 (by kernel_rfl) Tryd.underlying5 ls H HLS.out HHL.out wx
    have chk : ∀ (s : List UInt8) (S : Array Value), S = (bvals s).toArray → s.length = 32 → ∀ (W : World) (v u : Value), Fr0 w W → BytesIs W v k → PartsIs W u [x, y] → Calls Tryd.prog 21 #[v, .agg S, u] W fun e w' => e = .returned (.bool (decide (H = s))) ∧ Fr0 W w' := fun s S hS hs W v u hF hB hP => by
      have := check_any v u k s [x, y] (by omega) hs (by simp) (by rw [HFL.out, List.length_append]; omega) W hB hP (HK.out.fr hF (fun f => f)) (Nat.lt_of_lt_of_le hg hF.size)
      rw [HFL.out, ← HHE.out, ← hS] at this
      exact this
    have c1 := chk H X HXE.out HHL.out
    rw [show decide (H = H) = true from by simp] at c1
    refine ms_region (w := w) (k := k) (x := x) (y := y) (X := X) (SA := SA) (d1 := decide (H = ls)) (d2 := decide (x = y)) (g7 := w.heap.size) (g9 := w2.heap.size) (g10 := w6.heap.size)
      ⟨rfl, rfl, rfl, rfl, rfl, rfl, rfl, HF7w.out, HA.out.fr0 HF7w.out, HB.out.fr0 HF7w.out, HC.out.fr0 HF7w.out, (HF3.out.trans' HF7.out).heap HS1.out (fun f => f), HF7.out.heap HG9.out (fun f => f), HG10.out, HXI.out, HXI3.out, HSI3.out, eXX, eSX, str_beqL x y, c1, chk ls SA HSA.out HLS.out, fun W v u h1 h2 => same_any v u x y hx hy W h1 h2⟩ ?_
    intro a' w8 hF8 hdf h0
    have hF : Fr0 w w8 := HF7w.out.trans' hF8
    go_wp2
    exact bodyPost_ret (results_tmp rfl a'.tmps Tryd.prog w8) hdf ⟨congrArg Ending.returned h0, hF⟩
end Go.Proofs.YtmmcnoapkdhgpaaDoor.Mac
