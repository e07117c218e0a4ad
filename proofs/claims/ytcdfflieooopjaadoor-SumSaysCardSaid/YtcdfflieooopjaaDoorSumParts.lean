/-
  SumParts: however bytes are parted, their sum is the same.
-/
import Derived.Test.YtcdfflieooopjaaDoorSumWalk
import Derived.Test.YtcdfflieooopjaaDoorHeld
import Derived.Test.YtcdfflieooopjaaDoorArr
import Derived.Deep.AppendLies
namespace Go.Proofs.YtcdfflieooopjaaDoor.Sha
open Go.RowKit Base

theorem info30 : (Tryd.prog.info? 30).map (fun i => (i.zero, i.size, i.bytes)) = some (some (.slice none 0 0), 1, 24) := by kernel_rfl
theorem bytes_snoc {w : World} {vs : List Value} {ps : List (List UInt8)} {v : Value} {l : List UInt8} (h : vs.length = ps.length) (hall : ∀ j, j < vs.length → BytesIs w (vs.getD j undef) (ps.getD j [])) (hv : BytesIs w v l) :
    ∀ j, j < (vs ++ [v]).length → BytesIs w ((vs ++ [v]).getD j undef) ((ps ++ [l]).getD j []) := by
  intro j hj
  simp only [List.getD_eq_getElem?_getD] at hall ⊢
  by_cases h1 : j < vs.length
  · rw [List.getElem?_append_left h1, List.getElem?_append_left (by omega)]; exact hall j h1
  · have : j = vs.length := by simp at hj; omega
    subst this
    rw [List.getElem?_append_right (Nat.le_refl _), List.getElem?_append_right (by omega)]
    simp only [Nat.sub_self, h]
    exact hv
theorem flat_snoc {ps : List (List UInt8)} {b : List UInt8} {f n : Nat} (h : ps.flatten = b.take f) (h1 : f ≤ n) (h2 : n ≤ b.length) : (ps ++ [(b.drop f).take (n - f)]).flatten = b.take n := by
  rw [List.flatten_append, h]
  have e : n = f + (n - f) := by omega
  conv => rhs; rw [e, List.take_add]
  simp
theorem parts_own {w : World} {base : Nat} {e : TypeId} {v : Value} {vs : List Value} {ps : List (List UInt8)} (h : w.ownsRow base e 1 v vs.length vs) (hl : vs.length = ps.length) (hle : ps.length ≤ 1152921504606846976) (hall : ∀ j, j < vs.length → BytesIs w (vs.getD j undef) (ps.getD j [])) : PartsIs w v ps := by
  rcases h.2 with ⟨rfl, hn⟩ | ⟨g, cap, cur, rfl, hb, hg, hnc, hcm, hcs, ht⟩
  · obtain rfl : ps = [] := List.eq_nil_of_length_eq_zero (by omega)
    exact ⟨none, 0, 0, 0, rfl, by simp, by simp, fun h => absurd h (by simp), fun i hi => absurd hi (by simp)⟩
  · refine ⟨some ⟨g, 0, none⟩, cap, g, 0, by rw [hl], by omega, hle, fun _ => rfl, fun i hi => ⟨vs.getD i undef, ?_, hall i (by omega)⟩⟩
    rw [Nat.zero_add, h.cellAt i (by omega)]
    simp [show i < vs.length from by omega]
set_option maxHeartbeats 1000000 in
set_option maxRecDepth 100000 in
theorem sumParts_walk (v0 v1 : Value) (b : List UInt8) (cuts : List Int) (hb : b.length ≤ 9223372036854775807) (hcl : cuts.length ≤ 9223372036854775807) (w : World) (hB : BytesIs w v0 b) (hC : IntsIs w v1 cuts) (hr : ∀ n ∈ cuts, -9223372036854775808 ≤ n ∧ n ≤ 9223372036854775807)
    (hK : Rounds w) (hg : 1 < w.heap.size) :
    Calls Tryd.prog 5 #[v0, v1] w fun e w' => e = .returned (.bool true) ∧ Fr0 w w' := by
  have HK := Lib.hid hK
  have HB := Lib.hid hB
  have HC := Lib.hid hC
  have HR := Lib.hid hr
  obtain ⟨a0, cap0, pb0, po0, rfl, hcap0, ha0, hc0⟩ := hB
  obtain ⟨a1, cap1, pb1, po1, rfl, hcap1, ha1, hc1⟩ := hC
  have HA1 := Lib.hid ha1
  have HC1 := Lib.hid hc1
  clear hK hr ha0 hc0 ha1 hc1
  by_cases h1 : 1500 < b.length
  · go_enter Tryd.func5, Tryd.ntmps5
    go_wp2_with fail
    refine (awake_any _ HK.out hg).mono ?_
    rintro e w1 ⟨rfl, hF1⟩
    have HF1 := Lib.hid hF1
    clear hF1
    go_wp2
    go_ret
    exact ⟨rfl, HF1.out⟩
  · by_cases h2 : 20 < cuts.length
    · go_enter Tryd.func5, Tryd.ntmps5
      go_wp2_with fail
      refine (awake_any _ HK.out hg).mono ?_
      rintro e w1 ⟨rfl, hF1⟩
      have HF1 := Lib.hid hF1
      clear hF1
      go_wp2
      go_ret
      exact ⟨rfl, HF1.out⟩
    · go_enter Tryd.func5, Tryd.ntmps5
      go_wp2_with fail
      refine (awake_any _ HK.out hg).mono ?_
      rintro e w1 ⟨rfl, hF1⟩
      have HF1 := Lib.hid hF1
      clear hF1
      go_wp2_with fail
      go_loopw [5, 6, 7] (fun v f i wr => ∃ (k fr : Nat) (vs : List Value) (ps : List (List UInt8)), k ≤ cuts.length ∧ fr ≤ b.length ∧ i = .int .i64 k ∧ f = .int .i64 fr ∧ vs.length ≤ k ∧ wr.ownsRow w.heap.size 30 1 v vs.length vs ∧
          vs.length = ps.length ∧ (∀ j, j < vs.length → BytesIs w (vs.getD j undef) (ps.getD j [])) ∧ ps.flatten = b.take fr ∧ Fr0 w wr) (fun _ _ i _ => cuts.length - (intOf i).toNat)
      case atStart => exact ⟨0, 0, [], [], by omega, by omega, rfl, rfl, by simp, World.ownsRow_nil _ _ _ _, rfl, fun j hj => by simp at hj, by simp, HF1.out⟩
      case round =>
        clear HF1
        obtain ⟨k, fr, vs, ps, hk, hfr, rfl, rfl, hvk, hown, hvp, hbs, hflat, hF⟩ := hrel
        have HOWN := Lib.hid hown
        have HVP := Lib.hid hvp
        have HBS := Lib.hid hbs
        have HFLAT := Lib.hid hflat
        have HF := Lib.hid hF
        clear hown hvp hbs hflat hF
        by_cases hlt : k < cuts.length
        · obtain rfl := HA1.out (by omega)
          have hc := HC1.out k hlt
          have hbd := HR.out (cuts.getD k 0) (by rw [List.getD_eq_getElem?_getD, List.getElem?_eq_getElem hlt]; exact List.getElem_mem _)
          generalize cuts.getD k 0 = c at hc hbd
          have hcc : wr.cell? ⟨pb1, po1 + k, none⟩ = some (.int .i64 c) := (HF.out.cell (p := ⟨pb1, po1 + k, none⟩) (World.block_lt_of_cell? w _ hc) (fun f => f)).trans hc
          have HCW := Lib.hid hc
          clear hc
          by_cases hin : (fr : Int) ≤ c ∧ c ≤ b.length
          · obtain ⟨hin1, hin2⟩ := hin
            obtain ⟨n, rfl⟩ := Int.eq_ofNat_of_zero_le (show 0 ≤ c by omega)
            obtain ⟨sa, sc, hB1, hsl⟩ := HB.out.cut (P := Tryd.prog) 30 5 Tryd.underlying30 (by kernel_rfl) fr n (by omega) (by omega)
            have HB1 := Lib.hid hB1
            clear hB1
            obtain ⟨e30, hi, hz0, hz1, hz2⟩ := info_parts info30
            have hsz := HF.out.size
            go_wp2_with (at_builtin; refine wpList_append_own _ rfl _ _ 37 rfl w.heap.size 30 e30 (.slice none 0 0) 1 24 Tryd.underlying37 hi hz0 hz1 hz2 rfl (by decide) _ _ _ rfl (HOWN.out.alloc _) ⟨wr.heap.size, 0, none⟩ 1 1 [.slice sa (n - fr) sc] rfl rfl (cell_one_new _ _ _) (by intro u hu; simp at hu; subst hu; rfl) (by unfold maxLen; omega) (by omega) (by simp; omega) ?_)
            intro v2 w2 hown2 hgr2 _
            have HOWN2 : Hid (w2.ownsRow w.heap.size 30 1 v2 (vs ++ [Value.slice sa (n - fr) sc]).length (vs ++ [Value.slice sa (n - fr) sc])) := Lib.hid (by rw [List.length_append]; exact hown2)
            have HF2 : Hid (Fr0 w w2) := Lib.hid (Fr.grown (Fr.alloc HF.out _) hgr2 (fun q hq e => by have := HOWN.out.lt q e; omega))
            have hcc2 : w2.cell? ⟨pb1, po1 + k, none⟩ = some (.int .i64 (n : Int)) := (HF2.out.cell (p := ⟨pb1, po1 + k, none⟩) (World.block_lt_of_cell? w _ HCW.out) (fun f => f)).trans HCW.out
            clear hown2 hgr2 hi hz0 hz1 hz2
            go_wp2
            go_roundw
            case rel =>
              exact ⟨k + 1, n, vs ++ [.slice sa (n - fr) sc], ps ++ [(b.drop fr).take (n - fr)], by omega, by omega, by go_num, rfl, by simp; omega, HOWN2.out, by simp [HVP.out], bytes_snoc HVP.out HBS.out HB1.out, flat_snoc HFLAT.out (by omega) (by omega), HF2.out⟩
            case measure => simp only [intOf]; omega
          · by_cases hlo : (fr : Int) ≤ c
            · have hhi : ¬ c ≤ b.length := fun h => hin ⟨hlo, h⟩
              clear hin
              go_wp2
              go_roundw
              case rel => exact ⟨k + 1, fr, vs, ps, by omega, hfr, by go_num, rfl, by omega, HOWN.out, HVP.out, HBS.out, HFLAT.out, HF.out⟩
              case measure => simp only [intOf]; omega
            · clear hin
              go_wp2
              go_roundw
              case rel => exact ⟨k + 1, fr, vs, ps, by omega, hfr, by go_num, rfl, by omega, HOWN.out, HVP.out, HBS.out, HFLAT.out, HF.out⟩
              case measure => simp only [intOf]; omega
        · obtain ⟨sa, sc, hB1, hsl⟩ := HB.out.cutLo (P := Tryd.prog) 30 5 Tryd.underlying30 (by kernel_rfl) fr hfr
          have HB1 := Lib.hid hB1
          clear hB1
          obtain ⟨e30, hi, hz0, hz1, hz2⟩ := info_parts info30
          have hsz := HF.out.size
          go_wp2_with (at_builtin; refine wpList_append_own _ rfl _ _ 37 rfl w.heap.size 30 e30 (.slice none 0 0) 1 24 Tryd.underlying37 hi hz0 hz1 hz2 rfl (by decide) _ _ _ rfl (HOWN.out.alloc _) ⟨wr.heap.size, 0, none⟩ 1 1 [.slice sa (b.length - fr) sc] rfl rfl (cell_one_new _ _ _) (by intro u hu; simp at hu; subst hu; rfl) (by unfold maxLen; omega) (by omega) (by simp; omega) ?_)
          intro v2 w2 hown2 hgr2 _
          have HF2 : Hid (Fr0 w w2) := Lib.hid (Fr.grown (Fr.alloc HF.out _) hgr2 (fun q hq e => by have := HOWN.out.lt q e; omega))
          have hP : PartsIs w2 v2 (ps ++ [b.drop fr]) := parts_own (by rw [List.length_append]; exact hown2) (by simp [HVP.out]) (by rw [List.length_append, ← HVP.out]; simp; omega) (fun j hj => (bytes_snoc HVP.out HBS.out HB1.out j hj).fr0 HF2.out)
          have HP := Lib.hid hP
          have hfl : (ps ++ [b.drop fr]).flatten = b := by rw [List.flatten_append, HFLAT.out]; simp
          have HFL := Lib.hid hfl
          clear hown2 hgr2 hi hz0 hz1 hz2 hP hfl
          go_wp2_with fail
          refine (of_any _ _ _ HP.out (HK.out.fr HF2.out (fun f => f)) (Nat.lt_of_lt_of_le hg HF2.out.size) (by rw [HFL.out]; omega)).mono ?_
          rintro e w3 ⟨rfl, hF3⟩
          rw [HFL.out]
          have HF3 : Hid (Fr0 w w3) := Lib.hid (HF2.out.trans' hF3)
          have hs3 := HF3.out.size
          clear hF3
          go_wp2_with fail
          refine (of_any _ [b] _ (parts_one w3 _ b (HB.out.fr0 HF3.out) _ _ rfl) (HK.out.fr (HF3.out.alloc _) (fun f => f)) (by simp; try omega) (by simp; try omega)).mono ?_
          rintro e w4 ⟨rfl, hF4⟩
          have HF4 : Hid (Fr0 w w4) := Lib.hid (Fr.trans' (HF3.out.alloc _) hF4)
          clear hF4
          rw [show [b].flatten = b from by simp]
          have HEQ : ∀ wx : World, (Op.equalIn 10000 24 (.agg (digArr b)) (.agg (digArr b))).run Tryd.prog wx = .ok true wx := fun wx => by
            have := eq_barr (P := Tryd.prog) 9998 24 5 32 Tryd.underlying24 (by kernel_rfl) Tryd.underlying5 (digest b) (digest b) (digest_length _) (digest_length _) wx
            simp only [decide_true] at this
            exact this
          generalize digArr b = D1 at *
          go_wp2
          go_ret
          exact ⟨rfl, HF4.out⟩
end Go.Proofs.YtcdfflieooopjaaDoor.Sha
