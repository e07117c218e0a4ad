/-
  FrameTells: a frame some of whose bytes within four side by side, behind its length, are others is told as spoilt: the walk.
-/
import Derived.Test.YtggdpmfghbnhcaaDoorFrameAwake
import Derived.Test.YtggdpmfghbnhcaaDoorLaw
import Derived.Deep.DeepCutAuto
namespace Go.Proofs.YtggdpmfghbnhcaaDoor.Frame
open Go.RowKit Base Pack Crc

theorem cut_lo_at {P : Program} (t e : TypeId) (ht : P.underlying t = some (.slice e)) (hs : (P.info? e).map (·.size) = some 1) (g n cap lo : Nat) (h1 : lo ≤ n) (h2 : n ≤ cap) (h3 : lo < cap) (wx : World) :
    (Instr.sliceAt t (.slice (some ⟨g, 0, none⟩) n cap) (some (.int .i64 (lo : Int))) none none).run P wx = .ok (.slice (some ⟨g, lo, none⟩) (n - lo) (cap - lo)) wx := by
  obtain ⟨i, hi', hz⟩ : ∃ i, P.info? e = some i ∧ i.size = 1 := by
    cases hq : P.info? e with
    | none => simp [hq] at hs
    | some i => exact ⟨i, rfl, by simpa [hq] using hs⟩
  have hE : P.elem t = e := by simp [Program.elem, ht]
  rw [run_sliceAt_slice wx t _ _ _ _ (by rw [hE]; exact ht), run_slice_l wx t (some ⟨g, 0, none⟩) n cap (by rw [hE]; exact ht) .i64 (lo : Int) (by omega) (by omega), hE]
  simp [sizeOf, typeInfo, hi', hz, sliced, Sem.run_bind, Addr.add, show ¬ cap = lo from by omega]
  exact fun h => h.symm
theorem over_splice (b t : List UInt8) (cap m : Nat) (cur : Array Value) (hc : cur.size = cap) (hle : b.length ≤ cap) (hx : cur.toList.take b.length = bvals b) (h4 : m + 4 ≤ b.length) (ht : t.length = 4) : (splice cur.toList m (bvals t)).take b.length = bvals (over4 b m t) ∧ (splice cur.toList m (bvals t)).length = cap := by
  have hcl : cur.toList.length = cap := by rw [Array.length_toList]; exact hc
  refine ⟨?_, by simp [splice, bvals_length, ht, hcl]; omega⟩
  apply List.ext_getElem?
  intro i
  have hi := fun (h : i < b.length) => congrArg (fun l : List Value => l[i]?) hx
  simp only [List.getElem?_take] at hi
  rw [List.getElem?_take]
  by_cases h : i < b.length
  · have hi := hi h
    rw [if_pos h] at hi
    rw [if_pos h, splice, ← List.append_assoc, splice_get _ _ _ _ (by rw [bvals_length, hcl]; omega), bvals_length, ht, hi]
    by_cases hm : m ≤ i ∧ i < m + 4
    · rw [if_pos hm]
      simp only [bvals, over4, List.map_append, List.getElem?_append, List.length_map, List.length_take, List.length_append, ht]
      rw [if_pos (by omega), if_neg (by omega), show min m b.length = m from by omega]
    · rw [if_neg hm]
      simp only [bvals, over4, List.map_append, List.getElem?_append, List.length_map, List.length_take, List.length_append, ht]
      by_cases hlt : i < m
      · rw [if_pos (by omega), if_pos (by omega)]; simp [hlt]
      · rw [if_neg (by omega)]; simp; congr 1; congr 1; omega
  · rw [if_neg h, List.getElem?_eq_none]
    simp [bvals, over4, ht]; omega
set_option maxHeartbeats 4000000 in
set_option maxRecDepth 100000 in
theorem frameTells_walk (v0 v3 : Value) (p q : List UInt8) (n : Int) (t : List UInt8) (hp : p.length ≤ 9223372036854775807) (hn : -9223372036854775808 ≤ n ∧ n ≤ 9223372036854775807) (ht : t.length = 4) (hq : q.length ≤ 9223372036854775807) (w : World) (hA : BytesIs w v0 p) (hB : BytesIs w v3 q) (hR : Rests w) :
    Calls Tryd.prog 7 #[v0, .int .i64 n, .agg (bvals t).toArray, v3] w fun e w' => e = .returned (.bool true) ∧ Fr0 w w' := by
  have HA := Lib.hid hA
  have HB := Lib.hid hB
  have HR := Lib.hid hR
  have HR1 : Hid (Rests (w.alloc (.cells (bvals t).toArray 44))) := Lib.hid (hR.fr (S := fun _ => False) ((Fr.refl _ _).alloc _) (fun f => f))
  obtain ⟨a0, cap0, rfl⟩ := hA.form
  obtain ⟨a3, cap3, rfl⟩ := hB.form
  have HT := Lib.hid ht
  obtain ⟨T, hT⟩ : ∃ T, T = (bvals t).toArray := ⟨_, rfl⟩
  rw [← hT]
  rw [← hT] at HR1
  have HTE := Lib.hid hT
  clear hR ht hT hA hB
  go_enter Tryd.func7, Tryd.ntmps7
  go_wp2_with fail
  refine (awake_any _ HR1.out).mono ?_
  rintro e w1 ⟨rfl, hF1⟩
  have HF1 : Hid (Fr0 w w1) := Lib.hid (Fr.trans' ((Fr.refl _ _).alloc _) hF1)
  have HT1 : Hid (w1.heap[w.heap.size]? = some (.cells T 44 (0, 0))) := Lib.hid (hF1.heap (heap_alloc_new w _) (fun f => f))
  clear hF1
  have hput := put_any _ p hp w1 (HA.out.fr0 HF1.out) (HR.out.fr HF1.out (fun f => f))
  go_wp2_with fail
  refine hput.mono ?_
  clear hput
  rintro e w2 ⟨v4, rfl, hX2, hF2⟩
  have HF2 : Hid (Fr0 w w2) := Lib.hid (HF1.out.trans' hF2)
  have HT2 : Hid (w2.heap[w.heap.size]? = some (.cells T 44 (0, 0))) := Lib.hid (hF2.heap HT1.out (fun f => f))
  have hput := put_any _ q hq w2 (HB.out.fr0 HF2.out) (HR.out.fr HF2.out (fun f => f))
  obtain ⟨a4, c4, rfl⟩ := hX2.form
  have HX2 := Lib.hid hX2
  clear hX2 hF2 HT1 HF1
  go_wp2_with fail
  refine hput.mono ?_
  clear hput
  rintro e w3 ⟨v5, rfl, hY3, hF3⟩
  have HF3 : Hid (Fr0 w w3) := Lib.hid (HF2.out.trans' hF3)
  have HT3 : Hid (w3.heap[w.heap.size]? = some (.cells T 44 (0, 0))) := Lib.hid (hF3.heap HT2.out (fun f => f))
  have HX3 := Lib.hid (HX2.out.fr0 hF3)
  obtain ⟨a5, c5, rfl⟩ := hY3.form
  have HY3 := Lib.hid hY3
  clear hY3 hF3 HT2 HF2 HX2
  by_cases h1 : 512 < p.length
  · rw [show putErr p = 9 by unfold putErr; rw [if_pos h1]]
    go_wp2
    go_ret
    exact ⟨rfl, HF3.out⟩
  · rw [show putErr p = 0 by unfold putErr; rw [if_neg h1]]
    rw [show putOut p = frameOf p by unfold putOut; rw [if_neg h1]] at HX3
    rw [show putOut p = frameOf p by unfold putOut; rw [if_neg h1]]
    by_cases h2 : 512 < q.length
    · rw [show putErr q = 9 by unfold putErr; rw [if_pos h2]]
      go_wp2
      go_ret
      exact ⟨rfl, HF3.out⟩
    · rw [show putErr q = 0 by unfold putErr; rw [if_neg h2]]
      rw [show putOut q = frameOf q by unfold putOut; rw [if_neg h2]] at HY3
      rw [show putOut q = frameOf q by unfold putOut; rw [if_neg h2]]
      have HXL := Lib.hid (frameOf_length p)
      have HYL := Lib.hid (frameOf_length q)
      have hxl : (frameOf p).length ≤ 518 := by have := HXL.out; omega
      have hxl6 : 6 ≤ (frameOf p).length := by have := HXL.out; omega
      have hyl : (frameOf q).length ≤ 518 := by have := HYL.out; omega
      by_cases h3 : n < 2
      · go_wp2
        go_ret
        exact ⟨rfl, HF3.out⟩
      · have hw : IntKind.i64.wrap (((frameOf p).length : Int) - 8) = ((frameOf p).length : Int) - 8 := IntWalk.i64_in _ (by omega)
        by_cases h4 : ((frameOf p).length : Int) - 8 < n
        · go_wp2
          go_ret
          exact ⟨rfl, HF3.out⟩
        · obtain ⟨m, rfl⟩ := Int.eq_ofNat_of_zero_le (show 0 ≤ n by omega)
          have hm2 : 2 ≤ m := by omega
          have hm8 : m + 8 ≤ (frameOf p).length := by omega
          have hcut : cut (over4 (frameOf p) m t ++ frameOf q) = ⟨[if over4 (frameOf p) m t = frameOf p then ⟨p, 0⟩ else ⟨[], 4⟩, ⟨q, 0⟩], [], false⟩ := by
            have h1 := cut_spoilt p t (frameOf q) m (by omega) hm2 hm8 HT.out
            have h2 := cut_frame q [] (by omega)
            rw [List.append_nil, cut_nil] at h2
            rw [h1, h2]
          have HCUT := Lib.hid hcut
          have HOL := Lib.hid (over4_length (frameOf p) t m (by omega) HT.out)
          clear hcut h1 h2 h3
          generalize frameOf p = x at *
          generalize frameOf q = y at *
          go_wp2_with (at_builtin; refine wpList_append_bytes rfl (.tmp 44) (.tmp 45) 23 rfl w3.heap.size 5 Tryd.underlying23 info8 _ _ 0 [] x rfl rfl (owns_empty w3 w3.heap.size 5 (Nat.le_refl _) w3.heap.size rfl) (HX3.out.fr0 ((Fr.refl _ _).alloc _)) (by omega) (by simp) ?_)
          intro v6 w6 hown6 hgr6
          obtain ⟨h0, ⟨rfl, h00⟩ | ⟨gz, cap, cur, rfl, hgb, hgc, hnc, hcm, hcs, hcx⟩⟩ := hown6
          · exfalso; omega
          simp only [Nat.zero_add, Nat.mul_one, List.nil_append] at hnc hcs hcx h0
          have HF6 : Hid (Fr0 w3 w6) := Lib.hid (Fr.grown (Fr.alloc (Fr.refl _ _) _) hgr6 (fun q hq e => by simp [Value.ownBlock] at e; omega))
          obtain ⟨hov, hovl⟩ := over_splice x t cap m cur hcs hnc hcx (by omega) HT.out
          have HOV := Lib.hid hov
          have HOVL := Lib.hid hovl
          have HGC : Hid (w6.drew.heap[gz]? = some (.cells cur.toList.toArray 5 (0, 0))) := Lib.hid (show w6.heap[gz]? = _ from by rw [Array.toArray_toList]; exact hgc)
          have HTC : Hid (w6.heap[w.heap.size]? = some (.cells T 44 (0, 0))) := Lib.hid (HF6.out.heap HT3.out (fun f => f))
          obtain ⟨X, hX⟩ : ∃ X, X = bvals t := ⟨_, rfl⟩
          have HX := Lib.hid hX
          have HX1 : Hid (∀ u ∈ X, u.oneCell' = true) := Lib.hid (by rw [hX]; exact bvals_one _)
          have HXL4 : Hid (X.length = 4) := Lib.hid (by rw [hX, bvals_length, HT.out])
          have HPOS : Hid (∀ j u, X[j]? = some u → w6.drew.cell? ((⟨w.heap.size, 0, none⟩ : Addr).add j) = some u) := Lib.hid (fun j u hj => by
            rw [Addr.add_mid, Nat.zero_add, World.cell?_drew, cell_of_row _ _ _ _ _ _ HTC.out, HTE.out, toArray_get, ← HX.out]; exact hj)
          have HCS := Lib.hid hcs
          have hsl := fun wx => cut_lo_at (P := Tryd.prog) 23 5 Tryd.underlying23 (by kernel_rfl) gz x.length cap m (by omega) hnc (by omega) wx
          clear hX hov hovl hgc hcs hcx h0 hgr6
          go_wp2_with fail
          go_region_law (refine step_copy_splice rfl (.tmp 49) (.tmp 50) 23 23 rfl 5 Tryd.underlying23 (by kernel_rfl) _ _ (x.length - m) (cap - m) 4 4 (by rfl) (by rfl) gz m cur.toList 5 HGC.out X (by rw [HXL4.out]; exact (Nat.min_eq_left (by omega)).symm) (fun _ => ⟨rfl, _, rfl, HPOS.out⟩) (by rw [HXL4.out, Array.length_toList, HCS.out]; omega) HX1.out w3.heap.size _ (Below.refl _ _) hgb ?_; intro w7 HG7 hB7)
          have HF7 : Hid (Fr0 w3 w7) := Lib.hid (Fr.then_below (Fr.drew HF6.out) hB7 (fun i h1 h2 => by omega))
          have hZ7 : BytesIs w7 (.slice (some ⟨gz, 0, none⟩) x.length cap) (over4 x m t) := by
            rw [← HOL.out]
            refine BytesIs.own (base := 0) (e := 5) (n := (over4 x m t).length) ⟨by simp [bvals_length], .inr ⟨gz, cap, _, rfl, Nat.zero_le _, HG7.out, by rw [HOL.out]; exact hnc, hcm, by rw [HX.out]; simpa using HOVL.out, ?_⟩⟩
            rw [HX.out, HOL.out, Nat.mul_one]
            exact HOV.out
          have HZ7 := Lib.hid hZ7
          have HFW : Hid (Fr0 w w7) := Lib.hid (HF3.out.trans' HF7.out)
          clear hB7 hZ7 HGC HTC HPOS hsl
          go_wp2_with fail
          refine (made w w7 HFW.out).mono ?_
          rintro e w8 ⟨g, rfl, hg, hM8, hF8⟩
          have HM8 := Lib.hid hM8
          have HF8 : Hid (Fr0 w w8) := Lib.hid (HFW.out.trans' hF8)
          have HF78 := Lib.hid hF8
          have HZ8 := Lib.hid (HZ7.out.fr0 hF8)
          have HY8 := Lib.hid ((HY3.out.fr0 HF7.out).fr0 hF8)
          have HX8 := Lib.hid ((HX3.out.fr0 HF7.out).fr0 hF8)
          have HGL : Hid (g < w8.heap.size) := Lib.hid hM8.at_.lt
          have HG0 := Lib.hid hg
          have HX7 := Lib.hid (HX3.out.fr0 HF7.out)
          clear hM8 hF8 hg HF7 HFW
          have hzl : (over4 x m t).length ≤ 518 := by rw [HOL.out]; omega
          go_wp2_with (at_builtin; refine wpList_append_bytes rfl (.tmp 53) (.tmp 54) 23 rfl w8.heap.size 5 Tryd.underlying23 info8 _ _ 0 [] (over4 x m t) rfl rfl (owns_empty w8 w8.heap.size 5 (Nat.le_refl _) w8.heap.size rfl) (HZ8.out.fr0 ((Fr.refl _ _).alloc _)) (by omega) (by simp) ?_)
          intro v9 w9 hO9 hG9
          have hfe : feed [] false (over4 x m t ++ y) = ⟨[if over4 x m t = x then ⟨p, 0⟩ else ⟨[], 4⟩, ⟨q, 0⟩], [], false⟩ := HCUT.out
          have HFE := Lib.hid hfe
          have HF9 : Hid (Fr0 w8 w9) := Lib.hid (((Fr.refl _ _).alloc _).grown hG9 (fun k hk e => by cases e; exact absurd hk (Nat.lt_irrefl _)))
          have HO9 := Lib.hid hO9
          have HZ9 := Lib.hid (HZ8.out.fr0 HF9.out)
          clear hO9 hG9 hfe HCUT
          generalize over4 x m t = z at *
          go_wp2_with (at_builtin; refine wpList_append_bytes rfl (.tmp 55) (.tmp 56) 23 rfl w8.heap.size 5 Tryd.underlying23 info8 _ _ z.length z y rfl rfl HO9.out (HY8.out.fr0 HF9.out) (by omega) HF9.out.size ?_)
          intro v10 w10 hO10 hG10
          have hF10 : Fr0 w8 w10 := HF9.out.grown hG10 (fun k hk e => by have := (HO9.out.lt k e).1; omega)
          have HF10 : Hid (Fr0 w w10) := Lib.hid (HF8.out.trans' hF10)
          have HM10 := Lib.hid (HM8.out.fr0 hF10)
          have hzy : (z ++ y).length = z.length + y.length := List.length_append
          have hCl : Clear (V g none) v10 (z ++ y) := fun a n c hv hl e => by
            have := (hO10.lt a.block (by rw [hv]; rfl)).1
            have := HGL.out
            rcases e with e | e
            · omega
            · cases e
          have hfd := fed_any w w10 g none [] false (z ++ y) v10 HM10.out HF10.out HR.out (by omega) (BytesIs.own (n := z.length + y.length) hO10) hCl
          have HX10 := Lib.hid (HX8.out.fr0 hF10)
          have HZ10 := Lib.hid (HZ8.out.fr0 hF10)
          unfold ptr at *
          clear hO10 hG10 hF10 hCl hzy HO9 HZ9 HF9
          go_wp2_with fail
          refine hfd.mono ?_
          clear hfd
          rintro e w11 ⟨v11, q11, rfl, _, _, hP11, hf11, hF11⟩
          rw [HFE.out] at hP11
          simp only at hP11
          have HX11 := Lib.hid (bytes_keep HX10.out hf11 (fun a n c hv hl e => by
            have := bytes_lt HX7.out a n c hv hl
            have := HG0.out
            rcases e with e | e
            · omega
            · cases e))
          have HZ11 := Lib.hid (bytes_keep HZ10.out hf11 (fun a n c hv hl e => by
            have := bytes_lt HZ7.out a n c hv hl
            have := HG0.out
            rcases e with e | e
            · omega
            · cases e))
          have HA11 := Lib.hid (HA.out.fr0 hF11)
          have HB11 := Lib.hid (HB.out.fr0 hF11)
          have HF11 := Lib.hid hF11
          obtain ⟨A11, C11, rfl⟩ := hP11.form
          obtain ⟨pb, po, rfl, hat⟩ := hP11.at.2 (by simp)
          obtain ⟨s1, k10, k11, hb1, _⟩ := hat 1 (by simp)
          obtain ⟨s0, k00, k01, hb0, _⟩ := hat 0 (by simp)
          simp only [List.getElem_cons_zero, List.getElem_cons_succ, Nat.zero_mul, Nat.one_mul, Nat.add_zero, Nat.add_assoc, Nat.reduceAdd] at k10 k11 hb1 k00 k01 hb0
          rw [show (([if z = x then ⟨p, 0⟩ else ⟨[], 4⟩, ⟨q, 0⟩] : List Pc)).length = 2 from rfl]
          have hcv1 := fun nq : Nat => (hb1.fr0 ((Fr.refl _ w11).drewN nq)).convert (P := Tryd.prog) 23 9 5 Tryd.underlying23 Tryd.underlying5 Tryd.underlying9
          have hcv2 := fun nq : Nat => (HB11.out.fr0 ((Fr.refl _ w11).drewN nq)).convert (P := Tryd.prog) 23 9 5 Tryd.underlying23 Tryd.underlying5 Tryd.underlying9
          clear hat hP11 hf11 hF11
          generalize (⟨q.toArray⟩ : ByteArray) = st at *
          go_wp2
          go_quiet (fail)
          have HF12 := Lib.hid (HF11.out.drewN nq)
          have HX12 := Lib.hid (HX11.out.fr0 ((Fr.refl _ _).drewN nq))
          have HZ12 := Lib.hid (HZ11.out.fr0 ((Fr.refl _ _).drewN nq))
          have HA12 := Lib.hid (HA11.out.fr0 ((Fr.refl _ _).drewN nq))
          have k00 : (w11.drewN nq).cell? ⟨pb, po, none⟩ = some s0 := k00
          have k01 : (w11.drewN nq).cell? ⟨pb, po + 1, none⟩ = _ := k01
          have HB0 : Hid (BytesIs (w11.drewN nq) s0 (if z = x then (⟨p, 0⟩ : Pc) else ⟨[], 4⟩).b) := Lib.hid (hb0.fr0 ((Fr.refl _ _).drewN nq))
          clear hb0
          clear k10 k11 hcv1 hcv2 hb1 HX11 HZ11 HA11 HB11 HF11
          generalize w11.drewN nq = w12 at *
          have hcx := HX12.out.convert (P := Tryd.prog) 23 9 5 Tryd.underlying23 Tryd.underlying5 Tryd.underlying9
          have hcz := HZ12.out.convert (P := Tryd.prog) 23 9 5 Tryd.underlying23 Tryd.underlying5 Tryd.underlying9
          by_cases hzx : z = x
          · have hb0 := HB0.out
            rw [if_pos hzx] at k01 hb0
            subst hzx
            have hcv1 := fun nq : Nat => (hb0.fr0 ((Fr.refl _ w12).drewN nq)).convert (P := Tryd.prog) 23 9 5 Tryd.underlying23 Tryd.underlying5 Tryd.underlying9
            have hcv2 := fun nq : Nat => (HA12.out.fr0 ((Fr.refl _ w12).drewN nq)).convert (P := Tryd.prog) 23 9 5 Tryd.underlying23 Tryd.underlying5 Tryd.underlying9
            clear hb0
            generalize (⟨p.toArray⟩ : ByteArray) = sp at *
            generalize (⟨z.toArray⟩ : ByteArray) = sz at *
            go_wp2
            go_quiet (fail)
            go_wp2
            go_ret
            exact ⟨rfl, HF12.out.drewN nq⟩
          · have hb0 := HB0.out
            rw [if_neg hzx] at k01 hb0
            have hne : ¬ (⟨z.toArray⟩ : ByteArray) = ⟨x.toArray⟩ := fun h => hzx (by
              have := congrArg ByteArray.toList h
              rw [str_toList, str_toList] at this
              exact this)
            have hb1 := str_ne hne
            obtain ⟨A0, C0, rfl⟩ := hb0.form
            have k00 : w12.cell? ⟨pb, po, none⟩ = some (.slice A0 0 C0) := k00
            clear hb0
            generalize (⟨x.toArray⟩ : ByteArray) = sx at *
            generalize (⟨z.toArray⟩ : ByteArray) = sz at *
            go_wp2
            go_ret
            exact ⟨rfl, HF12.out⟩
end Go.Proofs.YtggdpmfghbnhcaaDoor.Frame
