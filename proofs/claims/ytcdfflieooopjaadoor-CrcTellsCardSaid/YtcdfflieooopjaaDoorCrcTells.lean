/-
  CrcTells: bytes that differ within four side by side have unlike rests: the walk.
-/
import Derived.Test.YtcdfflieooopjaaDoorCrcTellsR
import Derived.Deep.DeepCutAuto
namespace Go.Proofs.YtcdfflieooopjaaDoor.Crc
open Go.RowKit Base

def over (b : List UInt8) (at_ : Nat) (t : List UInt8) : List UInt8 := b.take at_ ++ t ++ b.drop (at_ + 4)
theorem tells_iff (b t : List UInt8) (n : Nat) (hn : n + 4 ≤ b.length) (ht : t.length = 4) : decide (crc 0 b = crc 0 (over b n t)) = decide (b = over b n t) := by
  rw [decide_eq_decide]
  refine ⟨fun h => ?_, fun h => by rw [← h]⟩
  have e : b = b.take n ++ (b.drop n).take 4 ++ b.drop (n + 4) := by
    rw [List.append_assoc, ← List.drop_drop, List.take_append_drop, List.take_append_drop]
  have k := crc_tells (b.take n) ((b.drop n).take 4) t (b.drop (n + 4)) (by simp; omega) ht (by rw [← e]; exact h)
  rw [over, ← k, ← e]
theorem cut_lo_at {P : Program} (t e : TypeId) (ht : P.underlying t = some (.slice e)) (hs : (P.info? e).map (·.size) = some 1) (g n cap lo : Nat) (h1 : lo ≤ n) (h2 : n ≤ cap) (h3 : lo < cap) (wx : World) :
    (Instr.sliceAt t (.slice (some ⟨g, 0, none⟩) n cap) (some (.int .i64 (lo : Int))) none none).run P wx = .ok (.slice (some ⟨g, lo, none⟩) (n - lo) (cap - lo)) wx := by
  obtain ⟨i, hi', hz⟩ : ∃ i, P.info? e = some i ∧ i.size = 1 := by
    cases hq : P.info? e with
    | none => simp [hq] at hs
    | some i => exact ⟨i, rfl, by simpa [hq] using hs⟩
  have hE : P.elem t = e := by simp [Program.elem, ht]
  rw [run_sliceAt_slice wx t _ _ _ _ (by rw [hE]; exact ht), run_slice_l wx t (some ⟨g, 0, none⟩) n cap (by rw [hE]; exact ht) .i64 (lo : Int) (by omega) (by omega), hE]
  simp [sizeOf, typeInfo, hi', hz, sliced, Sem.run_bind, Addr.add, show ¬ cap = lo from by omega]
  exact fun h => h.symm
theorem over_splice (b t : List UInt8) (cap m : Nat) (cur : Array Value) (hc : cur.size = cap) (hle : b.length ≤ cap) (hx : cur.toList.take b.length = bvals b) (h4 : m + 4 ≤ b.length) (ht : t.length = 4) : (splice cur.toList m (bvals t)).take b.length = bvals (over b m t) ∧ (splice cur.toList m (bvals t)).length = cap := by
  have hcl : cur.toList.length = cap := by rw [Array.length_toList]; exact hc
  refine ⟨?_, by simp [splice, bvals_length, ht, hcl]; omega⟩
  apply List.ext_getElem?
  intro i
  have hi := fun (h : i < b.length) => congrArg (fun l : List Value => l[i]?) hx
  simp only [List.getElem?_take] at hi
  rw [List.getElem?_take]
  by_cases h : i < b.length
  · have hi := hi h
    rw [if_pos h] at hi
    rw [if_pos h, splice, ← List.append_assoc, splice_get _ _ _ _ (by rw [bvals_length, hcl]; omega), bvals_length, ht, hi]
    by_cases hm : m ≤ i ∧ i < m + 4
    · rw [if_pos hm]
      simp only [bvals, over, List.map_append, List.getElem?_append, List.length_map, List.length_take, List.length_append, ht]
      rw [if_pos (by omega), if_neg (by omega), show min m b.length = m from by omega]
    · rw [if_neg hm]
      simp only [bvals, over, List.map_append, List.getElem?_append, List.length_map, List.length_take, List.length_append, ht]
      by_cases hlt : i < m
      · rw [if_pos (by omega), if_pos (by omega)]; simp [hlt]
      · rw [if_neg (by omega)]; simp; congr 1; congr 1; omega
  · rw [if_neg h, List.getElem?_eq_none]
    simp [bvals, over, ht]; omega
set_option maxHeartbeats 2000000 in
set_option maxRecDepth 100000 in
theorem crcTells_walk (v0 : Value) (b : List UInt8) (n : Int) (t : List UInt8) (hb : b.length ≤ 9223372036854775807) (hn : -9223372036854775808 ≤ n ∧ n ≤ 9223372036854775807) (ht : t.length = 4) (w : World) (hB : BytesIs w v0 b) (hR : Rests w) :
    Calls Tryd.prog 14 #[v0, .int .i64 n, .agg (bvals t).toArray] w fun e w' => e = .returned (.bool true) ∧ Fr0 w w' := by
  have HB := Lib.hid hB
  have HR0 := Lib.hid hR
  have HR1 : Hid (Rests (w.alloc (.cells (bvals t).toArray 53))) := Lib.hid (hR.fr (S := fun _ => False) ((Fr.refl _ _).alloc _) (fun f => f))
  obtain ⟨a0, cap0, _, _, rfl, _⟩ := hB
  have HT := Lib.hid ht
  obtain ⟨T, hT⟩ : ∃ T, T = (bvals t).toArray := ⟨_, rfl⟩
  rw [← hT]
  rw [← hT] at HR1
  have HTE := Lib.hid hT
  clear hR ht hT
  by_cases hbad : 2000 < b.length ∨ n < 0 ∨ (b.length : Int) - 4 < n
  · have HD : Hid (2000 < b.length ∨ n < 0 ∨ (b.length : Int) - 4 < n) := Lib.hid hbad
    clear hbad
    go_enter Tryd.func14, Tryd.ntmps14
    go_wp2_with fail
    refine (awake_any _ HR1.out).mono ?_
    rintro e w1 ⟨rfl, hF1⟩
    have HF1 : Hid (Fr0 w w1) := Lib.hid (Fr.trans' ((Fr.refl _ _).alloc _) hF1)
    clear hF1
    have hw : IntKind.i64.wrap ((b.length : Int) - 4) = (b.length : Int) - 4 := IntWalk.i64_in _ (by omega)
    by_cases h1 : 2000 < b.length
    · go_wp2
      go_ret
      exact ⟨rfl, HF1.out⟩
    · by_cases h2 : n < 0
      · go_wp2
        go_ret
        exact ⟨rfl, HF1.out⟩
      · have h3 : (b.length : Int) - 4 < n := by have := HD.out; omega
        go_wp2
        go_ret
        exact ⟨rfl, HF1.out⟩
  · have h1 : ¬ 2000 < b.length := by omega
    obtain ⟨m, rfl⟩ := Int.eq_ofNat_of_zero_le (show 0 ≤ n by omega)
    have h4 : m + 4 ≤ b.length := by omega
    clear hbad
    have hw : IntKind.i64.wrap ((b.length : Int) - 4) = (b.length : Int) - 4 := IntWalk.i64_in _ (by omega)
    have h3 : ¬ ((b.length : Int) - 4 < (m : Int)) := by omega
    go_enter Tryd.func14, Tryd.ntmps14
    go_wp2_with fail
    refine (awake_any _ HR1.out).mono ?_
    rintro e w1 ⟨rfl, hF1⟩
    have HF1 : Hid (Fr0 w w1) := Lib.hid (Fr.trans' ((Fr.refl _ _).alloc _) hF1)
    have HT1 : Hid (w1.heap[w.heap.size]? = some (.cells T 53 (0, 0))) := Lib.hid (hF1.heap (heap_alloc_new w _) (fun f => f))
    clear hF1
    go_wp2_with (at_builtin; refine wpList_append_bytes rfl (.tmp 24) (.tmp 25) 30 rfl w1.heap.size 5 Tryd.underlying30 (by kernel_rfl) _ _ 0 [] b rfl rfl (owns_empty w1 w1.heap.size 5 (Nat.le_refl _) w1.heap.size rfl) (HB.out.fr0 (HF1.out.alloc _)) (by omega) (by simp) ?_)
    intro v4 w4 hown4 hgr4
    obtain ⟨h0, ⟨rfl, h00⟩ | ⟨g, cap, cur, rfl, hgb, hgc, hnc, hcm, hcs, hcx⟩⟩ := hown4
    · exfalso; omega
    simp only [Nat.zero_add, Nat.mul_one, List.nil_append] at hnc hcs hcx h0
    have HF4 : Hid (Fr0 w1 w4) := Lib.hid (Fr.grown (Fr.alloc (Fr.refl _ _) _) hgr4 (fun q hq e => by simp [Value.ownBlock] at e; omega))
    obtain ⟨hov, hovl⟩ := over_splice b t cap m cur hcs hnc hcx h4 HT.out
    have HOV := Lib.hid hov
    have HOVL := Lib.hid hovl
    have HGC : Hid (w4.drew.heap[g]? = some (.cells cur.toList.toArray 5 (0, 0))) := Lib.hid (show w4.heap[g]? = _ from by rw [Array.toArray_toList]; exact hgc)
    have HTC : Hid (w4.heap[w.heap.size]? = some (.cells T 53 (0, 0))) := Lib.hid (HF4.out.heap HT1.out (fun f => f))
    obtain ⟨X, hX⟩ : ∃ X, X = bvals t := ⟨_, rfl⟩
    have HX := Lib.hid hX
    have HX1 : Hid (∀ u ∈ X, u.oneCell' = true) := Lib.hid (by rw [hX]; exact bvals_one _)
    have HXL : Hid (X.length = 4) := Lib.hid (by rw [hX, bvals_length, HT.out])
    have HPOS : Hid (∀ j u, X[j]? = some u → w4.drew.cell? ((⟨w.heap.size, 0, none⟩ : Addr).add j) = some u) := Lib.hid (fun j u hj => by
      rw [Addr.add_mid, Nat.zero_add, World.cell?_drew, cell_of_row _ _ _ _ _ _ HTC.out, HTE.out, toArray_get, ← HX.out]; exact hj)
    have HCS := Lib.hid hcs
    have hsl := fun wx => cut_lo_at (P := Tryd.prog) 30 5 Tryd.underlying30 (by kernel_rfl) g b.length cap m (by omega) hnc (by omega) wx
    clear hX hov hovl hgc hcs hcx h0 hgr4
    go_wp2_with fail
    go_region_law (refine step_copy_splice rfl (.tmp 29) (.tmp 30) 30 30 rfl 5 Tryd.underlying30 (by kernel_rfl) _ _ (b.length - m) (cap - m) 4 4 (by rfl) (by rfl) g m cur.toList 5 HGC.out X (by rw [HXL.out]; exact (Nat.min_eq_left (by omega)).symm) (fun _ => ⟨rfl, _, rfl, HPOS.out⟩) (by rw [HXL.out, Array.length_toList, HCS.out]; omega) HX1.out w1.heap.size _ (Below.refl _ _) hgb ?_; intro w3 HG3 hB3)
    have HF3 : Hid (Fr0 w w3) := Lib.hid (Fr.then_below (Fr.trans' HF1.out (Fr.drew HF4.out)) hB3 (fun i h1 h2 => by have := HF1.out.size; omega))
    have hB7 : BytesIs w3 (.slice (some ⟨g, 0, none⟩) b.length cap) (over b m t) := by
      have hol : (over b m t).length = b.length := by simp [over, HT.out]; omega
      rw [← hol]
      refine BytesIs.own (base := 0) (e := 5) (n := (over b m t).length) ⟨by simp [bvals_length], .inr ⟨g, cap, _, rfl, Nat.zero_le _, HG3.out, by rw [hol]; exact hnc, hcm, by rw [HX.out]; simpa using HOVL.out, ?_⟩⟩
      rw [HX.out, hol, Nat.mul_one]
      exact HOV.out
    have HB7 := Lib.hid hB7
    have HRw : Hid (Rests w3) := Lib.hid (HR0.out.fr HF3.out (fun f => f))
    have of1 : ∀ (l : List UInt8), l.length ≤ 9223372036854775807 → ∀ (W : World) (v : Value), Fr0 w3 W → PartsIs W v [l] → Calls Tryd.prog 30 #[v] W fun e w' => e = .returned (.int .u32 ((crc 0 l : Nat) : Int)) ∧ Fr0 W w' := fun l hl W v hF hP => by
      refine (of_any v [l] W hP (HRw.out.fr hF (fun f => f)) (by simp; exact hl)).mono fun e w' ⟨he, hw⟩ => ⟨by rw [he]; simp, by rw [← hw]; exact Fr.refl _ _⟩
    go_wp2_with fail
    refine ct_region (b := b) (c := over b m t) (x := ((crc 0 b : Nat) : Int)) (y := ((crc 0 (over b m t) : Nat) : Int)) (d := decide (b = over b m t)) (V0 := .slice a0 b.length cap0) (V7 := .slice (some ⟨g, 0, none⟩) b.length cap) ?_ ?_
    · refine ⟨rfl, rfl, rfl, HB.out.fr0 HF3.out, HB7.out, ?_, ?_, of1 b hb, of1 _ ?_⟩
      · rw [← tells_iff b t m h4 HT.out, Bool.eq_iff_iff, beq_iff_eq, decide_eq_true_eq]; omega
      · rw [Bool.eq_iff_iff, beq_iff_eq, decide_eq_true_eq]
      · have hol : (over b m t).length = b.length := by simp [over, HT.out]; omega
        rw [hol]; exact hb
    intro a' w8 hF8 hdf h0
    have hF : Fr0 w w8 := HF3.out.trans' hF8
    go_wp2
    exact bodyPost_ret (results_tmp rfl a'.tmps Tryd.prog w8) hdf ⟨congrArg Ending.returned h0, hF⟩
end Go.Proofs.YtcdfflieooopjaaDoor.Crc
