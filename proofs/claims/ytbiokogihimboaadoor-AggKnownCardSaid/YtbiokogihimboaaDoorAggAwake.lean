/-
  awake.
-/
import Derived.Test.YtbiokogihimboaaDoorAggOwn
import Derived.Test.YtbiokogihimboaaDoorAggText
namespace Go.Proofs.YtbiokogihimboaaDoor.AggL
open Go.RowKit Base _root_.Go.Proofs.YtbiokogihimboaaDoor.Series _root_.Go.Proofs.YtbiokogihimboaaDoor.Agg

/-- a literal of some numbers -/
theorem ints_lit (w : World) (xs : List Int) (c : Array Value) (hc : c = (ivals xs).toArray) (n : Nat) (hn : n = xs.length) (ty : TypeId) (N : Nat) (hN : N = w.heap.size) : IntsIs (w.alloc (.cells c ty)) (.slice (some ⟨N, 0, none⟩) n n) xs := by
  subst hc hn hN
  refine ⟨_, xs.length, w.heap.size, 0, rfl, Nat.le_refl _, fun _ => rfl, fun j hj => ?_⟩
  rw [cell_of_row _ _ _ _ _ _ (heap_alloc_new w _), Nat.zero_add, List.getElem?_toArray]
  unfold ivals
  rw [List.getElem?_map, List.getElem?_eq_getElem hj, List.getD_eq_getElem?_getD, List.getElem?_eq_getElem hj]
  rfl
theorem ofV_sized {v : List Int} (hl : v.length ≤ 1000000) (h : ∀ x ∈ v, Fit x) : SizedA (ofV v) := by
  have hz : Fit 0 := by unfold Fit; omega
  have hm : ∀ x, (v.length = 0 ∧ x = 0) ∨ x ∈ v → Fit x := fun x hx => by
    rcases hx with ⟨_, rfl⟩ | hx
    · exact hz
    · exact h x hx
  rcases Nat.eq_zero_or_pos v.length with h0 | h0
  · obtain rfl := List.eq_nil_of_length_eq_zero h0
    exact ⟨hz, hz, hz, hz, hz⟩
  · refine ⟨by show Fit (v.length : Int); unfold Fit; omega, ?_, h _ (least_is h0).1, h _ (great_is h0).1, h _ (last_mem h0)⟩
    show Fit (if fits (tot v) = true then tot v else 0)
    split
    · rename_i hf; exact (fits_iff _).1 hf
    · exact hz
theorem agOf_sized {l : List Sm} (hl : l.length ≤ 1000000) (h : SizedS l) : SizedA (agOf l) := ofV_sized (by rw [vs_length]; exact hl) (fun x hx => by
  obtain ⟨p, hp, rfl⟩ := List.mem_map.1 hx
  exact (h p hp).2)
set_option maxRecDepth 100000 in
set_option maxHeartbeats 4000000 in
theorem awake_any (w : World) (hL : Laid w) : Calls Tryd.prog 9 #[] w fun e w' => e = .returned (.bool true) ∧ Fr0 w w' := by
  have hf1 : ∀ x ∈ ([1, -3] : List Int), Fit x := fun x hx => by
    simp only [List.mem_cons, List.not_mem_nil, or_false] at hx
    unfold Fit
    omega
  have HFA := Lib.hid ((Fr.refl (fun _ => False) w).alloc (.cells #[.int .i64 1, .int .i64 (-3)] 2))
  have HV := Lib.hid (vals_any (.slice (some ⟨w.heap.size, 0, none⟩) 2 2) [1, -3] (by simp) (w.alloc (.cells #[.int .i64 1, .int .i64 (-3)] 2)) (ints_lit w [1, -3] _ rfl _ rfl _ _ rfl))
  have hs := vals_sized hf1 (by simp)
  have HO := Lib.hid (fun v w h => pof_any v (valsOf [1, -3]) (by rw [vals_length]; simp) hs w h)
  have HA : Hid (agOf (valsOf [1, -3]) = ⟨2, -2, -3, 1, -3, false⟩) := Lib.hid (by rw [agOf_vals]; kernel_rfl)
  rw [HA.out] at HO
  have HT := Lib.hid (fun w h => ptext_any ⟨2, -2, -3, 1, -3, false⟩ (by unfold SizedA Fit; simp) w h)
  have HX : Hid (textOf ⟨2, -2, -3, 1, -3, false⟩ = [99, 111, 117, 110, 116, 32, 50, 32, 115, 117, 109, 32, 45, 50, 32, 109, 105, 110, 32, 45, 51, 32, 109, 97, 120, 32, 49, 32, 108, 97, 115, 116, 32, 45, 51]) := Lib.hid (by decide +kernel)
  rw [HX.out] at HT
  have HLL := Lib.hid hL
  clear hf1 hs hL HA HX
  go_enter Tryd.func9, Tryd.ntmps9
  go_wp2_with fail
  refine HV.out.mono ?_
  rintro e w1 ⟨A, C, rfl, hP, hF⟩
  have HF1 := Lib.hid (HFA.out.trans' hF)
  have ho := HO.out _ w1 hP
  clear hP hF HFA
  go_wp2_with fail
  refine ho.mono ?_
  clear ho
  rintro e w2 ⟨rfl, hF⟩
  have HF2 := Lib.hid (HF1.out.trans' hF)
  have ht := HT.out w2 (HLL.out.fr HF2.out)
  clear hF HF1
  go_wp2_with fail
  refine ht.mono ?_
  clear ht
  rintro e w3 ⟨rfl, hF⟩
  have HF3 := Lib.hid (HF2.out.trans' hF)
  clear hF HF2
  go_wp2
  go_ret
  exact ⟨rfl, HF3.out⟩
end Go.Proofs.YtbiokogihimboaaDoor.AggL
