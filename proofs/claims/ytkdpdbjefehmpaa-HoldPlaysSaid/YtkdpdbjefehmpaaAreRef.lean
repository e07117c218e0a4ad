/-
  The walks of the reference's arena.
-/
import Derived.Test.YtkdpdbjefehmpaaAreIO
import Derived.Test.YtkdpdbjefehmpaaAreNew
import Derived.Test.YtkdpdbjefehmpaaVals
namespace Go.Proofs.Ytkdpdbjefehmpaa.Arena
open Go.RowKit Base

abbrev AreR (w : World) (B g pb cb : Nat) (L : List Int) (bs : List UInt8) : Prop := AreAt w B 53 5 g pb cb L bs
def cutVals (L : List Int) (k : Nat) : List Value := (List.range (k + 1)).map fun j => .int .i64 (cut L j)
theorem cutVals_succ (L : List Int) (k : Nat) : cutVals L (k + 1) = cutVals L k ++ [.int .i64 (cut L (k + 1))] := by
  simp [cutVals, List.range_succ]
theorem cutVals_get (L : List Int) (k j : Nat) (h : j ≤ k) : (cutVals L k)[j]? = some (.int .i64 (cut L j)) := by
  simp [cutVals, show j < k + 1 from by omega]
def RefPost (size : Int) (L : List Int) (w : World) (e : Ending) (w' : World) : Prop :=
  (Fits size L → ∃ g pb cb, e = .returned (.tuple #[ptr g, .int .i64 0]) ∧ AreR w' w.heap.size g pb cb L (List.replicate size.toNat 0)) ∧ (¬ Fits size L → e = .returned (.tuple #[.pointer none, .int .i64 1])) ∧ Fr0 w w'
theorem RefPost.bad {size : Int} {L : List Int} {w w' : World} (h : ¬ Fits size L) (hf : Fr0 w w') : RefPost size L w (.returned (.tuple #[.pointer none, .int .i64 1])) w' := ⟨fun hF => absurd hF h, fun _ => rfl, hf⟩
set_option maxHeartbeats 4000000 in
theorem refNew_any (size : Int) (v : Value) (L : List Int) (hL : L.length ≤ 9223372036854775807) (hb : ∀ n ∈ L, -9223372036854775808 ≤ n ∧ n ≤ 9223372036854775807) (hs : -9223372036854775808 ≤ size ∧ size ≤ 9223372036854775807) (w : World) (hI : IntsIs w v L) :
    Calls Try.prog 18 #[.int .i64 size, v] w (RefPost size L w) := by
  obtain ⟨a, cap, pb, po, rfl, hcap, ha, hc⟩ := hI
  have HA := Lib.hid ha
  have HC := Lib.hid hc
  have HBD := Lib.hid hb
  clear ha hc hb
  by_cases h1 : size < 0
  · have HX : Hid (¬ Fits size L) := Lib.hid (fun h => by have := h.s0; omega)
    go_enter Try.func18, Try.ntmps18
    go_wp2
    go_ret2
    exact RefPost.bad HX.out (Fr.refl _ _)
  · by_cases h2 : 65536 < size
    · have HX : Hid (¬ Fits size L) := Lib.hid (fun h => by have := h.s1; omega)
      go_enter Try.func18, Try.ntmps18
      go_wp2
      go_ret2
      exact RefPost.bad HX.out (Fr.refl _ _)
    · by_cases h3 : 64 < L.length
      · have HX : Hid (¬ Fits size L) := Lib.hid (fun h => by have := h.n; omega)
        go_enter Try.func18, Try.ntmps18
        go_wp2
        go_ret2
        exact RefPost.bad HX.out (Fr.refl _ _)
      · obtain ⟨n, rfl⟩ := Int.eq_ofNat_of_zero_le (show 0 ≤ size by omega)
        have hmb := fun wx : World => make_bytes n (by omega) wx
        have HO0 : Hid ((w.alloc (.cells #[.int .i64 0] 3)).ownsRow w.heap.size 3 1 (.slice (some ⟨w.heap.size, 0, none⟩) 1 1) 1 (cutVals L 0)) := Lib.hid (by
          have := owns_lit w w.heap.size 3 #[.int .i64 0] 1 rfl (by unfold maxLen; omega) (Nat.le_refl _) _ rfl
          simpa [cutVals, cut_zero] using this)
        go_enter Try.func18, Try.ntmps18
        go_wp2
        go_loopg [6, 7, 8] L.length (fun kx v s i wr => ∃ k : Nat, i = .int .i64 k ∧ s = .int .i64 (cut L k) ∧ k ≤ L.length ∧ L.length - k ≤ kx ∧ Hid (wr.ownsRow w.heap.size 3 1 v (k + 1) (cutVals L k)) ∧ Hid (Fr0 w wr) ∧ Hid (∀ j, j < k → 0 ≤ L.getD j 0) ∧ 0 ≤ cut L k ∧ cut L k ≤ (n : Int))
        case atStart => exact ⟨0, rfl, by rw [cut_zero], Nat.zero_le _, by omega, HO0, Lib.hid ((Fr.refl _ _).alloc _), Lib.hid (fun j hj => absurd hj (Nat.not_lt_zero _)), by rw [cut_zero]; exact Int.le_refl _, by rw [cut_zero]; omega⟩
        case round =>
          clear HO0
          obtain ⟨k, rfl, rfl, hk, hg, HO, HF, HP, hz, hle⟩ := hrel
          by_cases hlt : k < L.length
          · obtain rfl := HA.out (by omega)
            have c0 : wr.cell? ⟨pb, po + k, none⟩ = some (.int .i64 (L.getD k 0)) := (HF.out.cell (p := ⟨pb, po + k, none⟩) (World.block_lt_of_cell? w _ (HC.out k hlt)) (fun f => f)).trans (HC.out k hlt)
            have hx := HBD.out (L.getD k 0) (by simp [hlt])
            have HS := Lib.hid (cut_succ L k hlt)
            have HBAD : Hid ((L.getD k 0 < 0 ∨ (n : Int) - cut L k < L.getD k 0) → ¬ Fits (n : Int) L) := Lib.hid (fun h hF => by
              have h1 := hF.pos k hlt
              have h2 := hF.le (k := k + 1) hlt
              have h3 := HS.out
              omega)
            generalize hX : L.getD k 0 = x at *
            have HX := Lib.hid hX
            generalize hC0 : cut L k = c at *
            have HCK := Lib.hid hC0
            clear hX hC0
            have i1 : (k : Int) < (L.length : Int) := by omega
            have i2 : 0 ≤ (k : Int) := by omega
            by_cases hx0 : x < 0
            · go_wp2
              go_ret2
              exact RefPost.bad (HBAD.out (.inl hx0)) HF.out
            · by_cases hx1 : (n : Int) - c < x
              · go_wp2
                go_ret2
                exact RefPost.bad (HBAD.out (.inr hx1)) HF.out
              · have HV : Hid (ValsIs (wr.alloc (.cells #[.int .i64 (c + x)] 3)) (.slice (some ⟨wr.heap.size, 0, none⟩) 1 1) 1 [.int .i64 (c + x)]) := Lib.hid ⟨_, 1, wr.heap.size, 0, rfl, Nat.le_refl _, fun _ => rfl, fun j hj => by
                  obtain rfl : j = 0 := by simpa using hj
                  rw [cell_of_row _ _ _ _ _ _ (heap_alloc_new wr _)]
                  rfl⟩
                have HSA := Lib.hid ((Fr.refl (fun _ => False) wr).alloc (.cells #[.int .i64 (c + x)] 3))
                have hws := HF.out.size
                go_wp2_with (refine wpList_append_vals rfl (.tmp 48) (.tmp 50) 38 rfl w.heap.size 3 Try.underlying38 (.int .i64 0) 1 8 infoInt rfl (by decide) _ _ (k + 1) 1 (cutVals L k) [.int .i64 (c + x)] rfl rfl (HO.out.alloc _) HV.out rfl (by intro u hu; simp at hu; subst hu; rfl) (by unfold maxLen; omega) (by omega) (Nat.le_trans hws HSA.out.size) ?_; intro v2 w2 hO2 hG2)
                have HO2 : Hid (w2.ownsRow w.heap.size 3 1 v2 (k + 1 + 1) (cutVals L (k + 1))) := Lib.hid (by rw [cutVals_succ, HS.out]; exact hO2)
                have HF2 : Hid (Fr0 w w2) := Lib.hid ((HF.out.trans' HSA.out).grown hG2 (fun q hq e => by have := HO.out.lt q e; omega))
                clear hO2 hG2 HV HSA HO
                go_wp2
                go_roundg (L.length - (k + 1))
                case measure => omega
                case rel =>
                  refine ⟨k + 1, by simp, by rw [HS.out], by omega, by omega, HO2, HF2, Lib.hid (fun j hj => ?_), by rw [HS.out]; omega, by rw [HS.out]; omega⟩
                  by_cases hjk : j = k
                  · subst hjk; rw [HX.out]; omega
                  · exact HP.out j (by omega)
          · obtain rfl : k = L.length := by omega
            have HFIT : Hid (Fits (n : Int) L) := Lib.hid ⟨by omega, by omega, by omega, HP.out, hle⟩
            obtain ⟨cb, C, rfl, hcb, hC, hcc⟩ : ∃ cb C, u6 = .slice (some ⟨cb, 0, none⟩) (L.length + 1) C ∧ w.heap.size ≤ cb ∧ L.length + 1 ≤ C ∧ ∀ j, j ≤ L.length → wr.cell? ⟨cb, j, none⟩ = some (.int .i64 (cut L j)) := by
              have h := HO.out
              rcases h.2 with ⟨_, hn⟩ | ⟨q, cap, cur, hv, hb, hg, hnc, _⟩
              · omega
              · subst hv
                refine ⟨q, cap, rfl, hb, hnc, fun j hj => ?_⟩
                rw [h.cellAt j (by simp [cutVals]; omega)]
                exact cutVals_get L L.length j hj
            have HE : Hid (RefPost (n : Int) L w (.returned (.tuple #[ptr (wr.heap.size + 1), .int .i64 0])) ((wr.alloc (.cells (madeCells #[.int .u8 0] n) 5)).alloc (.cells #[.slice (some ⟨wr.heap.size, 0, none⟩) n n, .slice (some ⟨cb, 0, none⟩) (L.length + 1) C] 53))) := Lib.hid (by
              have hws := HF.out.size
              have hcl : cb < wr.heap.size := World.block_lt_of_cell? wr _ (hcc 0 (Nat.zero_le _))
              have f1 : Fr0 wr ((wr.alloc (.cells (madeCells #[.int .u8 0] n) 5)).alloc (.cells #[.slice (some ⟨wr.heap.size, 0, none⟩) n n, .slice (some ⟨cb, 0, none⟩) (L.length + 1) C] 53)) := ((Fr.refl _ _).alloc _).alloc _
              refine ⟨fun _ => ⟨wr.heap.size + 1, wr.heap.size, cb, rfl, ⟨⟨C, hC, ?_⟩, ?_, fun j hj => ?_, by omega, hws, hcb, by omega, by omega, by simpa using HFIT.out⟩⟩, fun h => absurd HFIT.out h, HF.out.trans' f1⟩
              · have := rowIs_new (wr.alloc (.cells (madeCells #[.int .u8 0] n) 5)) #[.slice (some ⟨wr.heap.size, 0, none⟩) n n, .slice (some ⟨cb, 0, none⟩) (L.length + 1) C] 53 2 (fun i => if i = 0 then .slice (some ⟨wr.heap.size, 0, none⟩) n n else .slice (some ⟨cb, 0, none⟩) (L.length + 1) C) rfl (fun i hi => by
                  match i, hi with
                  | 0, _ => rfl
                  | 1, _ => rfl)
                simpa using this
              · have := (Fr.refl (fun _ => False) (wr.alloc (.cells (madeCells #[.int .u8 0] n) 5))).alloc (.cells #[.slice (some ⟨wr.heap.size, 0, none⟩) n n, .slice (some ⟨cb, 0, none⟩) (L.length + 1) C] 53)
                simpa using this.heap (made_bytes wr n 5) (fun f => f)
              · rw [f1.cell (p := ⟨cb, j, none⟩) hcl (fun f => f)]
                exact hcc j hj)
            unfold ptr at HE
            clear hcc hcb hC
            go_wp2
            go_ret2
            exact HE.out
end Go.Proofs.Ytkdpdbjefehmpaa.Arena
