/-
  The walk of arena.New.
-/
import Derived.Test.YtkdpdbjefehmpaaAreCalls
import Derived.Deep.LoopGhost
namespace Go.Proofs.Ytkdpdbjefehmpaa.Arena
open Go.RowKit Base

theorem infoInt : (Try.prog.info? 3).map (fun i => (i.zero, i.size, i.bytes)) = some (some (.int .i64 0), 1, 8) := by kernel_rfl
theorem make_ints (n : Nat) (hn : n ≤ 1000000) (x : Int) (hx : x = (n : Int)) (w : World) : (Instr.makeSlice 38 (.int .i64 x) (.int .i64 x)).run Try.prog w = .ok (.slice (some ⟨w.heap.size, 0, none⟩) n n) (w.alloc (.cells (madeCells #[.int .i64 0] n) 3)) := by
  subst hx
  exact run_make_row' (P := Try.prog) 38 3 (.int .i64 0) 8 Try.underlying38 infoInt rfl .i64 .i64 n (by omega) (by omega) w
theorem make_bytes (n : Nat) (hn : n ≤ 1000000) (w : World) : (Instr.makeSlice 32 (.int .i64 (n : Int)) (.int .i64 (n : Int))).run Try.prog w = .ok (.slice (some ⟨w.heap.size, 0, none⟩) n n) (w.alloc (.cells (madeCells #[.int .u8 0] n) 5)) :=
  run_make_row' (P := Try.prog) 32 5 (.int .u8 0) 1 Try.underlying32 info8 rfl .i64 .i64 n (by omega) (by omega) w
theorem made_bytes (w : World) (n : Nat) (t : TypeId) : (w.alloc (.cells (madeCells #[.int .u8 0] n) t)).heap[w.heap.size]? = some (.cells (bvals (List.replicate n 0)).toArray t (0, 0)) :=
  bytes_rowIs (World.rowIs_made w (.int .u8 0) n t) (by simp) (fun i hi => by simp [hi])
def cutCell (L : List Int) (k j : Nat) : Value := if j ≤ k then .int .i64 (cut L j) else .int .i64 0
/-- what New answers -/
def NewPost (size : Int) (L : List Int) (w : World) (e : Ending) (w' : World) : Prop :=
  (Fits size L → ∃ g pb cb, e = .returned (.tuple #[ptr g, .int .i64 0]) ∧ AreP w' w.heap.size g pb cb L (List.replicate size.toNat 0)) ∧ (¬ Fits size L → e = .returned (.tuple #[.pointer none, .int .i64 1])) ∧ Fr0 w w'
theorem NewPost.bad {size : Int} {L : List Int} {w w' : World} (h : ¬ Fits size L) (hf : Fr0 w w') : NewPost size L w (.returned (.tuple #[.pointer none, .int .i64 1])) w' := ⟨fun hF => absurd hF h, fun _ => rfl, hf⟩
set_option maxHeartbeats 4000000 in
theorem new_any (size : Int) (v : Value) (L : List Int) (hL : L.length ≤ 9223372036854775807) (hb : ∀ n ∈ L, -9223372036854775808 ≤ n ∧ n ≤ 9223372036854775807) (hs : -9223372036854775808 ≤ size ∧ size ≤ 9223372036854775807) (w : World) (hI : IntsIs w v L) :
    Calls Try.prog 8 #[.int .i64 size, v] w (NewPost size L w) := by
  obtain ⟨a, cap, pb, po, rfl, hcap, ha, hc⟩ := hI
  have HA := Lib.hid ha
  have HC := Lib.hid hc
  have HBD := Lib.hid hb
  clear ha hc hb
  by_cases h1 : size < 0
  · have HX : Hid (¬ Fits size L) := Lib.hid (fun h => by have := h.s0; omega)
    go_enter Try.func8, Try.ntmps8
    go_wp2
    go_ret2
    exact NewPost.bad HX.out (Fr.refl _ _)
  · by_cases h2 : 65536 < size
    · have HX : Hid (¬ Fits size L) := Lib.hid (fun h => by have := h.s1; omega)
      go_enter Try.func8, Try.ntmps8
      go_wp2
      go_ret2
      exact NewPost.bad HX.out (Fr.refl _ _)
    · by_cases h3 : 64 < L.length
      · have HX : Hid (¬ Fits size L) := Lib.hid (fun h => by have := h.n; omega)
        go_enter Try.func8, Try.ntmps8
        go_wp2
        go_ret2
        exact NewPost.bad HX.out (Fr.refl _ _)
      · obtain ⟨n, rfl⟩ := Int.eq_ofNat_of_zero_le (show 0 ≤ size by omega)
        have hmk := fun wx : World => make_ints (L.length + 1) (by omega) ((L.length : Int) + 1) (by omega) wx
        have hmb := fun wx : World => make_bytes n (by omega) wx
        go_enter Try.func8, Try.ntmps8
        go_wp2
        clear hmk
        have HR0 : Hid ((w.alloc (.cells (madeCells #[.int .i64 0] (L.length + 1)) 3)).rowIs w.heap.size 3 (L.length + 1) (cutCell L 0)) := Lib.hid ((World.rowIs_made w (.int .i64 0) (L.length + 1) 3).congr (fun i hi => by
          unfold cutCell
          split
          · obtain rfl : i = 0 := by omega
            rw [cut_zero]
          · rfl))
        go_loopg [26] L.length (fun kx i wr => ∃ k : Nat, i = .int .i64 k ∧ k ≤ L.length ∧ L.length - k ≤ kx ∧ Hid (wr.rowIs w.heap.size 3 (L.length + 1) (cutCell L k)) ∧ Hid (Fr0 w wr) ∧ Hid (∀ j, j < k → 0 ≤ L.getD j 0) ∧ 0 ≤ cut L k ∧ cut L k ≤ (n : Int))
        case atStart => exact ⟨0, rfl, Nat.zero_le _, by omega, HR0, Lib.hid ((Fr.refl _ _).alloc _), Lib.hid (fun j hj => absurd hj (Nat.not_lt_zero _)), by rw [cut_zero]; exact Int.le_refl _, by rw [cut_zero]; omega⟩
        case round =>
          clear HR0
          obtain ⟨k, rfl, hk, hg, HR, HF, HP, hz, hle⟩ := hrel
          by_cases hlt : k < L.length
          · obtain rfl := HA.out (by omega)
            have c0 : wr.cell? ⟨pb, po + k, none⟩ = some (.int .i64 (L.getD k 0)) := (HF.out.cell (p := ⟨pb, po + k, none⟩) (World.block_lt_of_cell? w _ (HC.out k hlt)) (fun f => f)).trans (HC.out k hlt)
            have c1 : wr.cell? ⟨w.heap.size, k, none⟩ = some (.int .i64 (cut L k)) := by rw [HR.out.cell (i := k) (by omega)]; simp [cutCell]
            have c2 : wr.cell? ⟨w.heap.size, k + 1, none⟩ = some (.int .i64 0) := by rw [HR.out.cell (i := k + 1) (by omega)]; unfold cutCell; rw [if_neg (by omega)]
            have cf := HR.out.frozen (k + 1)
            have hx := HBD.out (L.getD k 0) (by simp [hlt])
            have HS := Lib.hid (cut_succ L k hlt)
            have HBAD : Hid ((L.getD k 0 < 0 ∨ (n : Int) - cut L k < L.getD k 0) → ¬ Fits (n : Int) L) := Lib.hid (fun h hF => by
              have h1 := hF.pos k hlt
              have h2 := hF.le (k := k + 1) hlt
              have h3 := HS.out
              omega)
            generalize hX : L.getD k 0 = x at *
            have HX := Lib.hid hX
            generalize hC0 : cut L k = c at *
            have HCK := Lib.hid hC0
            clear hX hC0
            have i1 : (k : Int) < (L.length : Int) := by omega
            have i2 : 0 ≤ (k : Int) := by omega
            have i3 : (k : Int) < ((L.length + 1 : Nat) : Int) := by omega
            have i4 : (k : Int) + 1 < ((L.length + 1 : Nat) : Int) := by omega
            by_cases hx0 : x < 0
            · go_wp2
              go_ret2
              exact NewPost.bad (HBAD.out (.inl hx0)) HF.out
            · by_cases hx1 : (n : Int) - c < x
              · go_wp2
                go_ret2
                exact NewPost.bad (HBAD.out (.inr hx1)) HF.out
              · have HN : Hid (∀ i, i < L.length + 1 → (if i = k + 1 then Value.int .i64 (c + x) else cutCell L k i) = cutCell L (k + 1) i) := Lib.hid (fun i hi => by
                  unfold cutCell
                  by_cases h : i = k + 1
                  · subst h; rw [if_pos rfl, if_pos (Nat.le_refl _), HS.out]
                  · rw [if_neg h]
                    by_cases h' : i ≤ k
                    · rw [if_pos h', if_pos (by omega)]
                    · rw [if_neg h', if_neg (by omega)])
                go_wp2
                go_roundg (L.length - (k + 1))
                case measure => omega
                case rel =>
                  refine ⟨k + 1, by simp, by omega, by omega, Lib.hid ((HR.out.set (k + 1) _).congr HN.out), Lib.hid (Fr.setCell (p := ⟨w.heap.size, k + 1, none⟩) HF.out (fun h => absurd h (Nat.lt_irrefl _)) _), Lib.hid (fun j hj => ?_), by rw [HS.out]; omega, by rw [HS.out]; omega⟩
                  by_cases hjk : j = k
                  · subst hjk; rw [HX.out]; omega
                  · exact HP.out j (by omega)
          · obtain rfl : k = L.length := by omega
            have HFIT : Hid (Fits (n : Int) L) := Lib.hid ⟨by omega, by omega, by omega, HP.out, hle⟩
            have HE : Hid (NewPost (n : Int) L w (.returned (.tuple #[ptr (wr.heap.size + 1), .int .i64 0])) ((wr.alloc (.cells (madeCells #[.int .u8 0] n) 5)).alloc (.cells #[.slice (some ⟨wr.heap.size, 0, none⟩) n n, .slice (some ⟨w.heap.size, 0, none⟩) (L.length + 1) (L.length + 1)] 64))) := Lib.hid (by
              have hws := HF.out.size
              have hcl : w.heap.size < wr.heap.size := HR.out.lt
              have f1 : Fr0 wr ((wr.alloc (.cells (madeCells #[.int .u8 0] n) 5)).alloc (.cells #[.slice (some ⟨wr.heap.size, 0, none⟩) n n, .slice (some ⟨w.heap.size, 0, none⟩) (L.length + 1) (L.length + 1)] 64)) := ((Fr.refl _ _).alloc _).alloc _
              refine ⟨fun _ => ⟨wr.heap.size + 1, wr.heap.size, w.heap.size, rfl, ⟨⟨L.length + 1, Nat.le_refl _, ?_⟩, ?_, fun j hj => ?_, by omega, hws, Nat.le_refl _, by omega, by omega, by simpa using HFIT.out⟩⟩, fun h => absurd HFIT.out h, HF.out.trans' f1⟩
              · have := rowIs_new (wr.alloc (.cells (madeCells #[.int .u8 0] n) 5)) #[.slice (some ⟨wr.heap.size, 0, none⟩) n n, .slice (some ⟨w.heap.size, 0, none⟩) (L.length + 1) (L.length + 1)] 64 2 (fun i => if i = 0 then .slice (some ⟨wr.heap.size, 0, none⟩) n n else .slice (some ⟨w.heap.size, 0, none⟩) (L.length + 1) (L.length + 1)) rfl (fun i hi => by
                  match i, hi with
                  | 0, _ => rfl
                  | 1, _ => rfl)
                simpa using this
              · have := (Fr.refl (fun _ => False) (wr.alloc (.cells (madeCells #[.int .u8 0] n) 5))).alloc (.cells #[.slice (some ⟨wr.heap.size, 0, none⟩) n n, .slice (some ⟨w.heap.size, 0, none⟩) (L.length + 1) (L.length + 1)] 64)
                simpa using this.heap (made_bytes wr n 5) (fun f => f)
              · rw [f1.cell (p := ⟨w.heap.size, j, none⟩) hcl (fun f => f), HR.out.cell (i := j) (by omega)]
                simp [cutCell, hj])
            unfold ptr at HE
            go_wp2
            go_ret2
            exact HE.out
end Go.Proofs.Ytkdpdbjefehmpaa.Arena
