/-
  HoldRoom: one is put just if there is room for all its blocks: the walk.
-/
import Derived.Test.YtkdpdbjefehmpaaHoldAwake
namespace Go.Proofs.Ytkdpdbjefehmpaa.Hold
open Go.RowKit Base Go.Maps Arena
open Blocks (whole whole_le frees nints tout took terr give gave gerr)

theorem frees_new (n : Nat) : (frees (List.replicate n false)).length = n := by rw [frees_count]; simp
theorem fits_one {n : Int} (h : 0 ≤ n) (h1 : n ≤ 65536) : Fits n [n] := ⟨h, h1, by simp, fun k hk => by
  obtain rfl : k = 0 := by simpa using hk
  exact h, by simp [cut]⟩
set_option maxRecDepth 100000 in
set_option maxHeartbeats 8000000 in
theorem holdRoom_walk (bytes : Int) (v1 : Value) (l : List Int) (hl : l.length ≤ 9223372036854775807) (hbd : ∀ n ∈ l, -9223372036854775808 ≤ n ∧ n ≤ 9223372036854775807) (hb : -9223372036854775808 ≤ bytes ∧ bytes ≤ 9223372036854775807) (w : World) (hI : IntsIs w v1 l) :
    Calls Try.prog 6 #[.int .i64 bytes, v1] w fun e w' => e = .returned (.bool true) ∧ Fr0 w w' := by
  obtain ⟨a, cap, pb0, po0, rfl, hcap, ha, hc⟩ := hI
  have HA := Lib.hid ha
  have HC := Lib.hid hc
  have HBD := Lib.hid hbd
  have haw := awake_any w
  clear ha hc hbd
  by_cases h1 : bytes < 0
  · go_enter Try.func6, Try.ntmps6
    go_wp2_with fail
    refine haw.mono ?_
    rintro e w1 ⟨rfl, hf⟩
    have HF := Lib.hid hf
    clear hf haw
    go_wp2
    go_ret
    exact ⟨rfl, HF.out⟩
  · by_cases h2 : 2000 < bytes
    · go_enter Try.func6, Try.ntmps6
      go_wp2_with fail
      refine haw.mono ?_
      rintro e w1 ⟨rfl, hf⟩
      have HF := Lib.hid hf
      clear hf haw
      go_wp2
      go_ret
      exact ⟨rfl, HF.out⟩
    · by_cases h3 : 30 < l.length
      · go_enter Try.func6, Try.ntmps6
        go_wp2_with fail
        refine haw.mono ?_
        rintro e w1 ⟨rfl, hf⟩
        have HF := Lib.hid hf
        clear hf haw
        go_wp2
        go_ret
        exact ⟨rfl, HF.out⟩
      · have hfit := Lib.hid (fits_one (n := bytes) (by omega) (by omega))
        go_enter Try.func6, Try.ntmps6
        go_wp2_with fail
        refine haw.mono ?_
        rintro e w1 ⟨rfl, hf⟩
        have HF1 := Lib.hid hf
        clear hf haw
        go_wp2_with fail
        refine (Arena.new_any bytes _ [bytes] (by simp) (by simpa using ⟨hb.1, hb.2⟩) hb _ (ints_lit w1 _ [bytes] rfl _ _ _ rfl rfl)).mono ?_
        rintro e w2 ⟨hn, _, hf⟩
        obtain ⟨ga, pb, cb, rfl, hA⟩ := hn hfit.out
        have HF2 : Hid (Fr0 w w2) := Lib.hid (HF1.out.trans' (((Fr.refl _ _).alloc _).trans' hf))
        have HA2 := Lib.hid (hA.base (B' := w.heap.size) (by have := HF1.out.size; simp; omega))
        clear hA hf hn
        unfold ptr
        go_wp2_with fail
        refine (one_new w.heap.size ga pb cb [bytes] _ 0 w2 HA2.out (by simp) HF2.out.size).mono ?_
        rintro e w3 ⟨hf, g, xg, mb, rfl, ho⟩
        have HO3 := Lib.hid ho
        have HF3 := Lib.hid (HF2.out.trans' hf)
        have HW : Hid (bytes / 32 * 32 = ((frees (List.replicate (whole (([bytes] : List Int).getD 0 0)) false)).length : Int) * 32) := Lib.hid (by
          rw [frees_new]
          show _ = (whole bytes : Int) * 32
          unfold whole
          omega)
        clear hf ho HA2
        unfold ptr
        go_wp2
        go_loopg [9, 10] l.length (fun kx s i wr => ∃ (j top p : Nat) (bs : List UInt8) (O : List Bool) (es : List Ent), s = .int .i64 (((frees O).length : Int) * 32) ∧ i = .int .i64 (j : Int) ∧ j ≤ l.length ∧ l.length - j ≤ kx ∧ p ≤ j ∧ (frees O).length ≤ 2048 ∧ Hid (One w.heap.size top [] wr ga pb cb [bytes] 0 g xg mb bs O p es) ∧ Hid (Fr0 w wr))
        case atStart => exact ⟨0, _, 0, _, _, _, by rw [HW.out], rfl, Nat.zero_le _, by omega, Nat.le_refl _, by have h1 := Blocks.frees_length (List.replicate (whole (([bytes] : List Int).getD 0 0)) false); have h2 := HO3.out.len; omega, HO3, HF3⟩
        case round =>
          clear HO3 HF3 HW
          obtain ⟨j, top, p, bs, O, es, rfl, rfl, hj, hgj, hpj, hO, HO, HF⟩ := hrel
          by_cases hlt : j < l.length
          · obtain rfl := HA.out (by omega)
            have d0 : wr.cell? ⟨pb0, po0 + j, none⟩ = some (.int .i64 (l.getD j 0)) := (HF.out.cell (p := ⟨pb0, po0 + j, none⟩) (World.block_lt_of_cell? w _ (HC.out j hlt)) (fun f => f)).trans (HC.out j hlt)
            have hx := HBD.out (l.getD j 0) (by simp [hlt])
            generalize l.getD j 0 = x at *
            by_cases hx0 : x < 0
            · go_wp2
              go_ret
              exact ⟨rfl, HF.out⟩
            · by_cases hx1 : 2000 < x
              · go_wp2
                go_ret
                exact ⟨rfl, HF.out⟩
              · obtain ⟨n, rfl⟩ := Int.eq_ofNat_of_zero_le (show 0 ≤ x by omega)
                have hmk := fun wx : World => make_bytes n (by omega) wx
                have HN : Hid (((n : Int) + 31) / 32 * 32 = (need n : Int) * 32) := Lib.hid (by unfold need; omega)
                have hnn : need n ≤ 100 := by unfold need; omega
                have hbb := BytesIs.block (made_bytes wr n 5) n n (by simp) (Nat.le_refl _)
                go_wp2_with fail
                refine (one_put w.heap.size top [] ga pb cb [bytes] 0 g xg mb bs O p es (List.replicate n 0) _ _ (by simp; omega) (by omega) (HO.out.fr0 ((Fr.refl _ _).alloc _)) hbb (fun _ a n c h => by cases h; exact .inr HO.out.top_le)).mono ?_
                rintro e w4 ⟨hf4, hc⟩
                rw [HN.out]
                have HTL := Lib.hid HO.out.top_le
                have HF4 : Hid (Fr0 w w4) := Lib.hid (HF.out.trans ((Fr.trans (S := fun i => (w.heap.size ≤ i ∧ i < top) ∧ i ∉ ([] : List Nat)) (Fr.refl _ _).zero ((Fr.zero ((Fr.refl _ wr).alloc (.cells (madeCells #[.int .u8 0] n) 5))).trans' hf4) (fun _ _ h => h))) (fun i hi h => by omega))
                rw [List.length_replicate] at hc
                clear hf4 hbb hmk d0
                rcases hc with ⟨hfits, d, bs', rfl, _, _, ho⟩ | ⟨hfits, rfl, ho⟩
                · have hft := frees_took hfits
                  have HO4 := Lib.hid ho
                  clear ho
                  generalize took O (need n : Nat) = O4 at *
                  have HFE : Hid (((frees O).length : Int) * 32 - (need n : Int) * 32 = ((frees O4).length : Int) * 32) := Lib.hid (by omega)
                  have i1 : (need n : Int) * 32 ≤ ((frees O).length : Int) * 32 := by omega
                  have hd1 : decide ((need n : Int) * 32 ≤ ((frees O).length : Int) * 32) = true := decide_eq_true i1
                  go_wp2_with fail
                  refine (one_room _ _ _ ga pb cb [bytes] 0 g xg mb _ _ _ _ w4 HO4.out).mono ?_
                  rintro e w5 ⟨rfl, hf5⟩
                  rw [HFE.out]
                  have HO5 := Lib.hid (HO4.out.fr0 hf5)
                  have HF5 := Lib.hid (HF4.out.trans' hf5)
                  have hf4l : (frees O4).length ≤ 2048 := by omega
                  clear hf5 hft i1 hd1
                  go_wp2
                  go_roundg (l.length - (j + 1))
                  case measure => omega
                  case rel => exact ⟨j + 1, _, p + 1, bs', O4, _, rfl, by simp, by omega, by omega, by omega, hf4l, HO5, HF5⟩
                · have HO4 := Lib.hid ho
                  clear ho
                  have i1 : ¬ (need n : Int) * 32 ≤ ((frees O).length : Int) * 32 := by omega
                  have hd1 : decide ((need n : Int) * 32 ≤ ((frees O).length : Int) * 32) = false := decide_eq_false i1
                  go_wp2_with fail
                  refine (one_room _ _ _ ga pb cb [bytes] 0 g xg mb _ _ _ _ w4 HO4.out).mono ?_
                  rintro e w5 ⟨rfl, hf5⟩
                  have HO5 := Lib.hid (HO4.out.fr0 hf5)
                  have HF5 := Lib.hid (HF4.out.trans' hf5)
                  clear hf5 i1 hd1
                  go_wp2
                  go_roundg (l.length - (j + 1))
                  case measure => omega
                  case rel => exact ⟨j + 1, _, p, bs, O, _, rfl, by simp, by omega, by omega, by omega, hO, HO5, HF5⟩
          · obtain rfl : j = l.length := by omega
            go_wp2
            go_ret
            exact ⟨rfl, HF.out⟩
end Go.Proofs.Ytkdpdbjefehmpaa.Hold
