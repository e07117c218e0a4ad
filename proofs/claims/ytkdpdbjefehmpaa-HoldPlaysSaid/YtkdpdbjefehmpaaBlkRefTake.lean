/-
  The walk of the reference's Take.
-/
import Derived.Test.YtkdpdbjefehmpaaBlkRef
namespace Go.Proofs.Ytkdpdbjefehmpaa.Blocks
open Go.RowKit Base Arena

set_option maxHeartbeats 4000000 in
theorem refTake_any (B g ob : Nat) (O : List Bool) (n : Int) (hn : I64 n) (w : World) (h : BlkR w B g ob O) :
    Calls Try.prog 39 #[.pointer (some ⟨g, 0, none⟩), .int .i64 n] w (TakePost (fun w' O' => BlkR w' B g ob O') ob O n w) := by
  have HB := Lib.hid h
  have hlen := h.len
  have hr := refFree_any B g ob O w h
  clear h
  by_cases h0 : n < 0
  · have HP : Hid (TakePost (fun w' O' => BlkR w' B g ob O') ob O n w (.returned (.tuple #[.slice none 0 0, .int .i64 1])) w) := Lib.hid (take_bad (by decide) (terr_neg h0) HB.out (Fr.refl _ _))
    clear hr
    go_enter Try.func39, Try.ntmps39
    go_wp2
    go_ret2
    exact HP.out
  · go_enter Try.func39, Try.ntmps39
    go_wp2_with fail
    refine hr.mono ?_
    rintro e w1 ⟨rfl, rfl⟩
    have hfl := frees_length O
    clear hr
    by_cases h1 : ((frees O).length : Int) < n
    · have HP : Hid (TakePost (fun w' O' => BlkR w' B g ob O') ob O n w1 (.returned (.tuple #[.slice none 0 0, .int .i64 6])) w1) := Lib.hid (take_bad (by decide) (terr_full (by omega) h1) HB.out (Fr.refl _ _))
      go_wp2
      go_ret2
      exact HP.out
    · obtain ⟨k0, rfl⟩ := Int.eq_ofNat_of_zero_le (show 0 ≤ n by omega)
      have hk0 : k0 ≤ (frees O).length := by omega
      have hdec : decide ((frees O).length < k0) = false := by simpa using hk0
      have HT := Lib.hid (tout_ok hk0)
      have HE := Lib.hid (terr_ok hk0)
      have HOB := Lib.hid HB.out.ob_lt
      go_wp2
      go_loopg [6, 7] O.length (fun kx v i wr => ∃ k : Nat, i = .int .i64 k ∧ k ≤ O.length ∧ O.length - k ≤ kx ∧ (those false O k).length ≤ k0 ∧ Hid (wr.ownsRow w1.heap.size 3 1 v (those false O k).length (nvals (those false O k))) ∧ Hid (BlkR wr B g ob (mark true O (those false O k))) ∧ Hid (Fr1 ob w1 wr))
      case atStart => exact ⟨0, rfl, Nat.zero_le _, by omega, Nat.zero_le _, Lib.hid (World.ownsRow_nil w1 _ _ _), Lib.hid (by rw [those_zero, mark_nil]; exact HB.out), Lib.hid (Fr.refl _ _)⟩
      case round =>
        obtain ⟨k, rfl, hk, hg, hle, HO, HBk, HFk⟩ := hrel
        obtain ⟨A, C, rfl⟩ : ∃ A C, u6 = .slice A (those false O k).length C := by
          rcases HO.out.2 with ⟨hv, hn⟩ | ⟨q, cap, cur, hv, _⟩
          · exact ⟨none, 0, by rw [hv, hn]⟩
          · exact ⟨_, cap, hv⟩
        by_cases hlt : (those false O k).length < k0
        · have hkO : k < O.length := by
            rcases Nat.lt_or_ge k O.length with h | h
            · exact h
            · obtain rfl : k = O.length := by omega
              have : (those false O O.length).length = (frees O).length := rfl
              omega
          have hws := HFk.out.size
          have hml : (mark true O (those false O k)).length = O.length := mark_length _ _ _
          obtain ⟨C2, hC, c1⟩ := HBk.out.cell0
          have d0 := HBk.out.cell k (by rw [hml]; exact hkO)
          have df := HBk.out.frozen k
          rw [hml] at c1 hC
          have hmg : (mark true O (those false O k)).getD k false = O.getD k false := by
            rw [mark_get _ _ _ _ (fun i hi => by have := (those_mem.1 hi).1; omega), if_neg (fun hi => by have := (those_mem.1 hi).1; omega)]
          rw [hmg] at d0
          have i1 : (k : Int) < (O.length : Int) := by omega
          have i2 : 0 ≤ (k : Int) := by omega
          have hdl : decide ((those false O k).length < k0) = true := decide_eq_true hlt
          cases hx : O.getD k false with
          | false =>
            have HT2 := Lib.hid (those_in hx)
            have hl2 : (those false O (k + 1)).length = (those false O k).length + 1 := by rw [those_in hx, List.length_append]; rfl
            have HL2 := Lib.hid hl2
            rw [hx] at d0
            have HB2 : Hid (BlkR (wr.setCell ⟨ob, k, none⟩ (.bool true)) B g ob (mark true O (those false O (k + 1)))) := Lib.hid (by
              rw [HT2.out, mark_snoc]
              exact HBk.out.set k true (by rw [hml]; exact hkO))
            have HF2 : Hid (Fr1 ob w1 (wr.setCell ⟨ob, k, none⟩ (.bool true))) := Lib.hid (Fr.setCell (S := fun j => j = ob) (p := ⟨ob, k, none⟩) HFk.out (fun _ => rfl) _)
            have HO2 : Hid ((wr.setCell ⟨ob, k, none⟩ (.bool true)).ownsRow w1.heap.size 3 1 (.slice A (those false O k).length C) (those false O k).length (nvals (those false O k))) := Lib.hid (owns_fr (Fr.setCell (S := fun j => j = ob) (p := ⟨ob, k, none⟩) (Fr.refl _ wr) (fun _ => rfl) _) HO.out (fun q hq e => by
              have h1 := (HO.out.lt q hq).1
              have h2 := HOB.out
              have e' : q = ob := e
              omega))
            clear hx hmg hml hl2
            have hws2 := HF2.out.size
            have hsz : (wr.setCell ⟨ob, k, none⟩ (.bool true)).heap.size = wr.heap.size := by simp [World.setCell]
            have HSZ := Lib.hid hsz
            clear hsz
            have HSA := Lib.hid ((Fr.refl (fun _ => False) (wr.setCell ⟨ob, k, none⟩ (.bool true))).alloc (.cells #[.int .i64 (k : Int)] 3))
            go_wp2_with (refine wpList_append_vals rfl (.tmp 34) (.tmp 36) 38 rfl w1.heap.size 3 Try.underlying38 (.int .i64 0) 1 8 infoI rfl (by decide) _ _ (those false O k).length 1 (nvals (those false O k)) [.int .i64 (k : Int)] rfl rfl (HO2.out.alloc _) (one_int (wr.setCell ⟨ob, k, none⟩ (.bool true)) _ _ _ HSZ.out.symm) rfl (by intro u hu; simp at hu; subst hu; rfl) (by unfold maxLen; omega) (by omega) (Nat.le_trans hws2 HSA.out.size) ?_; intro v3 w3 hO3 hG3)
            have HO3 : Hid (w3.ownsRow w1.heap.size 3 1 v3 (those false O (k + 1)).length (nvals (those false O (k + 1)))) := Lib.hid (by rw [HT2.out, nvals_snoc, List.length_append]; exact hO3)
            have HF23 : Hid (Fr (fun j => w1.heap.size ≤ j) (wr.setCell ⟨ob, k, none⟩ (.bool true)) w3) := Lib.hid ((HSA.out.zero).grown hG3 (fun q hq e => (HO2.out.lt q e).1))
            have HF3 : Hid (Fr1 ob w1 w3) := Lib.hid (HF2.out.trans HF23.out (fun i hi e => by have e' : w1.heap.size ≤ i := e; omega))
            have HB3 : Hid (BlkR w3 B g ob (mark true O (those false O (k + 1)))) := Lib.hid (HB2.out.fr HF23.out (fun e => by have := HB.out.g_lt; have e' : w1.heap.size ≤ g := e; omega) (fun e => by have := HOB.out; have e' : w1.heap.size ≤ ob := e; omega))
            clear hO3 hG3 HSA HO2 HF2 HB2 HF23
            go_wp2
            go_roundg (O.length - (k + 1))
            case measure => omega
            case rel => exact ⟨k + 1, by simp, by omega, by omega, by rw [HL2.out]; omega, HO3, HB3, HF3⟩
          | true =>
            have HT2 : Hid (those false O (k + 1) = those false O k) := Lib.hid (those_out (by rw [hx]; decide))
            rw [hx] at d0
            clear hx hmg hml
            go_wp2
            go_roundg (O.length - (k + 1))
            case measure => omega
            case rel => exact ⟨k + 1, by simp, by omega, by omega, by rw [HT2.out]; exact hle, by rw [HT2.out]; exact HO, by rw [HT2.out]; exact HBk, HFk⟩
        · have hkk : (those false O k).length = k0 := by omega
          have HTK : Hid ((frees O).take k0 = those false O k) := Lib.hid (by rw [← hkk]; exact those_take hk)
          have hdl : decide ((those false O k).length < k0) = false := by simpa using hlt
          have HP : Hid (TakePost (fun w' O' => BlkR w' B g ob O') ob O (k0 : Int) w1 (.returned (.tuple #[.slice A (those false O k).length C, .int .i64 0])) wr) := Lib.hid (by
            refine ⟨_, by rw [HE.out], ?_, Fresh.own HO.out, ?_, HFk.out⟩
            · rw [HT.out, HTK.out]
              exact ints_own HO.out
            · show BlkR wr B g ob (took O (k0 : Int))
              unfold took
              rw [HT.out, HTK.out]
              exact HBk.out)
          clear hkk
          go_wp2
          go_ret2
          exact HP.out
end Go.Proofs.Ytkdpdbjefehmpaa.Blocks
