/-
  The walks of the reference's blocks: NewBlocks, Free, Take, List, Need.
-/
import Derived.Test.YtkdpdbjefehmpaaBlkGive
namespace Go.Proofs.Ytkdpdbjefehmpaa.Blocks
open Go.RowKit Base Arena

abbrev BlkR (w : World) (B g ob : Nat) (O : List Bool) : Prop := BlkAt w B 93 4 g ob O
def RefNewPost (n : Nat) (w : World) (e : Ending) (w' : World) : Prop := ∃ g ob, e = .returned (.pointer (some ⟨g, 0, none⟩)) ∧ BlkR w' w.heap.size g ob (List.replicate n false) ∧ Fr0 w w'
set_option maxHeartbeats 4000000 in
theorem refNew_any (bytes : Int) (hb : -9223372036854775808 ≤ bytes ∧ bytes ≤ 9223372036854775807) (w : World) :
    Calls Try.prog 38 #[.int .i64 bytes] w (RefNewPost (whole bytes) w) := by
  have HW := Lib.hid (whole_le bytes)
  have HE : Hid (∀ n, n = whole bytes → BlkR ((w.alloc (.cells (madeCells #[.bool false] n) 4)).alloc (.cells #[.slice (some ⟨w.heap.size, 0, none⟩) n n] 93)) w.heap.size (w.heap.size + 1) w.heap.size (List.replicate (whole bytes) false) ∧ Fr0 w ((w.alloc (.cells (madeCells #[.bool false] n) 4)).alloc (.cells #[.slice (some ⟨w.heap.size, 0, none⟩) n n] 93))) :=
    Lib.hid (fun n hn => by subst hn; exact ⟨blk_new w _ _ _ HW.out _ _ rfl rfl, ((Fr.refl _ _).alloc _).alloc _⟩)
  by_cases h0 : bytes < 0
  · have HN : Hid (whole bytes = 0) := Lib.hid (by unfold whole; omega)
    have hmk := fun wx : World => make_bools 0 (by omega) 0 rfl wx
    go_enter Try.func38, Try.ntmps38
    go_wp2
    go_ret
    exact ⟨_, _, rfl, HE.out 0 HN.out.symm⟩
  · by_cases h1 : 65536 < bytes
    · have HN : Hid (whole bytes = 2048) := Lib.hid (by unfold whole; omega)
      have hmk := fun wx : World => make_bools 2048 (by omega) 2048 rfl wx
      go_enter Try.func38, Try.ntmps38
      go_wp2
      go_ret
      exact ⟨_, _, rfl, HE.out 2048 HN.out.symm⟩
    · have HN : Hid (bytes / 32 = (whole bytes : Nat)) := Lib.hid (by unfold whole; omega)
      have hmk := fun wx : World => make_bools (whole bytes) (by have := HW.out; omega) (bytes / 32) HN.out wx
      go_enter Try.func38, Try.ntmps38
      go_wp2
      go_ret
      exact ⟨_, _, rfl, HE.out _ rfl⟩
theorem neg_bool {x : Bool} (h : x = true) : (!x) = false := by rw [h]; rfl
set_option maxHeartbeats 4000000 in
theorem refFree_any (B g ob : Nat) (O : List Bool) (w : World) (h : BlkR w B g ob O) :
    Calls Try.prog 24 #[.pointer (some ⟨g, 0, none⟩)] w fun e w' => e = .returned (.int .i64 ((frees O).length : Int)) ∧ w' = w := by
  obtain ⟨C, hC, c0⟩ := h.cell0
  have HCE := Lib.hid h.cell
  have hlen := h.len
  clear h
  go_enter Try.func24, Try.ntmps24
  go_wp2
  go_loopg [3, 4] O.length (fun kx n i wr => ∃ k : Nat, i = .int .i64 k ∧ n = .int .i64 ((those false O k).length : Int) ∧ k ≤ O.length ∧ O.length - k ≤ kx ∧ Hid (wr = w))
  case atStart => exact ⟨0, rfl, rfl, Nat.zero_le _, by omega, Lib.hid rfl⟩
  case round =>
    obtain ⟨k, rfl, rfl, hk, hg, HW⟩ := hrel
    obtain rfl := HW.out
    by_cases hlt : k < O.length
    · have d0 := HCE.out k hlt
      have hkl := those_length false O k
      have i1 : (k : Int) < (O.length : Int) := by omega
      have i2 : 0 ≤ (k : Int) := by omega
      cases hx : O.getD k false with
      | false =>
        have HT : Hid ((those false O (k + 1)).length = (those false O k).length + 1) := Lib.hid (by rw [those_in hx, List.length_append]; rfl)
        rw [hx] at d0
        clear hx
        generalize (those false O k).length = m at *
        go_wp2
        go_roundg (O.length - (k + 1))
        case measure => omega
        case rel => exact ⟨k + 1, by simp, by rw [HT.out]; simp, by omega, by omega, Lib.hid rfl⟩
      | true =>
        have HT : Hid ((those false O (k + 1)).length = (those false O k).length) := Lib.hid (by rw [those_out (by rw [hx]; decide)])
        rw [hx] at d0
        clear hx
        generalize (those false O k).length = m at *
        go_wp2
        go_roundg (O.length - (k + 1))
        case measure => omega
        case rel => exact ⟨k + 1, by simp, by rw [HT.out], by omega, by omega, Lib.hid rfl⟩
    · obtain rfl : k = O.length := by omega
      have HE : Hid ((those false O O.length).length = (frees O).length) := Lib.hid rfl
      generalize (those false O O.length).length = m at *
      go_wp2
      go_ret
      exact ⟨by rw [← HE.out]; rfl, rfl⟩
set_option maxHeartbeats 1000000 in
theorem refNeed_any (bytes : Int) (hb : -9223372036854775808 ≤ bytes ∧ bytes ≤ 9223372036854775807) (w : World) :
    Calls Try.prog 40 #[.int .i64 bytes] w fun e w' => e = .returned (.int .i64 (needs bytes)) ∧ w' = w := by
  by_cases h : bytes ≤ 0
  · have HN : Hid (needs bytes = 0) := Lib.hid (if_pos h)
    go_enter Try.func40, Try.ntmps40
    go_wp2
    go_ret
    exact ⟨by rw [HN.out]; rfl, rfl⟩
  · have HN : Hid (needs bytes = (bytes - 1) / 32 + 1) := Lib.hid (if_neg h)
    go_enter Try.func40, Try.ntmps40
    go_wp2
    go_ret
    exact ⟨by rw [HN.out]; rfl, rfl⟩
end Go.Proofs.Ytkdpdbjefehmpaa.Blocks
