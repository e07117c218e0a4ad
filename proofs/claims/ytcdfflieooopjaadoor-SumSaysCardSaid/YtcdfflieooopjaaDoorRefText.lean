/-
  The reference's Text and Parse.
-/
import Derived.Test.YtcdfflieooopjaaDoorShaParse
import Derived.Test.YtcdfflieooopjaaDoorRefFin
import Derived.BigQuiet
namespace Go.Proofs.YtcdfflieooopjaaDoor.Sha
open Go.RowKit Base

def dgS : ByteArray := ⟨#[48, 49, 50, 51, 52, 53, 54, 55, 56, 57, 97, 98, 99, 100, 101, 102]⟩
theorem slice_dg (n : Nat) (hn : n < 16) (w : World) : (Instr.sliceAt 9 (.string dgS) (some (.int .u8 (n : Int))) (some (.int .u8 ((n : Int) + 1))) none).run Tryd.prog w = .ok (.string ⟨#[hexd n]⟩) w := by
  rcases (show n = 0 ∨ n = 1 ∨ n = 2 ∨ n = 3 ∨ n = 4 ∨ n = 5 ∨ n = 6 ∨ n = 7 ∨ n = 8 ∨ n = 9 ∨ n = 10 ∨ n = 11 ∨ n = 12 ∨ n = 13 ∨ n = 14 ∨ n = 15 by omega) with rfl | rfl | rfl | rfl | rfl | rfl | rfl | rfl | rfl | rfl | rfl | rfl | rfl | rfl | rfl | rfl
  all_goals kernel_rfl
theorem cat_bytes (a b : List UInt8) : (⟨a.toArray⟩ : ByteArray) ++ ⟨b.toArray⟩ = ⟨(a ++ b).toArray⟩ := by
  apply ByteArray.ext
  simp [ByteArray.data_append]
set_option maxHeartbeats 1000000 in
set_option maxRecDepth 100000 in
theorem refText_any (d : List UInt8) (hd : d.length = 32) (w : World) :
    Calls Tryd.prog 23 #[.agg (bvals d).toArray] w fun e w' => e = .returned (.string ⟨(hexText d).toArray⟩) ∧ Fr0 w w' := by
  obtain ⟨D, hD⟩ : ∃ D, D = (bvals d).toArray := ⟨_, rfl⟩
  rw [← hD]
  have HBD : Hid (∀ i, i < 32 → (w.alloc (.cells D 23)).cell? ⟨w.heap.size, i, none⟩ = some (.int .u8 ((d.getD i 0).toNat : Int))) := Lib.hid (fun i hi => by
    rw [cell_of_row _ _ _ _ _ _ (heap_alloc_new w _), hD, toArray_get]; exact bvals_get _ _ (by omega))
  clear hD
  go_enter Tryd.func23, Tryd.ntmps23
  go_wp2_with fail
  have hdg : (⟨#[48, 49, 50, 51, 52, 53, 54, 55, 56, 57, 97, 98, 99, 100, 101, 102]⟩ : ByteArray) = dgS := rfl
  rw [hdg]
  clear hdg
  have HDG : Hid (∀ (n : Nat), n < 16 → ∀ wx : World, (Instr.sliceAt 9 (.string dgS) (some (.int .u8 (n : Int))) (some (.int .u8 ((n : Int) + 1))) none).run Tryd.prog wx = .ok (.string ⟨#[hexd n]⟩) wx) := Lib.hid slice_dg
  generalize dgS = G at *
  go_loopw [4, 5] (fun s i wr => ∃ k : Nat, k ≤ 32 ∧ i = .int .i64 k ∧ s = .string ⟨(hexText (d.take k)).toArray⟩ ∧ Fr0 (w.alloc (.cells D 23)) wr) (fun _ i _ => 32 - (intOf i).toNat)
  case atStart => exact ⟨0, by omega, rfl, rfl, Fr.refl _ _⟩
  case round =>
    obtain ⟨k, hk, rfl, rfl, hF⟩ := hrel
    have HF := Lib.hid hF
    clear hF
    by_cases hlt : k < 32
    · have cc : wr.cell? ⟨w.heap.size, k, none⟩ = some (.int .u8 ((d.getD k 0).toNat : Int)) := (HF.out.cell (p := ⟨w.heap.size, k, none⟩) (by simp) (fun f => f)).trans (HBD.out k hlt)
      have hnx := hexText_next d k (by omega)
      have HNX : Hid ((⟨(hexText (d.take k)).toArray⟩ : ByteArray) ++ ⟨#[hexd ((d.getD k 0).toNat / 16)]⟩ ++ ⟨#[hexd ((d.getD k 0).toNat % 16)]⟩ = ⟨(hexText (d.take (k + 1))).toArray⟩) := Lib.hid (by
        rw [← hnx]
        have e1 : (⟨#[hexd ((d.getD k 0).toNat / 16)]⟩ : ByteArray) = ⟨[hexd ((d.getD k 0).toNat / 16)].toArray⟩ := rfl
        have e2 : (⟨#[hexd ((d.getD k 0).toNat % 16)]⟩ : ByteArray) = ⟨[hexd ((d.getD k 0).toNat % 16)].toArray⟩ := rfl
        rw [e1, e2, cat_bytes, cat_bytes, List.append_assoc]
        rfl)
      have hx := (d.getD k 0).toNat_lt
      clear hnx
      generalize (d.getD k 0).toNat = x at *
      have s1 := HDG.out (x / 16) (by omega)
      have s2 := HDG.out (x % 16) (by omega)
      have e1 : ((x / 16 : Nat) : Int) = (x : Int) / 16 := by omega
      have e2 : ((x % 16 : Nat) : Int) = (x : Int) % 16 := by omega
      rw [e1] at s1
      rw [e2] at s2
      have hT0 : (⟨(hexText (d.take k)).toArray⟩ : ByteArray).size ≤ 64 := by rw [size_str, hexText_length, List.length_take]; omega
      generalize (⟨(hexText (d.take k)).toArray⟩ : ByteArray) = T0 at *
      clear e1 e2
      go_wp2_with fail
      refine region_held (Fr0 wr) (by kernel_rfl) (by kernel_rfl) ((Fr.refl _ _).drew) ?_
      refine heldVal (.string T0) rfl (fun wx h => by first | (go_simp; done) | (go_simp; omega) | (go_simp; rw [IntKind.wrap_u8']; omega) | (go_simp; exact Int.tmod_eq_emod_of_nonneg (by omega))) ?_
      go_frame
      refine heldVal (.string G) rfl (fun wx h => by first | (go_simp; done) | (go_simp; omega) | (go_simp; rw [IntKind.wrap_u8']; omega) | (go_simp; exact Int.tmod_eq_emod_of_nonneg (by omega))) ?_
      go_frame
      refine heldVal (.int .i64 (k : Int)) rfl (fun wx h => by first | (go_simp; done) | (go_simp; omega) | (go_simp; rw [IntKind.wrap_u8']; omega) | (go_simp; exact Int.tmod_eq_emod_of_nonneg (by omega))) ?_
      go_frame
      refine heldVal (.pointer (some ⟨w.heap.size, k, none⟩)) rfl (fun wx h => by first | (go_simp; done) | (go_simp; omega) | (go_simp; rw [IntKind.wrap_u8']; omega) | (go_simp; exact Int.tmod_eq_emod_of_nonneg (by omega))) ?_
      go_frame
      refine heldVal (.int .u8 (x : Int)) rfl (fun wx h => by have cx : wx.cell? ⟨w.heap.size, k, none⟩ = some (.int .u8 (x : Int)) := (h.cell (p := ⟨w.heap.size, k, none⟩) (World.block_lt_of_cell? wr _ cc) (fun f => f)).trans cc; first | (go_simp; done) | (go_simp; omega) | (go_simp; rw [IntKind.wrap_u8']; omega) | (go_simp; exact Int.tmod_eq_emod_of_nonneg (by omega))) ?_
      go_frame
      refine heldVal (.int .u8 ((x : Int) / 16)) rfl (fun wx h => by first | (go_simp; done) | (go_simp; omega) | (go_simp; rw [IntKind.wrap_u8']; omega) | (go_simp; exact Int.tmod_eq_emod_of_nonneg (by omega))) ?_
      go_frame
      refine heldVal (.int .i64 (k : Int)) rfl (fun wx h => by first | (go_simp; done) | (go_simp; omega) | (go_simp; rw [IntKind.wrap_u8']; omega) | (go_simp; exact Int.tmod_eq_emod_of_nonneg (by omega))) ?_
      go_frame
      refine heldVal (.pointer (some ⟨w.heap.size, k, none⟩)) rfl (fun wx h => by first | (go_simp; done) | (go_simp; omega) | (go_simp; rw [IntKind.wrap_u8']; omega) | (go_simp; exact Int.tmod_eq_emod_of_nonneg (by omega))) ?_
      go_frame
      refine heldVal (.int .u8 (x : Int)) rfl (fun wx h => by have cx : wx.cell? ⟨w.heap.size, k, none⟩ = some (.int .u8 (x : Int)) := (h.cell (p := ⟨w.heap.size, k, none⟩) (World.block_lt_of_cell? wr _ cc) (fun f => f)).trans cc; first | (go_simp; done) | (go_simp; omega) | (go_simp; rw [IntKind.wrap_u8']; omega) | (go_simp; exact Int.tmod_eq_emod_of_nonneg (by omega))) ?_
      go_frame
      refine heldVal (.int .u8 ((x : Int) / 16)) rfl (fun wx h => by first | (go_simp; done) | (go_simp; omega) | (go_simp; rw [IntKind.wrap_u8']; omega) | (go_simp; exact Int.tmod_eq_emod_of_nonneg (by omega))) ?_
      go_frame
      refine heldVal (.int .u8 ((x : Int) / 16 + 1)) rfl (fun wx h => by first | (go_simp; done) | (go_simp; omega) | (go_simp; rw [IntKind.wrap_u8']; omega) | (go_simp; exact Int.tmod_eq_emod_of_nonneg (by omega))) ?_
      go_frame
      refine heldVal (.string ⟨#[hexd (x / 16)]⟩) rfl (fun wx h => by have s1x := s1 wx; first | (go_simp; done) | (go_simp; omega) | (go_simp; rw [IntKind.wrap_u8']; omega) | (go_simp; exact Int.tmod_eq_emod_of_nonneg (by omega))) ?_
      go_frame
      refine heldVal (.string (T0 ++ ⟨#[hexd (x / 16)]⟩)) rfl (fun wx h => by first | (go_simp; done) | (go_simp; omega) | (go_simp; rw [IntKind.wrap_u8']; omega) | (go_simp; exact Int.tmod_eq_emod_of_nonneg (by omega))) ?_
      go_frame
      refine heldVal (.string G) rfl (fun wx h => by first | (go_simp; done) | (go_simp; omega) | (go_simp; rw [IntKind.wrap_u8']; omega) | (go_simp; exact Int.tmod_eq_emod_of_nonneg (by omega))) ?_
      go_frame
      refine heldVal (.int .i64 (k : Int)) rfl (fun wx h => by first | (go_simp; done) | (go_simp; omega) | (go_simp; rw [IntKind.wrap_u8']; omega) | (go_simp; exact Int.tmod_eq_emod_of_nonneg (by omega))) ?_
      go_frame
      refine heldVal (.pointer (some ⟨w.heap.size, k, none⟩)) rfl (fun wx h => by first | (go_simp; done) | (go_simp; omega) | (go_simp; rw [IntKind.wrap_u8']; omega) | (go_simp; exact Int.tmod_eq_emod_of_nonneg (by omega))) ?_
      go_frame
      refine heldVal (.int .u8 (x : Int)) rfl (fun wx h => by have cx : wx.cell? ⟨w.heap.size, k, none⟩ = some (.int .u8 (x : Int)) := (h.cell (p := ⟨w.heap.size, k, none⟩) (World.block_lt_of_cell? wr _ cc) (fun f => f)).trans cc; first | (go_simp; done) | (go_simp; omega) | (go_simp; rw [IntKind.wrap_u8']; omega) | (go_simp; exact Int.tmod_eq_emod_of_nonneg (by omega))) ?_
      go_frame
      refine heldVal (.int .u8 ((x : Int) % 16)) rfl (fun wx h => by first | (go_simp; done) | (go_simp; omega) | (go_simp; rw [IntKind.wrap_u8']; omega) | (go_simp; exact Int.tmod_eq_emod_of_nonneg (by omega))) ?_
      go_frame
      refine heldVal (.int .i64 (k : Int)) rfl (fun wx h => by first | (go_simp; done) | (go_simp; omega) | (go_simp; rw [IntKind.wrap_u8']; omega) | (go_simp; exact Int.tmod_eq_emod_of_nonneg (by omega))) ?_
      go_frame
      refine heldVal (.pointer (some ⟨w.heap.size, k, none⟩)) rfl (fun wx h => by first | (go_simp; done) | (go_simp; omega) | (go_simp; rw [IntKind.wrap_u8']; omega) | (go_simp; exact Int.tmod_eq_emod_of_nonneg (by omega))) ?_
      go_frame
      refine heldVal (.int .u8 (x : Int)) rfl (fun wx h => by have cx : wx.cell? ⟨w.heap.size, k, none⟩ = some (.int .u8 (x : Int)) := (h.cell (p := ⟨w.heap.size, k, none⟩) (World.block_lt_of_cell? wr _ cc) (fun f => f)).trans cc; first | (go_simp; done) | (go_simp; omega) | (go_simp; rw [IntKind.wrap_u8']; omega) | (go_simp; exact Int.tmod_eq_emod_of_nonneg (by omega))) ?_
      go_frame
      refine heldVal (.int .u8 ((x : Int) % 16)) rfl (fun wx h => by first | (go_simp; done) | (go_simp; omega) | (go_simp; rw [IntKind.wrap_u8']; omega) | (go_simp; exact Int.tmod_eq_emod_of_nonneg (by omega))) ?_
      go_frame
      refine heldVal (.int .u8 ((x : Int) % 16 + 1)) rfl (fun wx h => by first | (go_simp; done) | (go_simp; omega) | (go_simp; rw [IntKind.wrap_u8']; omega) | (go_simp; exact Int.tmod_eq_emod_of_nonneg (by omega))) ?_
      go_frame
      refine heldVal (.string ⟨#[hexd (x % 16)]⟩) rfl (fun wx h => by have s2x := s2 wx; first | (go_simp; done) | (go_simp; omega) | (go_simp; rw [IntKind.wrap_u8']; omega) | (go_simp; exact Int.tmod_eq_emod_of_nonneg (by omega))) ?_
      go_frame
      refine heldVal (.string (T0 ++ ⟨#[hexd (x / 16)]⟩ ++ ⟨#[hexd (x % 16)]⟩)) rfl (fun wx h => by first | (go_simp; done) | (go_simp; omega) | (go_simp; rw [IntKind.wrap_u8']; omega) | (go_simp; exact Int.tmod_eq_emod_of_nonneg (by omega))) ?_
      go_frame
      refine heldVal (.string (T0 ++ ⟨#[hexd (x / 16)]⟩ ++ ⟨#[hexd (x % 16)]⟩)) rfl (fun wx h => by first | (go_simp; done) | (go_simp; omega) | (go_simp; rw [IntKind.wrap_u8']; omega) | (go_simp; exact Int.tmod_eq_emod_of_nonneg (by omega))) ?_
      go_frame
      refine wpQuiet_nil ?_
      intro w2 hw2
      go_wp2
      go_roundw
      case rel => exact ⟨k + 1, by omega, by go_num, by rw [← HNX.out], HF.out.trans' hw2⟩
      case measure => simp only [intOf]; omega
    · have hk' : k = 32 := by omega
      have HK' := Lib.hid hk'
      clear hk'
      go_wp2
      go_ret
      exact ⟨by rw [HK'.out, List.take_of_length_le (by omega)]; rfl, Fr.trans' (Fr.alloc (Fr.refl _ _) _) HF.out⟩
end Go.Proofs.YtcdfflieooopjaaDoor.Sha
