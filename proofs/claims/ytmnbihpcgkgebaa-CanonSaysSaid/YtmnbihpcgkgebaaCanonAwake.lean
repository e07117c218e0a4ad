/-
  What the laws share: awake.
-/
import Derived.Test.YtmnbihpcgkgebaaCanonKey
namespace Go.Proofs.Ytmnbihpcgkgebaa.Canon
open Go.RowKit Base Pack _root_.Go.Proofs.Ytmnbihpcgkgebaa.Ask

def q53 : Rq := ⟨2, [97], [], 5, 3, 1⟩
def q92 : Rq := ⟨2, [97], [], 9, 2, 1⟩
theorem q53_of : ofOut q53 = ⟨2, [97], [], 1, 0, 1⟩ ∧ ofErr q53 = 0 := by
  have h : isQ q53 = true := by decide
  rw [(ofOut_isQ h).1, (ofOut_isQ h).2.1]
  exact ⟨rfl, rfl⟩
theorem q53_q92 : sameK q53 q92 = true := by decide +kernel
set_option maxRecDepth 100000 in
set_option maxHeartbeats 4000000 in
theorem awake_any (w : World) : Calls Try.prog 6 #[] w fun e w' => e = .returned (.bool true) ∧ Fr0 w w' := by
  have hz0 := heap_alloc_new w (.cells #[.int .i64 0, .string ⟨#[]⟩, .slice none 0 0, .int .i64 0, .int .i64 0, .int .i64 0] 27)
  have hz1 := heap_alloc_new (w.alloc (.cells #[.int .i64 0, .string ⟨#[]⟩, .slice none 0 0, .int .i64 0, .int .i64 0, .int .i64 0] 27)) (.cells #[.int .i64 0, .string ⟨#[]⟩, .slice none 0 0, .int .i64 0, .int .i64 0, .int .i64 0] 27)
  rw [show (w.alloc (.cells #[.int .i64 0, .string ⟨#[]⟩, .slice none 0 0, .int .i64 0, .int .i64 0, .int .i64 0] 27)).heap.size = w.heap.size + 1 by simp] at hz1
  have hz0 := ((Fr.refl (fun _ => False) (w.alloc (.cells #[.int .i64 0, .string ⟨#[]⟩, .slice none 0 0, .int .i64 0, .int .i64 0, .int .i64 0] 27))).alloc (.cells #[.int .i64 0, .string ⟨#[]⟩, .slice none 0 0, .int .i64 0, .int .i64 0, .int .i64 0] 27)).heap hz0 (fun f => f)
  obtain ⟨W0, hW0⟩ : ∃ W0, W0 = (w.alloc (.cells #[.int .i64 0, .string ⟨#[]⟩, .slice none 0 0, .int .i64 0, .int .i64 0, .int .i64 0] 27)).alloc (.cells #[.int .i64 0, .string ⟨#[]⟩, .slice none 0 0, .int .i64 0, .int .i64 0, .int .i64 0] 27) := ⟨_, rfl⟩
  rw [← hW0] at hz0 hz1
  obtain ⟨W1, hW1⟩ : ∃ W1, W1 = W0.setRow w.heap.size #[.int .i64 2, .string ⟨#[97]⟩, .slice none 0 0, .int .i64 5, .int .i64 3, .int .i64 1] := ⟨_, rfl⟩
  have hf1 : Fr (fun j => j = w.heap.size) W0 W1 := by rw [hW1]; exact Fr.setRow (S := fun j => j = w.heap.size) (Fr.refl _ _) (fun _ => rfl) _
  have ha1 := setRow_heap _ w.heap.size _ #[.int .i64 2, .string ⟨#[97]⟩, .slice none 0 0, .int .i64 5, .int .i64 3, .int .i64 1] _ _ hz0
  have hy1 := hf1.heap hz1 (fun e => by have e' : w.heap.size + 1 = w.heap.size := e; omega)
  rw [← hW1] at ha1
  obtain ⟨W2, hW2⟩ : ∃ W2, W2 = W1.setRow (w.heap.size + 1) #[.int .i64 2, .string ⟨#[97]⟩, .slice none 0 0, .int .i64 9, .int .i64 2, .int .i64 1] := ⟨_, rfl⟩
  have hf2 : Fr (fun j => j = w.heap.size + 1) W1 W2 := by rw [hW2]; exact Fr.setRow (S := fun j => j = w.heap.size + 1) (Fr.refl _ _) (fun _ => rfl) _
  have hb2 := setRow_heap _ (w.heap.size + 1) _ #[.int .i64 2, .string ⟨#[97]⟩, .slice none 0 0, .int .i64 9, .int .i64 2, .int .i64 1] _ _ hy1
  have ha2 := hf2.heap ha1 (fun e => by have e' : w.heap.size = w.heap.size + 1 := e; omega)
  rw [← hW2] at hb2
  have hf0 : Fr0 w W0 := by rw [hW0]; exact ((Fr.refl _ _).alloc _).alloc _
  have hfe : Fr0 w W2 := (hf0.trans hf1 (fun j hj e => by have e' : j = w.heap.size := e; omega)).trans hf2 (fun j hj e => by have e' : j = w.heap.size + 1 := e; omega)
  have HZ0 := Lib.hid hz0
  have HZ1 := Lib.hid hy1
  have HW0 := Lib.hid hW0
  have HW1 := Lib.hid hW1
  have HW2 := Lib.hid hW2
  have HA2 := Lib.hid ha2
  have HB2 := Lib.hid hb2
  have HF2 := Lib.hid hfe
  have hof := of_any none 0 q53 (by decide) W2
  rw [q53_of.1, q53_of.2] at hof
  have HSM := Lib.hid (fun w => same_go none none 0 0 q53 q92 (by decide) (by decide) w)
  have hz0' := hz0
  rw [hW0] at hz0'
  have HZ0S := Lib.hid hz0'
  clear hz0 hz1 hy1 ha1 hb2 ha2 hf0 hf1 hf2 hfe hW0 hW1 hW2 hz0'
  go_enter Try.func6, Try.ntmps6
  go_wp2_with (first | (refine wpList_store_row rfl 27 _ _ rfl w.heap.size #[.int .i64 2, .string ⟨#[97]⟩, .slice none 0 0, .int .i64 5, .int .i64 3, .int .i64 1] rfl rfl 27 _ HZ0S.out infoQ rfl (ask_one _ _ _ _ _ _ rfl) ?_; rw [← HW0.out, ← HW1.out]) | (refine wpList_store_row rfl 27 _ _ rfl (w.heap.size + 1) #[.int .i64 2, .string ⟨#[97]⟩, .slice none 0 0, .int .i64 9, .int .i64 2, .int .i64 1] rfl rfl 27 _ HZ1.out infoQ rfl (ask_one _ _ _ _ _ _ rfl) ?_; rw [← HW2.out]) | (refine wpList_load_row rfl 27 _ rfl (w.heap.size) rfl 27 _ (0, 0) _ HA2.out Try.underlying27 rfl (by kernel_rfl) ?_))
  refine hof.mono ?_
  clear hof
  rintro e W3 ⟨rfl, hF3⟩
  have HF3 := Lib.hid (HF2.out.trans' hF3)
  have HA3 := Lib.hid (hF3.heap HA2.out (fun f => f))
  have HB3 := Lib.hid (hF3.heap HB2.out (fun f => f))
  clear hF3
  have hg4 := heap_alloc_new W3 (.cells #[.int .i64 0, .string ⟨#[]⟩, .slice none 0 0, .int .i64 0, .int .i64 0, .int .i64 0] 27)
  obtain ⟨W4, hW4⟩ : ∃ W', W' = (W3.alloc (.cells #[.int .i64 0, .string ⟨#[]⟩, .slice none 0 0, .int .i64 0, .int .i64 0, .int .i64 0] 27)).setRow W3.heap.size #[.int .i64 2, .string ⟨#[97]⟩, .slice none 0 0, .int .i64 1, .int .i64 0, .int .i64 1] := ⟨_, rfl⟩
  have hr4 := setRow_heap _ W3.heap.size _ #[.int .i64 2, .string ⟨#[97]⟩, .slice none 0 0, .int .i64 1, .int .i64 0, .int .i64 1] _ _ hg4
  rw [← hW4] at hr4
  have hf4 : Fr0 W3 W4 := by rw [hW4]; exact Fr.setRow ((Fr.refl _ _).alloc _) (fun h => absurd h (Nat.lt_irrefl _)) _
  have HR4 := Lib.hid hr4
  have HW4 := Lib.hid hW4
  have HG4 := Lib.hid hg4
  have HA4 := Lib.hid (hf4.heap HA3.out (fun f => f))
  have HB4 := Lib.hid (hf4.heap HB3.out (fun f => f))
  have HF4 := Lib.hid (HF3.out.trans' hf4)
  have hs4 : W3.heap.size < W4.heap.size := by rw [hW4]; simp
  clear hg4 hW4 hr4 hf4
  have hsm := HSM.out W4
  rw [q53_q92] at hsm
  go_wp2_with (first | (refine wpList_store_row rfl 27 _ _ rfl W3.heap.size #[.int .i64 2, .string ⟨#[97]⟩, .slice none 0 0, .int .i64 1, .int .i64 0, .int .i64 1] rfl rfl 27 _ HG4.out infoQ rfl (ask_one _ _ _ _ _ _ rfl) ?_; rw [← HW4.out]) | (refine wpList_load_row rfl 27 _ rfl (w.heap.size) rfl 27 _ (0, 0) _ HA4.out Try.underlying27 rfl (by kernel_rfl) ?_) | (refine wpList_load_row rfl 27 _ rfl (w.heap.size + 1) rfl 27 _ (0, 0) _ HB4.out Try.underlying27 rfl (by kernel_rfl) ?_))
  refine hsm.mono ?_
  clear hsm
  rintro e W5 ⟨rfl, hF5⟩
  have HF5 := Lib.hid (HF4.out.trans' hF5)
  have hb := BoxQ.of_heap (a := ⟨2, [97], [], 1, 0, 1⟩) (sv := .slice none 0 0) (hF5.heap HR4.out (fun f => f))
  have c3 := hb.cells.2.2.2.1
  have c4 := hb.cells.2.2.2.2.1
  clear hb hF5
  go_wp2
  go_ret
  exact ⟨rfl, HF5.out⟩
end Go.Proofs.Ytmnbihpcgkgebaa.Canon
