/-
  What the laws share: awake.
-/
import Derived.Test.YtjefddliebokaaaReplyGo
import Derived.Test.YtjefddliebokaaaReplyOwn
namespace Go.Proofs.Ytjefddliebokaaa.ReplyL
open Go.RowKit Base Pack _root_.Go.Proofs.Ytjefddliebokaaa.Reply

theorem infoP : (Try.prog.info? 27).map (·.size) = some 4 := by kernel_rfl
theorem pput_good {r : Rp} (hg : good r = true) (A : Option Addr) (C : Nat) (hs : r.slot < 4294967296) (w : World) (hB : BytesIs w (.slice A r.body.length C) r.body) :
    Calls Try.prog 10 #[.agg (rp4 (.slice A r.body.length C) r)] w fun e w' => ∃ A' C', e = .returned (.tuple #[.slice A' (putB r).length C', .int .i64 0]) ∧ BytesIs w' (.slice A' (putB r).length C') (putB r) ∧ Fr0 w w' := by
  have hl := ((good_iff r).1 hg).2.1
  refine (pput_any A C r hs (by omega) w hB).mono ?_
  rintro e w' ⟨v, rfl, hB', hF⟩
  rw [(putOut_ok hg).1]
  rw [(putOut_ok hg).2] at hB'
  obtain ⟨A', C', rfl⟩ := hB'.form
  exact ⟨A', C', rfl, hB', hF⟩
theorem pput_bad {r : Rp} (hg : good r = false) (A : Option Addr) (C : Nat) (hs : r.slot < 4294967296) (hn : r.body.length ≤ 9223372036854775807) (w : World) (hB : BytesIs w (.slice A r.body.length C) r.body) :
    Calls Try.prog 10 #[.agg (rp4 (.slice A r.body.length C) r)] w fun e w' => ∃ A' C', e = .returned (.tuple #[.slice A' 0 C', .int .i64 1]) ∧ BytesIs w' (.slice A' 0 C') [] ∧ Fr0 w w' := by
  refine (pput_any A C r hs hn w hB).mono ?_
  rintro e w' ⟨v, rfl, hB', hF⟩
  rw [(putOut_no hg).1]
  rw [(putOut_no hg).2] at hB'
  obtain ⟨A', C', rfl⟩ := hB'.form
  exact ⟨A', C', rfl, hB', hF⟩
theorem pget_put {r : Rp} (y : List UInt8) (hg : good r = true) (hs : r.slot < 4294967296) (hy : y.length ≤ 1000000) (v : Value) (w : World) (hB : BytesIs w v (putB r ++ y)) :
    Calls Try.prog 13 #[v] w fun e w' => ∃ A C, e = .returned (.tuple #[.agg (rp4 (.slice A r.body.length C) r), .int .i64 ((putB r).length : Int), .int .i64 0]) ∧ BytesIs w' (.slice A r.body.length C) r.body ∧ Fr0 w w' := by
  have hl := ((good_iff r).1 hg).2.1
  have hpl := putB_length r
  have h := pget_any v (putB r ++ y) (by rw [List.length_append]; omega) w hB
  unfold GetPost at h
  rw [get_put r y hg hs] at h
  refine h.mono ?_
  rintro e w' ⟨A, C, rfl, h1, _, h3⟩
  exact ⟨A, C, rfl, h1, h3⟩
def busy1 : Rp := ⟨3, false, 1, []⟩
theorem busy1_good : good busy1 = true := by decide
theorem busy1_len : (putB busy1).length = 8 := by rw [putB_length]; rfl
set_option maxRecDepth 100000 in
set_option maxHeartbeats 4000000 in
theorem awake_any (w : World) : Calls Try.prog 9 #[] w fun e w' => e = .returned (.bool true) ∧ Fr0 w w' := by
  have hput := pput_good busy1_good none 0 (by decide) w (BytesIs.nil w)
  rw [busy1_len] at hput
  have HGET := Lib.hid (fun v w hB => pget_put (r := busy1) [] busy1_good (by decide) (by decide) v w hB)
  have HNB := Lib.hid (fun w => nobody_any w)
  go_enter Try.func9, Try.ntmps9
  go_wp2_with fail
  refine hput.mono ?_
  clear hput
  rintro e W1 ⟨A1, C1, rfl, hB1, hF1⟩
  have hget := HGET.out _ W1 (by rw [List.append_nil]; exact hB1)
  rw [busy1_len] at hget
  have HF1 := Lib.hid hF1
  clear hB1 hF1 HGET
  go_wp2_with fail
  refine hget.mono ?_
  clear hget
  rintro e W2 ⟨A2, C2, rfl, _, hF2⟩
  have HF2 := Lib.hid (HF1.out.trans' hF2)
  have hg3 := heap_alloc_new W2 (.cells #[.int .i64 0, .bool false, .int .u32 0, .slice none 0 0] 27)
  obtain ⟨W3, hW3⟩ : ∃ W', W' = (W2.alloc (.cells #[.int .i64 0, .bool false, .int .u32 0, .slice none 0 0] 27)).setRow W2.heap.size #[.int .i64 3, .bool false, .int .u32 1, .slice A2 0 C2] := ⟨_, rfl⟩
  have hr3 := setRow_heap _ W2.heap.size _ #[.int .i64 3, .bool false, .int .u32 1, .slice A2 0 C2] _ _ hg3
  rw [← hW3] at hr3
  have hf3 : Fr0 W2 W3 := by rw [hW3]; exact Fr.setRow ((Fr.refl _ _).alloc _) (fun h => absurd h (Nat.lt_irrefl _)) _
  have hbx : Bx 27 W3 W2.heap.size (.slice A2 0 C2) busy1 := .of_heap hr3
  have c0 : W3.cell? ⟨W2.heap.size, 0, none⟩ = some (.int .i64 3) := hbx.cells.1
  have c2 : W3.cell? ⟨W2.heap.size, 2, none⟩ = some (.int .u32 1) := hbx.cells.2.2.1
  have HF3 := Lib.hid (HF2.out.trans' hf3)
  have HW3 := Lib.hid hW3
  have HG3 := Lib.hid hg3
  clear hg3 hW3 hr3 hf3 hbx hF2
  go_wp2_with (refine wpList_store_row rfl 27 _ _ rfl W2.heap.size #[.int .i64 3, .bool false, .int .u32 1, .slice A2 0 C2] rfl rfl 27 _ HG3.out infoP rfl (rp4_one (.slice A2 0 C2) busy1 rfl) ?_; rw [← HW3.out])
  refine (HNB.out W3).mono ?_
  clear HNB
  rintro e W4 ⟨v4, rfl, hB4, hF4⟩
  have HF4 := Lib.hid (HF3.out.trans' hF4)
  have hc4 := hB4.convert (P := Try.prog) 25 9 5 Try.underlying25 Try.underlying5 Try.underlying9
  obtain ⟨A4, C4, rfl⟩ := hB4.form
  have hcv : (convert 25 9 (.slice A4 1 C4)).run Try.prog W4 = .ok (.string ⟨#[255]⟩) W4 := hc4
  clear hB4 hF4 hc4
  go_wp2
  go_ret
  exact ⟨rfl, HF4.out⟩
end Go.Proofs.Ytjefddliebokaaa.ReplyL
