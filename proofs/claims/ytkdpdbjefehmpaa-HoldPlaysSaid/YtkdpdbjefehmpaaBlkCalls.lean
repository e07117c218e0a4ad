/-
  The walks of blocks' calls: New, those, Free, All, List, Need.
-/
import Derived.Test.YtkdpdbjefehmpaaProg
import Derived.Test.YtkdpdbjefehmpaaBlkSpec
import Derived.BigQuiet
import Derived.OwnWalk
import Derived.Lib.SliceRun
import Derived.Deep.LoopGhost
namespace Go.Proofs.Ytkdpdbjefehmpaa.Blocks
open Go.RowKit Base Arena

abbrev BlkP (w : World) (B g ob : Nat) (O : List Bool) : Prop := BlkAt w B 95 4 g ob O
theorem infoI : (Try.prog.info? 3).map (fun i => (i.zero, i.size, i.bytes)) = some (some (.int .i64 0), 1, 8) := by kernel_rfl
theorem infoB : (Try.prog.info? 4).map (fun i => (i.zero, i.size, i.bytes)) = some (some (.bool false), 1, 1) := by kernel_rfl
theorem make_bools (n : Nat) (hn : n ≤ 1000000) (x : Int) (hx : x = (n : Int)) (w : World) : (Instr.makeSlice 91 (.int .i64 x) (.int .i64 x)).run Try.prog w = .ok (.slice (some ⟨w.heap.size, 0, none⟩) n n) (w.alloc (.cells (madeCells #[.bool false] n) 4)) := by
  subst hx
  exact run_make_row' (P := Try.prog) 91 4 (.bool false) 1 Try.underlying91 infoB rfl .i64 .i64 n (by omega) (by omega) w
theorem one_int (w : World) (x : Int) (t : TypeId) (N : Nat) (hN : N = w.heap.size) : ValsIs (w.alloc (.cells #[.int .i64 x] t)) (.slice (some ⟨N, 0, none⟩) 1 1) 1 [.int .i64 x] := by
  subst hN
  refine ⟨_, 1, w.heap.size, 0, rfl, Nat.le_refl _, fun _ => rfl, fun j hj => ?_⟩
  obtain rfl : j = 0 := by simpa using hj
  rw [cell_of_row _ _ _ _ _ _ (heap_alloc_new w _)]
  rfl
def RowPost (l : List Nat) (w : World) (e : Ending) (w' : World) : Prop := ∃ v, e = .returned v ∧ w'.ownsRow w.heap.size 3 1 v l.length (nvals l) ∧ Fr0 w w'
def NewPost (n : Nat) (w : World) (e : Ending) (w' : World) : Prop := ∃ g ob, e = .returned (.pointer (some ⟨g, 0, none⟩)) ∧ BlkP w' w.heap.size g ob (List.replicate n false) ∧ Fr0 w w'
set_option maxHeartbeats 4000000 in
theorem new_any (bytes : Int) (hb : -9223372036854775808 ≤ bytes ∧ bytes ≤ 9223372036854775807) (w : World) :
    Calls Try.prog 27 #[.int .i64 bytes] w (NewPost (whole bytes) w) := by
  have HW := Lib.hid (whole_le bytes)
  have HE : Hid (∀ n, n = whole bytes → BlkP ((w.alloc (.cells (madeCells #[.bool false] n) 4)).alloc (.cells #[.slice (some ⟨w.heap.size, 0, none⟩) n n] 95)) w.heap.size (w.heap.size + 1) w.heap.size (List.replicate (whole bytes) false) ∧ Fr0 w ((w.alloc (.cells (madeCells #[.bool false] n) 4)).alloc (.cells #[.slice (some ⟨w.heap.size, 0, none⟩) n n] 95))) :=
    Lib.hid (fun n hn => by subst hn; exact ⟨blk_new w _ _ _ HW.out _ _ rfl rfl, ((Fr.refl _ _).alloc _).alloc _⟩)
  by_cases h0 : bytes < 0
  · have HN : Hid (whole bytes = 0) := Lib.hid (by unfold whole; omega)
    have hmk := fun wx : World => make_bools 0 (by omega) 0 rfl wx
    go_enter Try.func27, Try.ntmps27
    go_wp2
    go_ret
    exact ⟨_, _, rfl, HE.out 0 HN.out.symm⟩
  · by_cases h1 : 65536 < bytes
    · have HN : Hid (whole bytes = 2048) := Lib.hid (by unfold whole; omega)
      have hmk := fun wx : World => make_bools 2048 (by omega) 2048 rfl wx
      go_enter Try.func27, Try.ntmps27
      go_wp2
      go_ret
      exact ⟨_, _, rfl, HE.out 2048 HN.out.symm⟩
    · have HN : Hid (bytes / 32 = (whole bytes : Nat)) := Lib.hid (by unfold whole; omega)
      have hmk := fun wx : World => make_bools (whole bytes) (by have := HW.out; omega) (bytes / 32) HN.out wx
      go_enter Try.func27, Try.ntmps27
      go_wp2
      go_ret
      exact ⟨_, _, rfl, HE.out _ rfl⟩
set_option maxHeartbeats 4000000 in
theorem those_any (B g ob : Nat) (O : List Bool) (b : Bool) (w : World) (h : BlkP w B g ob O) :
    Calls Try.prog 45 #[.pointer (some ⟨g, 0, none⟩), .bool b] w (RowPost (those b O O.length) w) := by
  obtain ⟨C, hC, c0⟩ := h.cell0
  have HB := Lib.hid h
  have hlen := h.len
  clear h
  go_enter Try.func45, Try.ntmps45
  go_wp2
  go_loopg [5, 13] O.length (fun kx v i wr => ∃ k : Nat, i = .int .i64 k ∧ k ≤ O.length ∧ O.length - k ≤ kx ∧ Hid (wr.ownsRow w.heap.size 3 1 v (those b O k).length (nvals (those b O k))) ∧ Hid (Fr0 w wr))
  case atStart => exact ⟨0, rfl, Nat.zero_le _, by omega, Lib.hid (World.ownsRow_nil w _ _ _), Lib.hid (Fr.refl _ _)⟩
  case round =>
    obtain ⟨k, rfl, hk, hg, HO, HF⟩ := hrel
    by_cases hlt : k < O.length
    · have d0 := (HB.out.fr0 HF.out).cell k hlt
      have hkl := those_length b O k
      have hws := HF.out.size
      by_cases hx : O.getD k false = b
      · have HT := Lib.hid (those_in hx)
        have hbb : (O.getD k false == b) = true := by rw [hx]; exact beq_self_eq_true b
        generalize O.getD k false = x at *
        clear hx
        have HSA := Lib.hid ((Fr.refl (fun _ => False) wr).alloc (.cells #[.int .i64 (k : Int)] 3))
        go_wp2_with (refine wpList_append_vals rfl (.tmp 21) (.tmp 23) 38 rfl w.heap.size 3 Try.underlying38 (.int .i64 0) 1 8 infoI rfl (by decide) _ _ (those b O k).length 1 (nvals (those b O k)) [.int .i64 (k : Int)] rfl rfl (HO.out.alloc _) (one_int wr _ _ _ rfl) rfl (by intro u hu; simp at hu; subst hu; rfl) (by unfold maxLen; omega) (by omega) (Nat.le_trans hws HSA.out.size) ?_; intro v2 w2 hO2 hG2)
        have HO2 : Hid (w2.ownsRow w.heap.size 3 1 v2 (those b O (k + 1)).length (nvals (those b O (k + 1)))) := Lib.hid (by rw [HT.out, nvals_snoc, List.length_append]; exact hO2)
        have HF2 : Hid (Fr0 w w2) := Lib.hid ((HF.out.trans' HSA.out).grown hG2 (fun q hq e => by have := HO.out.lt q e; omega))
        clear hO2 hG2 HSA HO
        go_wp2
        go_roundg (O.length - (k + 1))
        case measure => omega
        case rel => exact ⟨k + 1, by simp, by omega, by omega, HO2, HF2⟩
      · have HT := Lib.hid (those_out hx)
        have hbb : (O.getD k false == b) = false := by rw [beq_eq_false_iff_ne]; exact hx
        generalize O.getD k false = x at *
        clear hx
        go_wp2
        go_roundg (O.length - (k + 1))
        case measure => omega
        case rel => exact ⟨k + 1, by simp, by omega, by omega, by rw [HT.out]; exact HO, HF⟩
    · obtain rfl : k = O.length := by omega
      go_wp2
      go_ret
      exact ⟨_, rfl, HO.out, HF.out⟩
set_option maxHeartbeats 1000000 in
theorem free_any (B g ob : Nat) (O : List Bool) (w : World) (h : BlkP w B g ob O) :
    Calls Try.prog 37 #[.pointer (some ⟨g, 0, none⟩)] w fun e w' => e = .returned (.int .i64 ((frees O).length : Int)) ∧ Fr0 w w' := by
  have hr : Calls _ _ _ w (RowPost (frees O) w) := those_any B g ob O false w h
  have hl := frees_length O
  have hlen := h.len
  clear h
  go_enter Try.func37, Try.ntmps37
  go_wp2_with fail
  refine hr.mono ?_
  rintro e w1 ⟨v, rfl, ho, hf⟩
  obtain ⟨A, C, rfl⟩ : ∃ A C, v = .slice A (frees O).length C := by
    rcases ho.2 with ⟨hv, hn⟩ | ⟨q, cap, cur, hv, _⟩
    · exact ⟨none, 0, by rw [hv, hn]⟩
    · exact ⟨_, cap, hv⟩
  have HF := Lib.hid hf
  clear ho hf hr
  go_wp2
  go_ret
  exact ⟨by simp, HF.out⟩
def ListPost (l : List Nat) (w : World) (e : Ending) (w' : World) : Prop := ∃ v, e = .returned v ∧ IntsIs w' v (nints l) ∧ Fr0 w w' ∧ Fresh w v
theorem RowPost.list {l : List Nat} {w w' : World} {e : Ending} (h : RowPost l w e w') : ListPost l w e w' := by
  obtain ⟨v, h1, h2, h3⟩ := h
  exact ⟨v, h1, ints_own h2, h3, Fresh.own h2⟩
set_option maxHeartbeats 1000000 in
theorem need_any (bytes : Int) (hb : -9223372036854775808 ≤ bytes ∧ bytes ≤ 9223372036854775807) (w : World) :
    Calls Try.prog 29 #[.int .i64 bytes] w fun e w' => e = .returned (.int .i64 (needs bytes)) ∧ w' = w := by
  by_cases h : bytes ≤ 0
  · have HN : Hid (needs bytes = 0) := Lib.hid (if_pos h)
    go_enter Try.func29, Try.ntmps29
    go_wp2
    go_ret
    exact ⟨by rw [HN.out]; rfl, rfl⟩
  · have HN : Hid (needs bytes = (bytes - 1) / 32 + 1) := Lib.hid (if_neg h)
    go_enter Try.func29, Try.ntmps29
    go_wp2
    go_ret
    exact ⟨by rw [HN.out]; rfl, rfl⟩
/-- a slice of bools cloned -/
def ClonePost (O : List Bool) (w : World) (e : Ending) (w' : World) : Prop := ∃ q C, e = .returned (.slice (some ⟨q, 0, none⟩) O.length C) ∧ BoolsAt w' 4 q C O ∧ w.heap.size ≤ q ∧ Fr0 w w'
set_option maxHeartbeats 1000000 in
theorem clone_any (ob C : Nat) (O : List Bool) (hl : O.length ≤ 1000000) (w : World) (h : BoolsAt w 4 ob C O) :
    Calls Try.prog 47 #[.slice (some ⟨ob, 0, none⟩) O.length C] w (ClonePost O w) := by
  have HB := Lib.hid h
  have q22 : ∀ (w : World) (a : Option Addr) (n c n' c' : Nat), (binOp .eql 91 (.slice a n c) (.slice none n' c')).run Try.prog w = .ok (.bool a.isNone) w := fun w a n c n' c' => Lib.run_eql_slice_nil w _ _ a n c n' c' Try.underlying91
  clear h
  have HSA := Lib.hid ((Fr.refl (fun _ => False) w).alloc (.cells #[] 4))
  by_cases h0 : O = []
  · subst h0
    obtain ⟨i, hi, _⟩ := info_parts infoB
    have HE : Hid (ClonePost [] w (.returned (.slice (some ⟨w.heap.size, 0, none⟩) 0 0)) (w.alloc (.cells #[] 4))) := Lib.hid ⟨w.heap.size, 0, rfl, ⟨fun _ => undef, ⟨#[], heap_alloc_new w _, rfl, fun i hi => absurd hi (by omega)⟩, Nat.le_refl _, fun j hj => absurd hj (by simp)⟩, Nat.le_refl _, HSA.out⟩
    have hrun := fun ty => run_append_zero (P := Try.prog) (w.alloc (.cells #[] 4)) w.heap.size 91 ty 4 i 1 Try.underlying91 hi (.slice (some ⟨w.heap.size, 0, none⟩) 0 0) 0 C ⟨ob, 0, none⟩ [] (owns_empty w w.heap.size _ (Nat.le_refl _) _ rfl)
    rw [show ([] : List Bool).length = 0 from rfl]
    clear hi
    go_enter Try.func47, Try.ntmps47
    go_wp2_with (at_builtin; refine wpList_append_run rfl _ _ 91 rfl _ _ _ _ rfl rfl (hrun _) ?_)
    go_ret
    exact HE.out
  · have hpos : 0 < O.length := List.length_pos_iff.2 h0
    have HV : Hid (ValsIs (w.alloc (.cells #[] 4)) (.slice (some ⟨ob, 0, none⟩) O.length C) O.length (O.map Value.bool)) := Lib.hid ⟨_, C, ob, 0, rfl, HB.out.cap, fun _ => rfl, fun j hj => by
      rw [List.length_map] at hj
      rw [Nat.zero_add, (HB.out.fr0 HSA.out).cell j hj]
      simp [hj]⟩
    go_enter Try.func47, Try.ntmps47
    go_wp2_with (refine wpList_append_vals rfl (.tmp 5) (.tmp 6) 91 rfl w.heap.size 4 Try.underlying91 (.bool false) 1 1 infoB rfl (by decide) _ _ 0 O.length [] (O.map Value.bool) rfl rfl (owns_empty w w.heap.size _ (Nat.le_refl _) _ rfl) HV.out (by simp) (by intro u hu; simp at hu; rcases hu with ⟨_, rfl⟩ | ⟨_, rfl⟩ <;> rfl) (by unfold maxLen; omega) (by omega) HSA.out.size ?_; intro v1 w1 hO1 hG1)
    have HE : Hid (ClonePost O w (.returned v1) w1) := Lib.hid (by
      rw [Nat.zero_add, List.nil_append] at hO1
      obtain ⟨q, C1, rfl, hq, _⟩ := hO1.form hpos
      exact ⟨q, C1, rfl, BoolsAt.own hO1, hq, HSA.out.grown hG1 (fun k hk e => by cases e; exact absurd hk (Nat.lt_irrefl _))⟩)
    clear hO1 hG1
    go_ret
    exact HE.out
/-- the law's own comparison -/
def AlikePost (a b : List Int) (w : World) (e : Ending) (w' : World) : Prop := e = .returned (.bool (decide (a = b))) ∧ Fr0 w w'
end Go.Proofs.Ytkdpdbjefehmpaa.Blocks
