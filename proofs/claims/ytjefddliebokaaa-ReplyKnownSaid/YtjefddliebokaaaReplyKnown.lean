/-
  ReplyKnown walked.
-/
import Derived.Test.YtjefddliebokaaaReplyShare
import Derived.Test.YtjefddliebokaaaAppend
import Derived.Test.YtjefddliebokaaaBaseC
import Derived.Laws.MakeOwn
import Derived.Lib.ItoaWalk
import Derived.Lib.SlBytesConst
namespace Go.Proofs.Ytjefddliebokaaa.ReplyL
open Go.RowKit Base Pack _root_.Go.Proofs.Ytjefddliebokaaa.Reply

theorem lit_mark (w : World) (l : List UInt8) (c : Array Value) (t : TypeId) (fr : Nat × Nat) (n : Nat) (hn : n = l.length) (cap : Nat) (hcap : n ≤ cap) (hc : bvals l = c.toList) (N : Nat) (hN : N = w.heap.size) :
    BytesIs (w.alloc (.cells c t fr)) (.slice (some ⟨N, 0, none⟩) n cap) l := by
  subst hn hN
  refine ⟨_, cap, w.heap.size, 0, rfl, hcap, fun _ => rfl, fun j hj => ?_⟩
  rw [cell_of_row _ _ _ _ _ _ (heap_alloc_new w _), Nat.zero_add]
  have := bvals_get l j hj
  rw [hc] at this
  simpa using this
theorem pget_no (v : Value) (b : List UInt8) (er : Int) (h : (getB b).e = er) (he : er ≠ 0) (hb : b.length ≤ 140737488355328) (w : World) (hB : BytesIs w v b) :
    Calls Try.prog 13 #[v] w fun e w' => ∃ A C, e = .returned (.tuple #[.agg #[.int .i64 0, .bool false, .int .u32 0, .slice A 0 C], .int .i64 0, .int .i64 er]) ∧ Fr0 w w' := by
  refine (pget_any v b hb w hB).mono ?_
  rintro e w' ⟨A, C, rfl, _, _, hF⟩
  obtain ⟨z1, z2⟩ := getB_err b (by rw [h]; exact he)
  refine ⟨A, C, ?_, hF⟩
  rw [h, z1, z2]
  rfl
theorem plog_is (v : Value) (b : List UInt8) (l : List Rp) (h : log b = ⟨l, 0⟩) (hb : b.length ≤ 1000000000) (w : World) (hB : BytesIs w v b) :
    Calls Try.prog 12 #[v] w fun e w' => ∃ A C, e = .returned (.tuple #[.slice A l.length C, .int .i64 0]) ∧ Reps w' (fun _ => False) (.slice A l.length C) l ∧ Fr0 w w' := by
  have hp := plog_any v b hb w hB
  unfold LogPost at hp
  rw [h] at hp
  refine hp.mono ?_
  rintro e w' ⟨x, rfl, hL, hF⟩
  obtain ⟨A, C, rfl⟩ := hL.form
  exact ⟨A, C, rfl, hL.keep (Fr.refl (fun _ => False) _) (fun _ _ f => f.elim) (fun _ _ f => f.elim), hF⟩
theorem plog_no (v : Value) (b : List UInt8) (er : Int) (h : (log b).e = er) (he : er ≠ 0) (hb : b.length ≤ 1000000000) (w : World) (hB : BytesIs w v b) :
    Calls Try.prog 12 #[v] w fun e w' => ∃ A C, e = .returned (.tuple #[.slice A 0 C, .int .i64 er]) ∧ Fr0 w w' := by
  refine (plog_any v b hb w hB).mono ?_
  rintro e w' ⟨x, rfl, hL, hF⟩
  have hn := log_none (b := b) (by rw [h]; exact he)
  rw [hn] at hL
  obtain ⟨A, C, rfl⟩ := hL.form
  exact ⟨A, C, by rw [h]; rfl, hF⟩
/-- the answers that may not be, where their bodies lie -/
def bad : Nat → Rp
  | 0 => ⟨-1, false, 0, []⟩
  | 1 => ⟨9, false, 0, []⟩
  | 2 => ⟨3, true, 0, []⟩
  | 3 => ⟨6, false, 0, [1]⟩
  | _ => ⟨0, false, 0, List.replicate 256 0⟩
def badA (N : Nat) : Nat → Option Addr
  | 3 => some ⟨N, 0, none⟩
  | 4 => some ⟨N + 1, 0, none⟩
  | _ => none
def badC : Nat → Nat
  | 3 => 1
  | 4 => 256
  | _ => 0
def badL : Nat → Nat
  | 3 => 1
  | 4 => 256
  | _ => 0
theorem badL_is : ∀ i, i < 5 → (bad i).body.length = badL i
  | 0, _ => rfl
  | 1, _ => rfl
  | 2, _ => rfl
  | 3, _ => rfl
  | 4, _ => List.length_replicate
def badCells (N : Nat) : Array Value := ((List.range 5).flatMap fun i => [.int .i64 (bad i).st, .bool (bad i).hit, .int .u32 ((bad i).slot : Int), .slice (badA N i) (badL i) (badC i)]).toArray
theorem bad_no : ∀ i, i < 5 → good (bad i) = false
  | 0, _ => by decide
  | 1, _ => by decide
  | 2, _ => by decide
  | 3, _ => by decide
  | 4, _ => good_out (fun h => by
    have h1 := h.2.1
    rw [show (bad 4).body.length = 256 from List.length_replicate] at h1
    omega)
theorem bad_slot : ∀ i, i < 5 → (bad i).slot < 4294967296 ∧ badL i ≤ 256 := by decide
theorem bad_cells (W : World) (g N : Nat) (h : W.heap[g]? = some (.cells (badCells N) 27 (0, 0))) (i : Nat) (hi : i < 5) :
    W.cell? ⟨g, i * 4, none⟩ = some (.int .i64 (bad i).st) ∧ W.cell? ⟨g, i * 4 + 1, none⟩ = some (.bool (bad i).hit) ∧ W.cell? ⟨g, i * 4 + 2, none⟩ = some (.int .u32 ((bad i).slot : Int)) ∧ W.cell? ⟨g, i * 4 + 3, none⟩ = some (.slice (badA N i) (badL i) (badC i)) := by
  rw [cell_of_row _ _ _ _ _ _ h, cell_of_row _ _ _ _ _ _ h, cell_of_row _ _ _ _ _ _ h, cell_of_row _ _ _ _ _ _ h]
  match i, hi with
  | 0, _ => exact ⟨rfl, rfl, rfl, rfl⟩
  | 1, _ => exact ⟨rfl, rfl, rfl, rfl⟩
  | 2, _ => exact ⟨rfl, rfl, rfl, rfl⟩
  | 3, _ => exact ⟨rfl, rfl, rfl, rfl⟩
  | 4, _ => exact ⟨rfl, rfl, rfl, rfl⟩
theorem bad_bytes (W : World) (N : Nat) (h1 : BytesIs W (.slice (some ⟨N, 0, none⟩) 1 1) [1]) (h2 : BytesIs W (.slice (some ⟨N + 1, 0, none⟩) 256 256) (List.replicate 256 0)) (i : Nat) (hi : i < 5) :
    BytesIs W (.slice (badA N i) (badL i) (badC i)) (bad i).body := by
  match i, hi with
  | 0, _ => exact BytesIs.nil W
  | 1, _ => exact BytesIs.nil W
  | 2, _ => exact BytesIs.nil W
  | 3, _ => exact h1
  | 4, _ => exact h2
theorem made256 (w : World) : BytesIs (w.alloc (.cells (madeCells #[.int .u8 0] 256) 5)) (.slice (some ⟨w.heap.size, 0, none⟩) 256 256) (List.replicate 256 0) := by
  refine ⟨_, 256, w.heap.size, 0, by rw [List.length_replicate], by rw [List.length_replicate]; exact Nat.le_refl _, fun _ => rfl, fun j hj => ?_⟩
  rw [List.length_replicate] at hj
  rw [cell_of_row _ _ _ _ _ _ (heap_alloc_new w _), Nat.zero_add]
  have hg : (List.replicate 256 (0 : UInt8)).getD j 0 = 0 := by
    rw [List.getD_eq_getElem?_getD, List.getElem?_replicate, if_pos hj]
    rfl
  rw [hg]
  simp [madeCells, hj, Nat.mod_one]
theorem make256 (w : World) : (Instr.makeSlice 25 (.int .i64 256) (.int .i64 256)).run Try.prog w = .ok (.slice (some ⟨w.heap.size, 0, none⟩) 256 256) (w.alloc (.cells (madeCells #[.int .u8 0] 256) 5)) :=
  run_make_row' (P := Try.prog) 25 5 (.int .u8 0) 1 Try.underlying25 Pack.info8 rfl .i64 .i64 256 (by decide) (by decide) w
def r1 : Rp := ⟨0, true, 4294967295, [97, 98, 99]⟩
def r2 : Rp := ⟨5, false, 0, []⟩
theorem r1_good : good r1 = true := by decide
theorem r2_good : good r2 = true := by decide
theorem r1_len : (putB r1).length = 11 := by rw [putB_length]; rfl
theorem r2_len : (putB r2).length = 8 := by rw [putB_length]; rfl
def X1 : List UInt8 := [0, 1, 255, 255, 255, 255, 0, 3, 97, 98, 99]
def X2 : List UInt8 := [5, 0, 0, 0, 0, 0, 0, 0]
theorem r1_put : putB r1 = X1 := by decide +kernel
theorem r2_put : putB r2 = X2 := by decide +kernel
def two : List Rp := [r1, r2]
theorem log_two : log (X1 ++ X2) = ⟨two, 0⟩ := by
  have h := log_puts two (fun r hr => by
    simp only [two, List.mem_cons, List.not_mem_nil, or_false] at hr
    rcases hr with rfl | rfl
    · exact ⟨r1_good, by decide⟩
    · exact ⟨r2_good, by decide⟩)
  rw [← h, ← r1_put, ← r2_put]
  simp [two]
theorem x10 : (log (X1.take 10)).e = 3 := by decide +kernel
theorem x7 : (getB (X1.take 7)).e = 3 := by decide +kernel
def bad1 : List UInt8 := [0, 2, 255, 255, 255, 255, 0, 3, 97, 98, 99]
def bad2 : List UInt8 := [0, 1, 255, 255, 255, 255, 1, 3, 97, 98, 99]
theorem bad1_e : (getB bad1).e = 2 := by decide +kernel
theorem bad2_e : (getB bad2).e = 2 := by decide +kernel
set_option maxRecDepth 100000 in
set_option maxHeartbeats 8000000 in
theorem replyKnown_walk (w : World) : Calls Try.prog 3 #[] w fun e w' => e = .returned (.bool true) ∧ Fr0 w w' := by
  go_enter Try.func3, Try.ntmps3
  go_wp2_with fail
  refine (awake_any _).mono ?_
  rintro e W1 ⟨rfl, hF1⟩
  have HF1 := Lib.hid hF1
  clear hF1
  have hmk := fun wx : World => make256 wx
  have hone := lit_mark W1 [1] #[.int .u8 1] 5 (0, 0) 1 rfl 1 (Nat.le_refl _) rfl W1.heap.size rfl
  have hmade := made256 (W1.alloc (.cells #[.int .u8 1] 5))
  obtain ⟨W3, hW3⟩ : ∃ W3, W3 = (W1.alloc (.cells #[.int .u8 1] 5)).alloc (.cells (madeCells #[.int .u8 0] 256) 5) := ⟨_, rfl⟩
  have hs3 : W3.heap.size = W1.heap.size + 1 + 1 := by rw [hW3]; simp
  have hF3 : Fr0 W1 W3 := by rw [hW3]; exact ((Fr.refl _ _).alloc _).alloc _
  have hone3 : BytesIs W3 (.slice (some ⟨W1.heap.size, 0, none⟩) 1 1) [1] := by rw [hW3]; exact hone.fr0 ((Fr.refl _ _).alloc _)
  rw [show (W1.alloc (.cells #[.int .u8 1] 5)).heap.size = W1.heap.size + 1 by simp, ← hW3] at hmade
  obtain ⟨W4, hW4⟩ : ∃ W4, W4 = W3.alloc (.cells (badCells W1.heap.size) 27) := ⟨_, rfl⟩
  have hh4 : W4.heap[W1.heap.size + 1 + 1]? = some (.cells (badCells W1.heap.size) 27 (0, 0)) := by rw [hW4, ← hs3]; exact heap_alloc_new W3 _
  have hF34 : Fr0 W3 W4 := by rw [hW4]; exact (Fr.refl _ _).alloc _
  have HF4 := Lib.hid (HF1.out.trans' (hF3.trans' hF34))
  have HCB : Hid (∀ wr, Fr0 W4 wr → ∀ i, i < 5 → _) := Lib.hid (fun wr hf i hi => bad_cells wr _ _ (hf.heap hh4 (fun f => f)) i hi)
  have HPB := Lib.hid (bad_bytes W4 W1.heap.size (hone3.fr0 hF34) (hmade.fr0 hF34))
  have HW3 := Lib.hid hW3
  have HW4 := Lib.hid hW4
  clear hone hmade hW3 hs3 hF3 hone3 hW4 hh4 hF34 HF1
  go_wp2_with fail
  go_name_world w4 hw4
  have hw5 : w4 = W4 := by rw [HW4.out, HW3.out]; exact hw4.symm
  clear hw4 HW3 HW4 hmk
  subst hw5
  go_loopg [2, 3, 4] 5 (fun kx vi _ _ wr => ∃ i : Nat, vi = .int .i64 (i : Int) ∧ i ≤ 5 ∧ 5 - i ≤ kx ∧ Hid (Fr0 w4 wr))
  case atStart => exact ⟨0, rfl, Nat.zero_le _, by omega, Lib.hid (Fr.refl _ _)⟩
  case round =>
    obtain ⟨i, rfl, hi, hk, HFR⟩ := hrel
    by_cases hlt : i < 5
    · obtain ⟨l0, l1, l2, l3⟩ := HCB.out wr HFR.out i hlt
      have i1 : (i : Int) < 5 := by omega
      have i2 : 0 ≤ (i : Int) := by omega
      have hno := bad_no i hlt
      obtain ⟨hsl, hbl⟩ := bad_slot i hlt
      have hbi := badL_is i hlt
      have hput := pput_bad hno (badA W1.heap.size i) (badC i) hsl (by omega) wr (by rw [hbi]; exact (HPB.out i hlt).fr0 HFR.out)
      rw [hbi] at hput
      unfold rp4 at hput
      go_wp2_with fail
      refine hput.mono ?_
      clear hput l0 l1 l2 l3
      rintro e w2 ⟨A2, C2, rfl, _, hF2⟩
      have HFR2 := Lib.hid (HFR.out.trans' hF2)
      obtain ⟨l0, l1, l2, l3⟩ := HCB.out w2 HFR2.out i hlt
      have hgd := pgood_any (badA W1.heap.size i) (badC i) (bad i) (by omega) w2
      rw [hno, hbi] at hgd
      unfold rp4 at hgd
      clear hF2 hbi
      go_wp2_with fail
      refine hgd.mono ?_
      clear hgd l0 l1 l2 l3
      rintro e w3 ⟨rfl, hF3⟩
      have HFR3 := Lib.hid (HFR2.out.trans' hF3)
      clear hF3 hno
      go_wp2
      go_roundg (5 - (i + 1))
      case measure => omega
      case rel => exact ⟨i + 1, by simp, by omega, by omega, HFR3⟩
    · obtain rfl : i = 5 := by omega
      have HF5 := Lib.hid (HF4.out.trans' HFR.out)
      have kc := fun (w : World) (C : Array Value) (n c : Nat) => Lib.run_convert_bytes_const (P := Try.prog) w 25 5 C n c Try.underlying25 Try.underlying5
      have hX0 := lit_mark wr [97, 98, 99] #[.int .u8 97, .int .u8 98, .int .u8 99] 5 (3, 4) 3 rfl 3 (Nat.le_refl _) rfl wr.heap.size rfl
      have hput := pput_good r1_good (some ⟨wr.heap.size, 0, none⟩) 3 (by decide) _ hX0
      rw [r1_len] at hput
      have HL5 := Lib.hid (HF5.out.alloc (.cells #[.int .u8 97, .int .u8 98, .int .u8 99] 5 (3, 4)))
      clear hX0
      go_wp2_with fail
      refine hput.mono ?_
      clear hput kc
      rintro e W5 ⟨A, C, rfl, hX, hF⟩
      have HF6 := Lib.hid (HL5.out.trans' hF)
      have HX := Lib.hid hX
      have hcap : 11 ≤ C := by
        obtain ⟨_, _, _, _, he, h1, _⟩ := hX
        simp only [Value.slice.injEq] at he
        have h2 : (putB r1).length = 11 := r1_len
        omega
      have hput := pput_good r2_good none 0 (by decide) W5 (BytesIs.nil W5)
      rw [r2_len] at hput
      clear hX hF HL5 HF5
      go_wp2_with fail
      refine hput.mono ?_
      clear hput
      rintro e W6 ⟨A6, C6, rfl, hY, hF⟩
      have HF7 := Lib.hid (HF6.out.trans' hF)
      have HX6 : Hid (BytesIs W6 (.slice A 11 C) X1) := Lib.hid (HX.out.fr0 hF)
      have HY6 : Hid (BytesIs W6 (.slice A6 8 C6) X2) := Lib.hid hY
      clear hY hF HX HF6
      go_wp2_with (refine wpList_append_bytes rfl (.tmp 80) (.tmp 81) 25 rfl W6.heap.size 5 Try.underlying25 Pack.info8 _ _ 0 [] X1 rfl rfl (owns_empty W6 W6.heap.size _ (Nat.le_refl _) _ rfl) (HX6.out.fr0 ((Fr.refl _ _).alloc _)) (by decide) ((Fr.refl (fun _ => False) _).alloc _).size ?_)
      intro v7 w7 hO7 hG7
      have HF8 : Hid (Fr0 W6 w7) := Lib.hid (((Fr.refl _ _).alloc _).grown hG7 (fun k hk e => by cases e; exact absurd hk (Nat.lt_irrefl _)))
      have HO7 : Hid (w7.ownsRow W6.heap.size 5 1 v7 11 (bvals X1)) := Lib.hid hO7
      obtain ⟨A7, C7, rfl, _⟩ := owns_form HO7.out
      clear hO7 hG7
      go_wp2_with (refine wpList_append_bytes rfl (.tmp 82) (.tmp 83) 25 rfl W6.heap.size 5 Try.underlying25 Pack.info8 _ _ 11 X1 X2 rfl rfl HO7.out (HY6.out.fr0 HF8.out) (by decide) HF8.out.size ?_)
      intro v8 w8 hO8 hG8
      have HF9 : Hid (Fr0 W6 w8) := Lib.hid (HF8.out.grown hG8 (fun k hk e => by have := (HO7.out.lt k e).1; omega))
      have HF10 := Lib.hid (HF7.out.trans' HF9.out)
      have hlg := plog_is v8 (X1 ++ X2) two log_two (by decide) w8 (BytesIs.own hO8)
      obtain ⟨A8, C8, rfl, _⟩ := owns_form hO8
      clear hO8 hG8 HO7 HF8
      go_wp2_with fail
      refine hlg.mono ?_
      clear hlg
      rintro e W9 ⟨A9, C9, rfl, hL9, hF9⟩
      have HF11 := Lib.hid (HF10.out.trans' hF9)
      have HW9 := Lib.hid (HF9.out.trans' hF9)
      have HL9 := Lib.hid hL9
      have HX9 := Lib.hid (HX6.out.fr0 HW9.out)
      clear hL9 hF9 HF9 HF10
      have hs10 := fun wx : World => cut_hi_at (P := Try.prog) 25 5 Try.underlying25 (by kernel_rfl) A 11 C 10 (by omega) wx
      have hs7 := fun wx : World => cut_hi_at (P := Try.prog) 25 5 Try.underlying25 (by kernel_rfl) A 11 C 7 (by omega) wx
      have hlg := plog_no (.slice A 10 C) (X1.take 10) 3 x10 (by decide) (by decide) W9 (BytesIs.takeHi (n := 10) (by decide) HX9.out)
      go_wp2_with fail
      refine hlg.mono ?_
      clear hlg hs10
      rintro e W10 ⟨A10, C10, rfl, hF10⟩
      have HF12 := Lib.hid (HF11.out.trans' hF10)
      have HX10 := Lib.hid (HX9.out.fr0 hF10)
      have HL10 := Lib.hid (HL9.out.fr0 hF10)
      have hget := pget_no (.slice A 7 C) (X1.take 7) 3 x7 (by decide) (by decide) W10 (BytesIs.takeHi (n := 7) (by decide) HX10.out)
      clear hF10 HF11 HX9 HL9
      go_wp2_with fail
      refine hget.mono ?_
      clear hget hs7
      rintro e W11 ⟨A11, C11, rfl, hF11⟩
      have HF13 := Lib.hid (HF12.out.trans' hF11)
      have HW11 := Lib.hid hF11
      clear hF11 HF12
      have hg4 := heap_alloc_new W11 (.cells #[.int .i64 0, .bool false, .int .u32 0, .slice none 0 0] 27)
      obtain ⟨W12, hW4⟩ : ∃ W4, W4 = (W11.alloc (.cells #[.int .i64 0, .bool false, .int .u32 0, .slice none 0 0] 27)).setRow W11.heap.size #[.int .i64 0, .bool false, .int .u32 0, .slice A11 0 C11] := ⟨_, rfl⟩
      have HFK := Lib.hid (show Fr0 W11 W12 by rw [hW4]; exact Fr.setRow ((Fr.refl _ _).alloc _) (fun h => absurd h (Nat.lt_irrefl _)) _)
      have HWK := Lib.hid hW4
      have HGK := Lib.hid hg4
      have HF14 := Lib.hid (HF13.out.trans' HFK.out)
      clear hg4 hW4
      have hf := HW11.out.trans' HFK.out
      have HX1 := Lib.hid (HX10.out.fr0 hf)
      have HL12 := Lib.hid (HL10.out.fr0 hf)
      clear hf HX10 HL10
      go_wp2_with (first | (refine wpList_store_row rfl 27 _ _ rfl W11.heap.size #[.int .i64 0, .bool false, .int .u32 0, .slice A11 0 C11] rfl rfl 27 _ HGK.out infoP rfl (rp4_one (.slice A11 0 C11) zero rfl) ?_; rw [← HWK.out]; clear HWK HGK) | (refine wpList_append_bytes rfl (.tmp 101) (.tmp 102) 25 rfl W12.heap.size 5 Try.underlying25 Pack.info8 _ _ 0 [] X1 rfl rfl (owns_empty W12 W12.heap.size _ (Nat.le_refl _) _ rfl) (HX1.out.fr0 ((Fr.refl _ _).alloc _)) (by decide) ((Fr.refl (fun _ => False) _).alloc _).size ?_))
      intro vs1 ws1 hO hG
      have hFs : Fr0 W12 ws1 := ((Fr.refl _ _).alloc _).grown hG (fun k hk e => by cases e; exact absurd hk (Nat.lt_irrefl _))
      have hO' : ws1.ownsRow W12.heap.size 5 1 vs1 11 (bvals X1) := hO
      have hBs := BytesIs.own hO'
      obtain ⟨h0, ⟨rfl, h00⟩ | ⟨gz, cap, cur, rfl, hgb, hgc, _⟩⟩ := hO'
      · exfalso; omega
      have hd6 : ws1.frozen? ⟨gz, 1, none⟩ = false := by simp [World.frozen?, hgc]
      have hB7 : BytesIs (ws1.setCell ⟨gz, 1, none⟩ (.int .u8 2)) (.slice (some ⟨gz, 0, none⟩) 11 cap) bad1 := hBs.set 1 (by decide) 2 (.int .u8 2) rfl
      have hc6 : ws1.cell? ⟨gz, 1, none⟩ = some (.int .u8 1) := by
        obtain ⟨a, c, pb, po, hv, _, ha, hcell⟩ := hBs
        have h := hcell 1 (by decide)
        have h2 := ha (by decide)
        subst h2
        simp only [Value.slice.injEq, Option.some.injEq, Addr.mk.injEq, and_true] at hv
        obtain ⟨⟨rfl, rfl⟩, _, _⟩ := hv
        rw [Nat.zero_add] at h
        exact h
      have hF7 : Fr0 W12 (ws1.setCell ⟨gz, 1, none⟩ (.int .u8 2)) := hFs.setCell (p := ⟨gz, 1, none⟩) (fun h => by have h' : gz < W12.heap.size := h; omega) _
      have HF7 : Hid (Fr0 w (ws1.setCell ⟨gz, 1, none⟩ (.int .u8 2))) := Lib.hid (HF14.out.trans' hF7)
      have HW7 : Hid (Fr0 W12 (ws1.setCell ⟨gz, 1, none⟩ (.int .u8 2))) := Lib.hid hF7
      have HS7 := Lib.hid hB7
      have hgc' : ∃ x, ws1.heap[gz]? = some x := ⟨_, hgc⟩
      clear hO hG hFs hBs hgc hB7 hF7 h0
      have hget := pget_no _ bad1 2 bad1_e (by decide) (by decide) _ HS7.out
      go_wp2_with fail
      refine hget.mono ?_
      clear hget hc6 hd6 hgc'
      rintro e wg1 ⟨Ag1, Cg1, rfl, hFg⟩
      have HFG := Lib.hid (HF7.out.trans' hFg)
      have HWG := Lib.hid (HW7.out.trans' hFg)
      clear hFg HF7 HW7 HS7
      generalize ws1.setCell ⟨gz, 1, none⟩ (.int .u8 2) = wz1 at *
      have hg4 := heap_alloc_new wg1 (.cells #[.int .i64 0, .bool false, .int .u32 0, .slice none 0 0] 27)
      obtain ⟨wk1, hW4⟩ : ∃ W4, W4 = (wg1.alloc (.cells #[.int .i64 0, .bool false, .int .u32 0, .slice none 0 0] 27)).setRow wg1.heap.size #[.int .i64 0, .bool false, .int .u32 0, .slice Ag1 0 Cg1] := ⟨_, rfl⟩
      have HFK := Lib.hid (show Fr0 wg1 wk1 by rw [hW4]; exact Fr.setRow ((Fr.refl _ _).alloc _) (fun h => absurd h (Nat.lt_irrefl _)) _)
      have HWK := Lib.hid hW4
      have HGK := Lib.hid hg4
      have HF15 := Lib.hid (HFG.out.trans' HFK.out)
      clear hg4 hW4
      have HWK1 := Lib.hid (HWG.out.trans' HFK.out)
      have HX2 := Lib.hid (HX1.out.fr0 HWK1.out)
      have HL13 := Lib.hid (HL12.out.fr0 HWK1.out)
      go_wp2_with (first | (refine wpList_store_row rfl 27 _ _ rfl wg1.heap.size #[.int .i64 0, .bool false, .int .u32 0, .slice Ag1 0 Cg1] rfl rfl 27 _ HGK.out infoP rfl (rp4_one (.slice Ag1 0 Cg1) zero rfl) ?_; rw [← HWK.out]; clear HWK HGK) | (refine wpList_append_bytes rfl (.tmp 112) (.tmp 113) 25 rfl wk1.heap.size 5 Try.underlying25 Pack.info8 _ _ 0 [] X1 rfl rfl (owns_empty wk1 wk1.heap.size _ (Nat.le_refl _) _ rfl) (HX2.out.fr0 ((Fr.refl _ _).alloc _)) (by decide) ((Fr.refl (fun _ => False) _).alloc _).size ?_))
      intro vs2 ws2 hO hG
      have hFs : Fr0 wk1 ws2 := ((Fr.refl _ _).alloc _).grown hG (fun k hk e => by cases e; exact absurd hk (Nat.lt_irrefl _))
      have hO' : ws2.ownsRow wk1.heap.size 5 1 vs2 11 (bvals X1) := hO
      have hBs := BytesIs.own hO'
      obtain ⟨h0, ⟨rfl, h00⟩ | ⟨gz, cap, cur, rfl, hgb, hgc, _⟩⟩ := hO'
      · exfalso; omega
      have hd6 : ws2.frozen? ⟨gz, 6, none⟩ = false := by simp [World.frozen?, hgc]
      have hB7 : BytesIs (ws2.setCell ⟨gz, 6, none⟩ (.int .u8 1)) (.slice (some ⟨gz, 0, none⟩) 11 cap) bad2 := hBs.set 6 (by decide) 1 (.int .u8 1) rfl
      have hc6 : ws2.cell? ⟨gz, 6, none⟩ = some (.int .u8 0) := by
        obtain ⟨a, c, pb, po, hv, _, ha, hcell⟩ := hBs
        have h := hcell 6 (by decide)
        have h2 := ha (by decide)
        subst h2
        simp only [Value.slice.injEq, Option.some.injEq, Addr.mk.injEq, and_true] at hv
        obtain ⟨⟨rfl, rfl⟩, _, _⟩ := hv
        rw [Nat.zero_add] at h
        exact h
      have hF7 : Fr0 wk1 (ws2.setCell ⟨gz, 6, none⟩ (.int .u8 1)) := hFs.setCell (p := ⟨gz, 6, none⟩) (fun h => by have h' : gz < wk1.heap.size := h; omega) _
      have HF7 : Hid (Fr0 w (ws2.setCell ⟨gz, 6, none⟩ (.int .u8 1))) := Lib.hid (HF15.out.trans' hF7)
      have HW7 : Hid (Fr0 wk1 (ws2.setCell ⟨gz, 6, none⟩ (.int .u8 1))) := Lib.hid hF7
      have HS7 := Lib.hid hB7
      have hgc' : ∃ x, ws2.heap[gz]? = some x := ⟨_, hgc⟩
      clear hO hG hFs hBs hgc hB7 hF7 h0
      have hget := pget_no _ bad2 2 bad2_e (by decide) (by decide) _ HS7.out
      go_wp2_with fail
      refine hget.mono ?_
      clear hget hc6 hd6 hgc'
      rintro e wg2 ⟨Ag2, Cg2, rfl, hFg⟩
      have HFG := Lib.hid (HF7.out.trans' hFg)
      have HWG := Lib.hid (HW7.out.trans' hFg)
      clear hFg HF7 HW7 HS7
      generalize ws2.setCell ⟨gz, 6, none⟩ (.int .u8 1) = wz2 at *
      have hg4 := heap_alloc_new wg2 (.cells #[.int .i64 0, .bool false, .int .u32 0, .slice none 0 0] 27)
      obtain ⟨wk2, hW4⟩ : ∃ W4, W4 = (wg2.alloc (.cells #[.int .i64 0, .bool false, .int .u32 0, .slice none 0 0] 27)).setRow wg2.heap.size #[.int .i64 0, .bool false, .int .u32 0, .slice Ag2 0 Cg2] := ⟨_, rfl⟩
      have HFK := Lib.hid (show Fr0 wg2 wk2 by rw [hW4]; exact Fr.setRow ((Fr.refl _ _).alloc _) (fun h => absurd h (Nat.lt_irrefl _)) _)
      have HWK := Lib.hid hW4
      have HGK := Lib.hid hg4
      have HF16 := Lib.hid (HFG.out.trans' HFK.out)
      clear hg4 hW4
      have HWK2 := Lib.hid (HWG.out.trans' HFK.out)
      have HL14 := Lib.hid (HL13.out.fr0 HWK2.out)
      have hlg := plog_is (.slice none 0 0) [] [] rfl (by decide) wk2 (BytesIs.nil _)
      go_wp2_with (refine wpList_store_row rfl 27 _ _ rfl wg2.heap.size #[.int .i64 0, .bool false, .int .u32 0, .slice Ag2 0 Cg2] rfl rfl 27 _ HGK.out infoP rfl (rp4_one (.slice Ag2 0 Cg2) zero rfl) ?_; rw [← HWK.out]; clear HWK HGK)
      refine hlg.mono ?_
      clear hlg
      rintro e W20 ⟨A20, C20, rfl, _, hF20⟩
      have HF20 := Lib.hid (HF16.out.trans' hF20)
      have HL20 := Lib.hid (HL14.out.fr0 hF20)
      obtain ⟨pb, po, B1, D1, rfl, hc1, hb1⟩ := reps_at HL20.out 0 (by decide)
      obtain ⟨qb, qo, B2, D2, hq, hc2, _⟩ := reps_at HL20.out 1 (by decide)
      cases hq
      obtain ⟨_, e1, _, e3⟩ := hc1 W20 (Fr.refl _ _)
      obtain ⟨f0, _, _, _⟩ := hc2 W20 (Fr.refl _ _)
      have e1' : W20.cell? ⟨pb, po + 1, none⟩ = some (.bool true) := e1
      have e3' : W20.cell? ⟨pb, po + 3, none⟩ = some (.slice B1 3 D1) := e3
      have f0' : W20.cell? ⟨pb, po + 4, none⟩ = some (.int .i64 5) := f0
      have hcv : (convert 25 9 (.slice B1 3 D1)).run Try.prog W20 = .ok (.string ⟨#[97, 98, 99]⟩) W20 := hb1.convert (P := Try.prog) 25 9 5 Try.underlying25 Try.underlying5 Try.underlying9
      clear hF20 hc1 hc2 e1 e3 f0 hb1
      rw [show two.length = 2 from rfl]
      go_wp2
      go_ret
      exact ⟨rfl, HF20.out⟩
end Go.Proofs.Ytjefddliebokaaa.ReplyL
