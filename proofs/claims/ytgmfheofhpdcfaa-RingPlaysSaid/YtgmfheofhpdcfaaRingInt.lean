/-
  The walks of a row of items of type int (made by wip/tools/ring.py).
-/
import Derived.Test.YtgmfheofhpdcfaaRingSpec
import Derived.Test.YtgmfheofhpdcfaaChecked
import Derived.Deep.WholeRow
import Derived.Laws.Rows
import Derived.Laws.Runes
import Derived.Laws.Tables
import Derived.KernelRfl
namespace Go.Proofs.Ytgmfheofhpdcfaa.Ring
open Go.RowKit Go.Conc Base

theorem len_int (g c : Nat) (cap : Nat) (ps : List Nat) (xs : List Value) (w : World) (h : RowAt w g c 65 3 cap ps xs) :
    Calls Try.prog 24 #[.pointer (some ⟨g, 0, none⟩)] w fun e w' => e = .returned (.int .i64 ((xs.length : Nat) : Int)) ∧ w = w' := by
  obtain ⟨s, r, hc⟩ := h.row
  have hl := h.lie
  have c0 := h.cell
  have hq := fun ty => run_len_chan (P := Try.prog) 63 ty Try.underlying63 hc
  rw [ptrs_size, hl.length] at hq
  simp only [goInt] at hq
  clear hc hl
  go_enter Try.func24, Try.ntmps24
  go_wp2
  go_ret
  exact ⟨rfl, rfl⟩
theorem most_int (g c : Nat) (cap : Nat) (ps : List Nat) (xs : List Value) (w : World) (h : RowAt w g c 65 3 cap ps xs) :
    Calls Try.prog 19 #[.pointer (some ⟨g, 0, none⟩)] w fun e w' => e = .returned (.int .i64 ((cap : Nat) : Int)) ∧ w = w' := by
  obtain ⟨s, r, hc⟩ := h.row
  have hl := h.lie
  have c0 := h.cell
  have hq := fun ty => run_cap_chan (P := Try.prog) 63 ty Try.underlying63 hc
  simp only [goInt] at hq
  clear hc hl
  go_enter Try.func19, Try.ntmps19
  go_wp2
  go_ret
  exact ⟨rfl, rfl⟩
theorem new_int (m : Int) (w : World) :
    Calls Try.prog 18 #[.int .i64 m] w fun e w' => ∃ g, e = .returned (.pointer (some ⟨g, 0, none⟩)) ∧ w.heap.size ≤ g ∧ ∃ c, w.heap.size ≤ c ∧ RowAt w' g c 65 3 (held m) [] [] ∧ Fr0 w w' := by
  obtain ⟨i, hi, hb⟩ : ∃ i, Try.prog.info? 66 = some i ∧ i.bytes = 8 := by
    have h : (Try.prog.info? 66).map (·.bytes) = some 8 := by kernel_rfl
    obtain ⟨i, hi, hb⟩ := Option.map_eq_some_iff.1 h
    exact ⟨i, hi, hb⟩
  have hmk : ∀ (k : Nat), k ≤ 4096 → (Instr.makeChan 63 (.int .i64 (k : Int))).run Try.prog w = .ok (.chan (some w.heap.size)) (w.alloc (.chan k #[] false 0 0 false)) := fun k hk =>
    run_makeChan (P := Try.prog) Try.underlying63 hi .i64 k (by omega) (by rw [hb]; omega)
  clear hi hb
  have fin : ∀ k, k = held m → RowAt ((w.alloc (.chan k #[] false 0 0 false)).alloc (.cells #[.chan (some w.heap.size)] 65)) (w.heap.size + 1) w.heap.size 65 3 (held m) [] [] := fun k hk => by
    subst hk
    exact row_new w _ _ (held m) (held_le m) _ _ rfl rfl
  have HF := Lib.hid fin
  clear fin
  by_cases h1 : m ≤ 1
  · have hk := hmk 1 (by omega)
    simp only [show ((1 : Nat) : Int) = 1 from rfl] at hk
    by_cases h2 : m = 1
    · subst h2
      go_enter Try.func18, Try.ntmps18
      go_wp2
      go_ret
      exact ⟨_, rfl, Nat.le_succ _, _, Nat.le_refl _, HF.out 1 (by decide), ((Fr.refl _ _).alloc _).alloc _⟩
    · have hlt : m < 1 := by omega
      go_enter Try.func18, Try.ntmps18
      go_wp2
      go_ret
      exact ⟨_, rfl, Nat.le_succ _, _, Nat.le_refl _, HF.out 1 (by unfold held; omega), ((Fr.refl _ _).alloc _).alloc _⟩
  · by_cases h2 : m < 4096
    · obtain ⟨k, rfl⟩ := Int.eq_ofNat_of_zero_le (show 0 ≤ m by omega)
      have hk := hmk k (by omega)
      have hlt : ¬ (k : Int) < 1 := by omega
      go_enter Try.func18, Try.ntmps18
      go_wp2
      go_ret
      exact ⟨_, rfl, Nat.le_succ _, _, Nat.le_refl _, HF.out k (by unfold held; omega), ((Fr.refl _ _).alloc _).alloc _⟩
    · have hk := hmk 4096 (by omega)
      simp only [show ((4096 : Nat) : Int) = 4096 from rfl] at hk
      by_cases h3 : m = 4096
      · subst h3
        go_enter Try.func18, Try.ntmps18
        go_wp2
        go_ret
        exact ⟨_, rfl, Nat.le_succ _, _, Nat.le_refl _, HF.out 4096 (by unfold held; omega), ((Fr.refl _ _).alloc _).alloc _⟩
      · have hlt : ¬ m < 1 := by omega
        have hgt : 4096 < m := by omega
        have hlt2 : ¬ m < 4096 := h2
        go_enter Try.func18, Try.ntmps18
        go_wp2
        go_ret
        exact ⟨_, rfl, Nat.le_succ _, _, Nat.le_refl _, HF.out 4096 (by unfold held; omega), ((Fr.refl _ _).alloc _).alloc _⟩
set_option maxRecDepth 100000 in
theorem put_int_room (g c : Nat) (n : Int) (cap : Nat) (ps : List Nat) (xs : List Value) (w : World) (h : RowAt w g c 65 3 cap ps xs) (hroom : xs.length < cap) :
    Calls Try.prog 21 #[.pointer (some ⟨g, 0, none⟩), .int .i64 n] w fun e w' => e = .returned (.bool true) ∧ RowAt w' g c 65 3 cap (ps ++ [w.heap.size]) (xs ++ [.int .i64 n]) ∧ Fr1 c w w' := by
  obtain ⟨s, r, hc⟩ := h.row
  have hl := h.lie
  have hgl := lt_of_heap h.obj
  have hcl := lt_of_heap hc
  have c0 : (w.alloc (.cells #[.int .i64 n] 3)).cell? ⟨g, 0, none⟩ = some (.chan (some c)) := by
    rw [cell_of_row _ _ _ _ _ _ ((Below.heap_alloc w _ g hgl).trans h.obj)]; rfl
  have hc1 : (w.alloc (.cells #[.int .i64 n] 3)).heap[c]? = some (.chan cap (ptrs ps) false s r false) := (Below.heap_alloc w _ c hcl).trans hc
  refine calls_of_loneTo fun cs => ?_
  have e : Frame.enter Try.prog 21 #[.pointer (some ⟨g, 0, none⟩), .int .i64 n] .normal = (base 21).at ⟨#[.pointer (some ⟨g, 0, none⟩), .int .i64 n, undef, undef, undef, undef, undef, undef, undef, undef, undef, undef], []⟩ [.code (Try.f21.body.getD .skip)] := by
    simp [Frame.enter, Frame.at, Try.func21, base, Try.f21]
  rw [e]
  refine LoneTo.goes (n := 18) ?_
  simp only [Try.f21, Option.getD_some]
  s_c stepG_seq
  s_reg
  s_op
  s_op
  s_c stepG_region_end
  s_c stepG_seq
  s_reg
  s_op
  s_op
  s_op
  s_op
  s_c stepG_region_end
  s_c stepG_seq
  s_reg
  s_stop
  refine LoneTo.step (step_lone_select_send_room (c := c) (cap := cap) (buf := ptrs ps) (s := s) (r := r) (tm := false) (stepG_comm (cases := #[scase c (ptr w.heap.size) (.pointer none)]) (blocking := false) (shape := .select) (w' := (w.alloc (.cells #[.int .i64 n] 3))) rfl rfl (by decide) (by simp [go_sem, execOp, scase, Act.eval, ptr])) hc1 (by rw [ptrs_size, hl.length]; exact hroom)) ?_
  rw [Frame.finish_at]
  walk_nrm
  refine LoneTo.goes (n := 12) ?_
  s_op
  s_op
  s_c stepG_region_end
  s_c stepG_block
  s_cond true
  s_c stepG_seq
  s_reg
  s_op
  s_c stepG_region_end
  s_c stepG_ret'
  s_stop
  refine LoneTo.done ⟨.returned (.bool true), _, rfl, ⟨rfl, ?_, ?_⟩, rfl, rfl, rfl, rfl, _, Try.func21, by simp [results, Try.f21, Frame.at]⟩
  · rw [ptrs_push]
    exact row_push h.obj h.big hc hl hroom (.int .i64 n) _ _
  · exact fr1_setChan ((Fr.refl _ _).alloc _) _ _ _ _ _ _
set_option maxRecDepth 100000 in
theorem put_int_full (g c : Nat) (n : Int) (cap : Nat) (ps : List Nat) (xs : List Value) (w : World) (h : RowAt w g c 65 3 cap ps xs) (hfull : ¬ xs.length < cap) :
    Calls Try.prog 21 #[.pointer (some ⟨g, 0, none⟩), .int .i64 n] w fun e w' => e = .returned (.bool false) ∧ RowAt w' g c 65 3 cap ps xs ∧ Fr0 w w' := by
  obtain ⟨s, r, hc⟩ := h.row
  have hl := h.lie
  have hgl := lt_of_heap h.obj
  have hcl := lt_of_heap hc
  have c0 : (w.alloc (.cells #[.int .i64 n] 3)).cell? ⟨g, 0, none⟩ = some (.chan (some c)) := by
    rw [cell_of_row _ _ _ _ _ _ ((Below.heap_alloc w _ g hgl).trans h.obj)]; rfl
  have hc1 : (w.alloc (.cells #[.int .i64 n] 3)).heap[c]? = some (.chan cap (ptrs ps) false s r false) := (Below.heap_alloc w _ c hcl).trans hc
  refine calls_of_loneTo fun cs => ?_
  have e : Frame.enter Try.prog 21 #[.pointer (some ⟨g, 0, none⟩), .int .i64 n] .normal = (base 21).at ⟨#[.pointer (some ⟨g, 0, none⟩), .int .i64 n, undef, undef, undef, undef, undef, undef, undef, undef, undef, undef], []⟩ [.code (Try.f21.body.getD .skip)] := by
    simp [Frame.enter, Frame.at, Try.func21, base, Try.f21]
  rw [e]
  refine LoneTo.goes (n := 18) ?_
  simp only [Try.f21, Option.getD_some]
  s_c stepG_seq
  s_reg
  s_op
  s_op
  s_c stepG_region_end
  s_c stepG_seq
  s_reg
  s_op
  s_op
  s_op
  s_op
  s_c stepG_region_end
  s_c stepG_seq
  s_reg
  s_stop
  refine LoneTo.step (step_lone_select_send_full (c := c) (cap := cap) (buf := ptrs ps) (s := s) (r := r) (tm := false) (stepG_comm (cases := #[scase c (ptr w.heap.size) (.pointer none)]) (blocking := false) (shape := .select) (w' := (w.alloc (.cells #[.int .i64 n] 3))) rfl rfl (by decide) (by simp [go_sem, execOp, scase, Act.eval, ptr])) hc1 (by rw [ptrs_size, hl.length]; omega)) ?_
  rw [Frame.finish_at]
  walk_nrm
  refine LoneTo.goes (n := 12) ?_
  s_op
  s_op
  s_c stepG_region_end
  s_c stepG_block
  s_cond false
  s_c stepG_seq
  s_reg
  s_op
  s_c stepG_region_end
  s_c stepG_ret'
  s_stop
  refine LoneTo.done ⟨.returned (.bool false), _, rfl, ⟨rfl, ?_, ?_⟩, rfl, rfl, rfl, rfl, _, Try.func21, by simp [results, Try.f21, Frame.at]⟩
  · exact h.fr0 ((Fr.refl _ _).alloc _)
  · exact (Fr.refl _ _).alloc _
theorem put_int (g c : Nat) (n : Int) (cap : Nat) (ps : List Nat) (xs : List Value) (w : World) (h : RowAt w g c 65 3 cap ps xs) :
    Calls Try.prog 21 #[.pointer (some ⟨g, 0, none⟩), .int .i64 n] w fun e w' => e = .returned (.bool (decide (xs.length < cap))) ∧ (∃ ps', RowAt w' g c 65 3 cap ps' (if xs.length < cap then xs ++ [.int .i64 n] else xs) ∧ ∀ p ∈ ps', p ∈ ps ∨ p = w.heap.size) ∧ Fr1 c w w' := by
  by_cases hr : xs.length < cap
  · rw [if_pos hr, decide_eq_true hr]
    refine (put_int_room g c n cap ps xs w h hr).mono ?_
    rintro e w' ⟨rfl, h1, h2⟩
    refine ⟨rfl, ⟨_, h1, fun p hp => ?_⟩, h2⟩
    rcases List.mem_append.1 hp with hp | hp
    · exact .inl hp
    · exact .inr (by simpa using hp)
  · rw [if_neg hr, decide_eq_false hr]
    refine (put_int_full g c n cap ps xs w h hr).mono ?_
    rintro e w' ⟨rfl, h1, h2⟩
    exact ⟨rfl, ⟨_, h1, fun p hp => .inl hp⟩, h2.zero⟩
set_option maxRecDepth 100000 in
theorem take_int_none (g c : Nat) (cap : Nat) (ps : List Nat) (w : World) (h : RowAt w g c 65 3 cap ps []) :
    Calls Try.prog 22 #[.pointer (some ⟨g, 0, none⟩)] w fun e w' => e = .returned (.tuple #[.int .i64 0, .bool false]) ∧ w' = w := by
  obtain ⟨s, r, hc⟩ := h.row
  have hl := h.lie
  have c0 := h.cell
  obtain rfl : ps = [] := List.eq_nil_of_length_eq_zero hl.length
  refine calls_of_loneTo fun cs => ?_
  have e : Frame.enter Try.prog 22 #[.pointer (some ⟨g, 0, none⟩)] .normal = (base 22).at ⟨#[.pointer (some ⟨g, 0, none⟩), undef, undef, undef, undef, undef, undef, undef, undef, undef, undef, undef, undef, undef, undef, undef, undef, undef], []⟩ [.code (Try.f22.body.getD .skip)] := by
    simp [Frame.enter, Frame.at, Try.func22, base, Try.f22]
  rw [e]
  refine LoneTo.goes (n := 18) ?_
  simp only [Try.f22, Option.getD_some]
  s_c stepG_seq
  s_reg
  s_op
  s_op
  s_c stepG_region_end
  s_c stepG_seq
  s_reg
  s_op
  s_op
  s_op
  s_op
  s_c stepG_region_end
  s_c stepG_seq
  s_reg
  s_stop
  refine LoneTo.step (step_lone_select_default (c := c) (cap := cap) (s := s) (r := r) (tm := false) (stepG_comm (cases := #[rcase c (.pointer none)]) (blocking := false) (shape := .select) (w' := w) rfl rfl (by decide) (by simp [go_sem, execOp, rcase, Act.eval])) hc) ?_
  rw [Frame.finish_at]
  walk_nrm
  refine LoneTo.goes (n := 17) ?_
  s_op
  s_op
  s_c stepG_region_end
  s_c stepG_block
  s_cond false
  s_c stepG_seq
  s_reg
  s_op
  s_c stepG_region_end
  s_c stepG_seq
  s_reg
  s_op
  s_op
  s_op
  s_c stepG_region_end
  s_c stepG_ret'
  s_stop
  exact LoneTo.done ⟨.returned (.tuple #[.int .i64 0, .bool false]), _, rfl, ⟨rfl, rfl⟩, rfl, rfl, rfl, rfl, _, Try.func22, by simp [results, Try.f22, Frame.at]⟩
set_option maxRecDepth 100000 in
theorem take_int_some (g c : Nat) (n : Int) (cap : Nat) (ps0 : List Nat) (xs : List Value) (w : World) (h : RowAt w g c 65 3 cap ps0 (.int .i64 n :: xs)) :
    Calls Try.prog 22 #[.pointer (some ⟨g, 0, none⟩)] w fun e w' => e = .returned (.tuple #[.int .i64 n, .bool true]) ∧ RowAt w' g c 65 3 cap ps0.tail xs ∧ Fr1 c w w' := by
  obtain ⟨s, r, hc⟩ := h.row
  have hl := h.lie
  have c0 := h.cell
  obtain ⟨p, ps, rfl⟩ : ∃ p ps, ps0 = p :: ps := by
    cases ps0 with
    | nil => exact absurd hl.length (by simp)
    | cons p ps => exact ⟨p, ps, rfl⟩
  have hpc : p ≠ c := by
    rintro rfl
    have := hl.1
    rw [hc] at this
    cases this
  have hp : (w.setChan c cap (ptrs ps) false s (r + 1) false).heap[p]? = some (.cells #[.int .i64 n] 3 (0, 0)) := (setChan_heap_ne _ _ _ _ _ _ _ _ _ hpc).trans hl.1
  have cp : (w.setChan c cap (ptrs ps) false s (r + 1) false).cell? ⟨p, 0, none⟩ = some (.int .i64 n) := by
    rw [cell_of_row _ _ _ _ _ _ hp]; rfl
  refine calls_of_loneTo fun cs => ?_
  have e : Frame.enter Try.prog 22 #[.pointer (some ⟨g, 0, none⟩)] .normal = (base 22).at ⟨#[.pointer (some ⟨g, 0, none⟩), undef, undef, undef, undef, undef, undef, undef, undef, undef, undef, undef, undef, undef, undef, undef, undef, undef], []⟩ [.code (Try.f22.body.getD .skip)] := by
    simp [Frame.enter, Frame.at, Try.func22, base, Try.f22]
  rw [e]
  refine LoneTo.goes (n := 18) ?_
  simp only [Try.f22, Option.getD_some]
  s_c stepG_seq
  s_reg
  s_op
  s_op
  s_c stepG_region_end
  s_c stepG_seq
  s_reg
  s_op
  s_op
  s_op
  s_op
  s_c stepG_region_end
  s_c stepG_seq
  s_reg
  s_stop
  refine LoneTo.step (step_lone_select_recv_buf (c := c) (cap := cap) (buf := ptrs (p :: ps)) (s := s) (r := r) (tm := false) (stepG_comm (cases := #[rcase c (.pointer none)]) (blocking := false) (shape := .select) (w' := w) rfl rfl (by decide) (by simp [go_sem, execOp, rcase, Act.eval])) hc (by rw [ptrs_size]; simp)) ?_
  rw [Frame.finish_at, ptrs_pop, ptrs_head, ptr]
  walk_nrm
  refine LoneTo.goes (n := 22) ?_
  s_op
  s_op
  s_c stepG_region_end
  s_c stepG_block
  s_cond true
  s_c stepG_seq
  s_reg
  s_op
  s_op
  s_c stepG_region_end
  s_c stepG_seq
  s_reg
  s_op
  s_op
  s_op
  s_op
  s_op
  s_c stepG_region_end
  s_c stepG_ret'
  s_stop
  refine LoneTo.done ⟨.returned (.tuple #[.int .i64 n, .bool true]), _, rfl, ⟨rfl, ?_, ?_⟩, rfl, rfl, rfl, rfl, _, Try.func22, by simp [results, Try.f22, Frame.at]⟩
  · exact row_pop h.obj h.big h.le hc hl (fr1_setChan (Fr.refl _ _) _ _ _ _ _ _) (heap_setChan _ _ _ _ _ _ _ _ (lt_of_heap hc))
  · exact fr1_setChan (Fr.refl _ _) _ _ _ _ _ _
theorem info_int : (Try.prog.info? 3).map (fun i => (i.zero, i.size, i.bytes)) = some (some (.int .i64 0), 1, 8) := by kernel_rfl
def IsInt (x : Value) : Prop := ∃ (n : Int), x = .int .i64 n
set_option maxHeartbeats 1000000 in
theorem list_int (g c cap : Nat) (ps : List Nat) (xs : List Value) (hx : ∀ x ∈ xs, IsInt x) (w : World) (h : RowAt w g c 65 3 cap ps xs) :
    Calls Try.prog 23 #[.pointer (some ⟨g, 0, none⟩)] w fun e w' => ∃ b ps', e = .returned (.slice (some ⟨b, 0, none⟩) xs.length xs.length) ∧ w'.ownsRow w.heap.size 3 1 (.slice (some ⟨b, 0, none⟩) xs.length xs.length) xs.length xs ∧ RowAt w' g c 65 3 cap ps' xs ∧ (∀ p ∈ ps', p ∈ ps ∨ b < p) ∧ Fr1 c w w' := by
  have HR := Lib.hid h
  have HX := Lib.hid hx
  have hle : xs.length ≤ 4096 := Nat.le_trans h.le h.big
  clear h hx
  go_enter Try.func23, Try.ntmps23
  go_wp2_with fail
  refine (len_int g c cap ps xs w HR.out).mono ?_
  rintro e w1 ⟨rfl, rfl⟩
  obtain ⟨ei, hi, hz0, hz1, hz2⟩ := info_parts info_int
  go_wp2_with (refine wpList_make_own _ rfl _ _ 41 rfl w.heap.size 3 ei (.int .i64 0) 1 Try.underlying41 hi hz0 hz1 .i64 .i64 _ xs.length rfl rfl rfl (by rw [hz2]; omega) (by unfold maxLen; omega) (Nat.le_refl _) ?_; intro w1 hO1 hG1)
  clear hi hz0 hz1 hz2
  have hF1 : Fr0 w w1 := (Fr.refl _ w).grown hG1 (fun _ _ e => by cases e)
  have HO1 := Lib.hid hO1
  have HF1 := Lib.hid hF1
  have HR1 := Lib.hid (HR.out.fr0 hF1)
  clear hO1 hG1 hF1
  go_wp2_with fail
  refine (len_int g c cap ps xs w1 HR1.out).mono ?_
  rintro e w2 ⟨rfl, rfl⟩
  go_wp2
  go_loopw [3, 11] (fun v i wr => ∃ (k : Nat) (ps' : List Nat), k ≤ xs.length ∧ i = .int .i64 k ∧ v = .slice (some ⟨w.heap.size, 0, none⟩) k xs.length ∧ wr.ownsRow w.heap.size 3 1 (.slice (some ⟨w.heap.size, 0, none⟩) k xs.length) k (xs.take k) ∧ RowAt wr g c 65 3 cap ps' (xs.drop k ++ xs.take k) ∧ (∀ p ∈ ps', p ∈ ps ∨ w.heap.size < p) ∧ Fr1 c w wr) (fun _ i _ => xs.length - (intOf i).toNat)
  case atStart => exact ⟨0, ps, Nat.zero_le _, rfl, rfl, by simpa using HO1.out, by simpa using HR1.out, fun p hp => .inl hp, HF1.out.zero⟩
  case round =>
    clear HO1 HR1 HF1
    obtain ⟨k, ps', hk, rfl, rfl, hown, hrg, hps, hF⟩ := hrel
    have HOWN := Lib.hid hown
    have HRG := Lib.hid hrg
    have HPS := Lib.hid hps
    have HF := Lib.hid hF
    clear hown hrg hps hF
    by_cases hlt : k < xs.length
    · obtain ⟨x, hxk⟩ : ∃ x, xs[k]? = some x := ⟨xs[k], List.getElem?_eq_getElem hlt⟩
      have hd : xs.drop k = x :: xs.drop (k + 1) := by
        rw [List.drop_eq_getElem_cons hlt]
        rw [List.getElem?_eq_getElem hlt] at hxk
        rw [Option.some.inj hxk]
      have ht : xs.take (k + 1) = xs.take k ++ [x] := by rw [List.take_add_one, hxk]; rfl
      obtain ⟨n, rfl⟩ := HX.out x (List.mem_of_getElem? hxk)
      have HT := Lib.hid ht
      have hrg := HRG.out
      rw [hd, List.cons_append] at hrg
      have HRG1 := Lib.hid hrg
      clear hd ht hxk hrg
      go_wp2_with fail
      refine (take_int_some g c n cap _ _ wr HRG1.out).mono ?_
      rintro e w3 ⟨rfl, hR3, hF3⟩
      have hroom : (xs.drop (k + 1) ++ xs.take k).length < cap := by have := HRG1.out.le; simp at this; simp; omega
      have HR3 := Lib.hid hR3
      have HROOM := Lib.hid hroom
      have HOWN3 := Lib.hid (owns_fr1 HOWN.out hF3 HRG1.out.chan)
      have HF3 := Lib.hid (HF.out.trans' hF3)
      clear hR3 hF3 hroom
      go_wp2_with fail
      refine (put_int_room g c n cap _ _ w3 HR3.out HROOM.out).mono ?_
      rintro e w4 ⟨rfl, hR4, hF4⟩
      rw [List.append_assoc, ← HT.out] at hR4
      have HR4 := Lib.hid hR4
      have HOWN4 := Lib.hid (owns_fr1 HOWN3.out hF4 HR3.out.chan)
      have HF4 := Lib.hid (HF3.out.trans' hF4)
      have hsz : w.heap.size ≤ w4.heap.size := HF4.out.size
      have hps4 : ∀ p ∈ ps'.tail ++ [w3.heap.size], p ∈ ps ∨ w.heap.size < p := fun p hp => by
        rcases List.mem_append.1 hp with hp | hp
        · exact HPS.out p (List.mem_of_mem_tail hp)
        · have h1 := (HOWN3.out.lt w.heap.size rfl).2
          simp at hp
          omega
      have HPS4 := Lib.hid hps4
      clear hR4 hF4 HR3 HROOM HOWN3 HF3 HOWN HF HRG HRG1 hps4 HPS
      obtain ⟨ei, hi, hz0, hz1, hz2⟩ := info_parts info_int
      go_wp2_with (at_builtin; refine wpList_append_fits _ rfl _ _ 41 rfl w.heap.size 3 ei 1 Try.underlying41 hi hz1 w.heap.size k xs.length (xs.take k) rfl (HOWN4.out.alloc _) ⟨w4.heap.size, 0, none⟩ 1 1 [.int .i64 n] rfl rfl (cell_one_new _ _ _) (by intro u hu; simp at hu; subst hu; rfl) (by omega) ?_)
      intro w5 hown2 hgr2
      clear hi hz0 hz1 hz2
      have hF5 : Fr1 w.heap.size w4 w5 := (Fr.alloc (Fr.refl _ w4) _).grown hgr2 (fun q hq e => by cases e; rfl)
      have HO5 : Hid (w5.ownsRow w.heap.size 3 1 (.slice (some ⟨w.heap.size, 0, none⟩) (k + 1) xs.length) (k + 1) (xs.take (k + 1))) := Lib.hid (by rw [HT.out]; exact hown2)
      have hgl : g < w.heap.size := lt_of_heap HR.out.obj
      have hR5 : RowAt w5 g c 65 3 cap (ps'.tail ++ [w3.heap.size]) (xs.drop (k + 1) ++ xs.take (k + 1)) := HR4.out.frB hF5 (by omega) (by
        obtain ⟨g', cap', cur, he, _, hg', _⟩ := HOWN4.out.2.resolve_left (fun hh => by cases hh.1)
        cases he
        exact ⟨_, _, _, hg'⟩) (fun hm => by
        rcases HPS4.out _ hm with h1 | h1
        · exact absurd (HR.out.lie.lt _ h1) (Nat.lt_irrefl _)
        · exact absurd h1 (Nat.lt_irrefl _))
      have HR5 := Lib.hid hR5
      have HF5 := Lib.hid (HF4.out.trans hF5 (fun i hi e => by have e' : i = w.heap.size := e; omega))
      clear hown2 hgr2 hF5 hR5
      go_wp2
      go_roundw
      case rel => exact ⟨k + 1, _, by omega, by go_num, rfl, HO5.out, HR5.out, HPS4.out, HF5.out⟩
      case measure => simp only [intOf]; omega
    · obtain rfl : k = xs.length := by omega
      have HO : Hid (wr.ownsRow w.heap.size 3 1 (.slice (some ⟨w.heap.size, 0, none⟩) xs.length xs.length) xs.length xs) := Lib.hid (by have := HOWN.out; rwa [List.take_length] at this)
      have HRR : Hid (RowAt wr g c 65 3 cap ps' xs) := Lib.hid (by have := HRG.out; rwa [List.drop_length, List.take_length, List.nil_append] at this)
      clear HOWN HRG
      go_wp2
      go_ret
      exact ⟨_, _, rfl, HO.out, HRR.out, HPS.out, HF.out⟩
end Go.Proofs.Ytgmfheofhpdcfaa.Ring
