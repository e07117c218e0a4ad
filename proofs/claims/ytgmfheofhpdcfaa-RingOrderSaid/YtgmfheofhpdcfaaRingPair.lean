/-
  The walks of a row of items of type [2]int (made by wip/tools/ring.py).
-/
import Derived.Test.YtgmfheofhpdcfaaRingSpec
import Derived.Test.YtgmfheofhpdcfaaChecked
import Derived.Deep.WholeRow
import Derived.Laws.Rows
import Derived.Laws.Runes
import Derived.Laws.Tables
import Derived.KernelRfl
namespace Go.Proofs.Ytgmfheofhpdcfaa.Ring
open Go.RowKit Go.Conc Base

theorem len_pair (g c : Nat) (cap : Nat) (ps : List Nat) (xs : List Value) (w : World) (h : RowAt w g c 69 49 cap ps xs) :
    Calls Try.prog 27 #[.pointer (some ⟨g, 0, none⟩)] w fun e w' => e = .returned (.int .i64 ((xs.length : Nat) : Int)) ∧ w = w' := by
  obtain ⟨s, r, hc⟩ := h.row
  have hl := h.lie
  have c0 := h.cell
  have hq := fun ty => run_len_chan (P := Try.prog) 67 ty Try.underlying67 hc
  rw [ptrs_size, hl.length] at hq
  simp only [goInt] at hq
  clear hc hl
  go_enter Try.func27, Try.ntmps27
  go_wp2
  go_ret
  exact ⟨rfl, rfl⟩
theorem new_pair (m : Int) (w : World) :
    Calls Try.prog 25 #[.int .i64 m] w fun e w' => ∃ g, e = .returned (.pointer (some ⟨g, 0, none⟩)) ∧ w.heap.size ≤ g ∧ ∃ c, w.heap.size ≤ c ∧ RowAt w' g c 69 49 (held m) [] [] ∧ Fr0 w w' := by
  obtain ⟨i, hi, hb⟩ : ∃ i, Try.prog.info? 70 = some i ∧ i.bytes = 8 := by
    have h : (Try.prog.info? 70).map (·.bytes) = some 8 := by kernel_rfl
    obtain ⟨i, hi, hb⟩ := Option.map_eq_some_iff.1 h
    exact ⟨i, hi, hb⟩
  have hmk : ∀ (k : Nat), k ≤ 4096 → (Instr.makeChan 67 (.int .i64 (k : Int))).run Try.prog w = .ok (.chan (some w.heap.size)) (w.alloc (.chan k #[] false 0 0 false)) := fun k hk =>
    run_makeChan (P := Try.prog) Try.underlying67 hi .i64 k (by omega) (by rw [hb]; omega)
  clear hi hb
  have fin : ∀ k, k = held m → RowAt ((w.alloc (.chan k #[] false 0 0 false)).alloc (.cells #[.chan (some w.heap.size)] 69)) (w.heap.size + 1) w.heap.size 69 49 (held m) [] [] := fun k hk => by
    subst hk
    exact row_new w _ _ (held m) (held_le m) _ _ rfl rfl
  have HF := Lib.hid fin
  clear fin
  by_cases h1 : m ≤ 1
  · have hk := hmk 1 (by omega)
    simp only [show ((1 : Nat) : Int) = 1 from rfl] at hk
    by_cases h2 : m = 1
    · subst h2
      go_enter Try.func25, Try.ntmps25
      go_wp2
      go_ret
      exact ⟨_, rfl, Nat.le_succ _, _, Nat.le_refl _, HF.out 1 (by decide), ((Fr.refl _ _).alloc _).alloc _⟩
    · have hlt : m < 1 := by omega
      go_enter Try.func25, Try.ntmps25
      go_wp2
      go_ret
      exact ⟨_, rfl, Nat.le_succ _, _, Nat.le_refl _, HF.out 1 (by unfold held; omega), ((Fr.refl _ _).alloc _).alloc _⟩
  · by_cases h2 : m < 4096
    · obtain ⟨k, rfl⟩ := Int.eq_ofNat_of_zero_le (show 0 ≤ m by omega)
      have hk := hmk k (by omega)
      have hlt : ¬ (k : Int) < 1 := by omega
      go_enter Try.func25, Try.ntmps25
      go_wp2
      go_ret
      exact ⟨_, rfl, Nat.le_succ _, _, Nat.le_refl _, HF.out k (by unfold held; omega), ((Fr.refl _ _).alloc _).alloc _⟩
    · have hk := hmk 4096 (by omega)
      simp only [show ((4096 : Nat) : Int) = 4096 from rfl] at hk
      by_cases h3 : m = 4096
      · subst h3
        go_enter Try.func25, Try.ntmps25
        go_wp2
        go_ret
        exact ⟨_, rfl, Nat.le_succ _, _, Nat.le_refl _, HF.out 4096 (by unfold held; omega), ((Fr.refl _ _).alloc _).alloc _⟩
      · have hlt : ¬ m < 1 := by omega
        have hgt : 4096 < m := by omega
        have hlt2 : ¬ m < 4096 := h2
        go_enter Try.func25, Try.ntmps25
        go_wp2
        go_ret
        exact ⟨_, rfl, Nat.le_succ _, _, Nat.le_refl _, HF.out 4096 (by unfold held; omega), ((Fr.refl _ _).alloc _).alloc _⟩
set_option maxRecDepth 100000 in
theorem put_pair_room (g c : Nat) (n n1 : Int) (cap : Nat) (ps : List Nat) (xs : List Value) (w : World) (h : RowAt w g c 69 49 cap ps xs) (hroom : xs.length < cap) :
    Calls Try.prog 26 #[.pointer (some ⟨g, 0, none⟩), .agg #[.int .i64 n, .int .i64 n1]] w fun e w' => e = .returned (.bool true) ∧ RowAt w' g c 69 49 cap (ps ++ [w.heap.size]) (xs ++ [.agg #[.int .i64 n, .int .i64 n1]]) ∧ Fr1 c w w' := by
  obtain ⟨s, r, hc⟩ := h.row
  have hl := h.lie
  have hgl := lt_of_heap h.obj
  have hcl := lt_of_heap hc
  have c0 : (w.alloc (.cells #[.int .i64 n, .int .i64 n1] 49)).cell? ⟨g, 0, none⟩ = some (.chan (some c)) := by
    rw [cell_of_row _ _ _ _ _ _ ((Below.heap_alloc w _ g hgl).trans h.obj)]; rfl
  have hc1 : (w.alloc (.cells #[.int .i64 n, .int .i64 n1] 49)).heap[c]? = some (.chan cap (ptrs ps) false s r false) := (Below.heap_alloc w _ c hcl).trans hc
  refine calls_of_loneTo fun cs => ?_
  have e : Frame.enter Try.prog 26 #[.pointer (some ⟨g, 0, none⟩), .agg #[.int .i64 n, .int .i64 n1]] .normal = (base 26).at ⟨#[.pointer (some ⟨g, 0, none⟩), .agg #[.int .i64 n, .int .i64 n1], undef, undef, undef, undef, undef, undef, undef, undef, undef, undef], []⟩ [.code (Try.f26.body.getD .skip)] := by
    simp [Frame.enter, Frame.at, Try.func26, base, Try.f26]
  rw [e]
  refine LoneTo.goes (n := 18) ?_
  simp only [Try.f26, Option.getD_some]
  s_c stepG_seq
  s_reg
  s_op
  s_op
  s_c stepG_region_end
  s_c stepG_seq
  s_reg
  s_op
  s_op
  s_op
  s_op
  s_c stepG_region_end
  s_c stepG_seq
  s_reg
  s_stop
  refine LoneTo.step (step_lone_select_send_room (c := c) (cap := cap) (buf := ptrs ps) (s := s) (r := r) (tm := false) (stepG_comm (cases := #[scase c (ptr w.heap.size) (.pointer none)]) (blocking := false) (shape := .select) (w' := (w.alloc (.cells #[.int .i64 n, .int .i64 n1] 49))) rfl rfl (by decide) (by simp [go_sem, execOp, scase, Act.eval, ptr])) hc1 (by rw [ptrs_size, hl.length]; exact hroom)) ?_
  rw [Frame.finish_at]
  walk_nrm
  refine LoneTo.goes (n := 12) ?_
  s_op
  s_op
  s_c stepG_region_end
  s_c stepG_block
  s_cond true
  s_c stepG_seq
  s_reg
  s_op
  s_c stepG_region_end
  s_c stepG_ret'
  s_stop
  refine LoneTo.done ⟨.returned (.bool true), _, rfl, ⟨rfl, ?_, ?_⟩, rfl, rfl, rfl, rfl, _, Try.func26, by simp [results, Try.f26, Frame.at]⟩
  · rw [ptrs_push]
    exact row_push h.obj h.big hc hl hroom (.agg #[.int .i64 n, .int .i64 n1]) _ _
  · exact fr1_setChan ((Fr.refl _ _).alloc _) _ _ _ _ _ _
set_option maxRecDepth 100000 in
theorem put_pair_full (g c : Nat) (n n1 : Int) (cap : Nat) (ps : List Nat) (xs : List Value) (w : World) (h : RowAt w g c 69 49 cap ps xs) (hfull : ¬ xs.length < cap) :
    Calls Try.prog 26 #[.pointer (some ⟨g, 0, none⟩), .agg #[.int .i64 n, .int .i64 n1]] w fun e w' => e = .returned (.bool false) ∧ RowAt w' g c 69 49 cap ps xs ∧ Fr0 w w' := by
  obtain ⟨s, r, hc⟩ := h.row
  have hl := h.lie
  have hgl := lt_of_heap h.obj
  have hcl := lt_of_heap hc
  have c0 : (w.alloc (.cells #[.int .i64 n, .int .i64 n1] 49)).cell? ⟨g, 0, none⟩ = some (.chan (some c)) := by
    rw [cell_of_row _ _ _ _ _ _ ((Below.heap_alloc w _ g hgl).trans h.obj)]; rfl
  have hc1 : (w.alloc (.cells #[.int .i64 n, .int .i64 n1] 49)).heap[c]? = some (.chan cap (ptrs ps) false s r false) := (Below.heap_alloc w _ c hcl).trans hc
  refine calls_of_loneTo fun cs => ?_
  have e : Frame.enter Try.prog 26 #[.pointer (some ⟨g, 0, none⟩), .agg #[.int .i64 n, .int .i64 n1]] .normal = (base 26).at ⟨#[.pointer (some ⟨g, 0, none⟩), .agg #[.int .i64 n, .int .i64 n1], undef, undef, undef, undef, undef, undef, undef, undef, undef, undef], []⟩ [.code (Try.f26.body.getD .skip)] := by
    simp [Frame.enter, Frame.at, Try.func26, base, Try.f26]
  rw [e]
  refine LoneTo.goes (n := 18) ?_
  simp only [Try.f26, Option.getD_some]
  s_c stepG_seq
  s_reg
  s_op
  s_op
  s_c stepG_region_end
  s_c stepG_seq
  s_reg
  s_op
  s_op
  s_op
  s_op
  s_c stepG_region_end
  s_c stepG_seq
  s_reg
  s_stop
  refine LoneTo.step (step_lone_select_send_full (c := c) (cap := cap) (buf := ptrs ps) (s := s) (r := r) (tm := false) (stepG_comm (cases := #[scase c (ptr w.heap.size) (.pointer none)]) (blocking := false) (shape := .select) (w' := (w.alloc (.cells #[.int .i64 n, .int .i64 n1] 49))) rfl rfl (by decide) (by simp [go_sem, execOp, scase, Act.eval, ptr])) hc1 (by rw [ptrs_size, hl.length]; omega)) ?_
  rw [Frame.finish_at]
  walk_nrm
  refine LoneTo.goes (n := 12) ?_
  s_op
  s_op
  s_c stepG_region_end
  s_c stepG_block
  s_cond false
  s_c stepG_seq
  s_reg
  s_op
  s_c stepG_region_end
  s_c stepG_ret'
  s_stop
  refine LoneTo.done ⟨.returned (.bool false), _, rfl, ⟨rfl, ?_, ?_⟩, rfl, rfl, rfl, rfl, _, Try.func26, by simp [results, Try.f26, Frame.at]⟩
  · exact h.fr0 ((Fr.refl _ _).alloc _)
  · exact (Fr.refl _ _).alloc _
theorem put_pair (g c : Nat) (n n1 : Int) (cap : Nat) (ps : List Nat) (xs : List Value) (w : World) (h : RowAt w g c 69 49 cap ps xs) :
    Calls Try.prog 26 #[.pointer (some ⟨g, 0, none⟩), .agg #[.int .i64 n, .int .i64 n1]] w fun e w' => e = .returned (.bool (decide (xs.length < cap))) ∧ (∃ ps', RowAt w' g c 69 49 cap ps' (if xs.length < cap then xs ++ [.agg #[.int .i64 n, .int .i64 n1]] else xs) ∧ ∀ p ∈ ps', p ∈ ps ∨ p = w.heap.size) ∧ Fr1 c w w' := by
  by_cases hr : xs.length < cap
  · rw [if_pos hr, decide_eq_true hr]
    refine (put_pair_room g c n n1 cap ps xs w h hr).mono ?_
    rintro e w' ⟨rfl, h1, h2⟩
    refine ⟨rfl, ⟨_, h1, fun p hp => ?_⟩, h2⟩
    rcases List.mem_append.1 hp with hp | hp
    · exact .inl hp
    · exact .inr (by simpa using hp)
  · rw [if_neg hr, decide_eq_false hr]
    refine (put_pair_full g c n n1 cap ps xs w h hr).mono ?_
    rintro e w' ⟨rfl, h1, h2⟩
    exact ⟨rfl, ⟨_, h1, fun p hp => .inl hp⟩, h2.zero⟩
set_option maxRecDepth 100000 in
theorem take_pair_none (g c : Nat) (cap : Nat) (ps : List Nat) (w : World) (h : RowAt w g c 69 49 cap ps []) :
    Calls Try.prog 28 #[.pointer (some ⟨g, 0, none⟩)] w fun e w' => e = .returned (.tuple #[.agg #[.int .i64 0, .int .i64 0], .bool false]) ∧ Fr0 w w' := by
  obtain ⟨s, r, hc⟩ := h.row
  have hl := h.lie
  obtain rfl : ps = [] := List.eq_nil_of_length_eq_zero hl.length
  have c0 : (w.alloc (.cells #[.int .i64 0, .int .i64 0] 49)).cell? ⟨g, 0, none⟩ = some (.chan (some c)) := by
    rw [cell_of_row _ _ _ _ _ _ ((Below.heap_alloc w _ g (lt_of_heap h.obj)).trans h.obj)]; rfl
  have hcl := lt_of_heap hc
  have hcA : (w.alloc (.cells #[.int .i64 0, .int .i64 0] 49)).heap[c]? = _ := (Below.heap_alloc w _ c hcl).trans hc
  have hn : ((w.alloc (.cells #[.int .i64 0, .int .i64 0] 49)).alloc (.cells #[.int .i64 0, .int .i64 0] 49)).heap[w.heap.size]? = some (.cells #[.int .i64 0, .int .i64 0] 49 (0, 0)) := (Below.heap_alloc _ _ _ (by simp)).trans (heap_alloc_new w _)
  have hp : ((w.alloc (.cells #[.int .i64 0, .int .i64 0] 49)).alloc (.cells #[.int .i64 0, .int .i64 0] 49)).heap[w.heap.size + 1]? = some (.cells #[.int .i64 0, .int .i64 0] 49 (0, 0)) := by
    have := heap_alloc_new (w.alloc (.cells #[.int .i64 0, .int .i64 0] 49)) (.cells #[.int .i64 0, .int .i64 0] 49)
    simpa only [World.size_alloc] using this
  have hld := run_loadVar_row (P := Try.prog) ((w.alloc (.cells #[.int .i64 0, .int .i64 0] 49)).alloc (.cells #[.int .i64 0, .int .i64 0] 49)) (w.heap.size + 1) 49 49 #[.int .i64 0, .int .i64 0] (0, 0) _ hp Try.underlying49 rfl (by kernel_rfl)
  have hst := run_storeVar_row (P := Try.prog) ((w.alloc (.cells #[.int .i64 0, .int .i64 0] 49)).alloc (.cells #[.int .i64 0, .int .i64 0] 49)) w.heap.size 49 49 #[.int .i64 0, .int .i64 0] #[.int .i64 0, .int .i64 0] hn (by kernel_rfl) rfl (by simp [Value.oneCell'])
  have hrd := run_loadVar_row (P := Try.prog) ((w.alloc (.cells #[.int .i64 0, .int .i64 0] 49)).alloc (.cells #[.int .i64 0, .int .i64 0] 49)) w.heap.size 49 49 #[.int .i64 0, .int .i64 0] (0, 0) _ hn Try.underlying49 rfl (by kernel_rfl)
  have hF : Fr0 w ((w.alloc (.cells #[.int .i64 0, .int .i64 0] 49)).alloc (.cells #[.int .i64 0, .int .i64 0] 49)) := ((Fr.refl _ _).alloc _).alloc _
  refine calls_of_loneTo fun cs => ?_
  have e : Frame.enter Try.prog 28 #[.pointer (some ⟨g, 0, none⟩)] .normal = (base 28).at ⟨#[.pointer (some ⟨g, 0, none⟩), undef, undef, undef, undef, undef, undef, undef, undef, undef, undef, undef, undef, undef, undef, undef, undef, undef], []⟩ [.code (Try.f28.body.getD .skip)] := by
    simp [Frame.enter, Frame.at, Try.func28, base, Try.f28]
  rw [e]
  refine LoneTo.goes (n := 18) ?_
  simp only [Try.f28, Option.getD_some]
  s_c stepG_seq
  s_reg
  s_op
  s_op
  s_c stepG_region_end
  s_c stepG_seq
  s_reg
  s_op
  s_op
  s_op
  s_op
  s_c stepG_region_end
  s_c stepG_seq
  s_reg
  s_stop
  refine LoneTo.step (step_lone_select_default (c := c) (cap := cap) (s := s) (r := r) (tm := false) (stepG_comm (cases := #[rcase c (.pointer none)]) (blocking := false) (shape := .select) (w' := (w.alloc (.cells #[.int .i64 0, .int .i64 0] 49))) rfl rfl (by decide) (by simp [go_sem, execOp, rcase, Act.eval])) hcA) ?_
  rw [Frame.finish_at]
  walk_nrm
  refine LoneTo.goes (n := 17) ?_
  s_op
  s_op
  s_c stepG_region_end
  s_c stepG_block
  s_cond false
  s_c stepG_seq
  s_reg
  s_op
  s_c stepG_region_end
  s_c stepG_seq
  s_reg
  s_op
  s_op
  s_op
  s_c stepG_region_end
  s_c stepG_ret'
  s_stop
  refine LoneTo.done ⟨.returned (.tuple #[.agg #[.int .i64 0, .int .i64 0], .bool false]), _, rfl, ⟨rfl, hF⟩, rfl, rfl, rfl, rfl, _, Try.func28, by simp [results, Try.f28, Frame.at, asAddr, hrd]⟩
set_option maxRecDepth 100000 in
theorem take_pair_some (g c : Nat) (n n1 : Int) (cap : Nat) (ps0 : List Nat) (xs : List Value) (w : World) (h : RowAt w g c 69 49 cap ps0 (.agg #[.int .i64 n, .int .i64 n1] :: xs)) :
    Calls Try.prog 28 #[.pointer (some ⟨g, 0, none⟩)] w fun e w' => e = .returned (.tuple #[.agg #[.int .i64 n, .int .i64 n1], .bool true]) ∧ RowAt w' g c 69 49 cap ps0.tail xs ∧ Fr1 c w w' := by
  obtain ⟨s, r, hc⟩ := h.row
  have hl := h.lie
  obtain ⟨p, ps, rfl⟩ : ∃ p ps, ps0 = p :: ps := by
    cases ps0 with
    | nil => exact absurd hl.length (by simp)
    | cons p ps => exact ⟨p, ps, rfl⟩
  have hpc : p ≠ c := by
    rintro rfl
    have := hl.1
    rw [hc] at this
    cases this
  have hpl := lt_of_heap hl.1
  have c0 : (w.alloc (.cells #[.int .i64 0, .int .i64 0] 49)).cell? ⟨g, 0, none⟩ = some (.chan (some c)) := by
    rw [cell_of_row _ _ _ _ _ _ ((Below.heap_alloc w _ g (lt_of_heap h.obj)).trans h.obj)]; rfl
  have hcl := lt_of_heap hc
  have hcA : (w.alloc (.cells #[.int .i64 0, .int .i64 0] 49)).heap[c]? = _ := (Below.heap_alloc w _ c hcl).trans hc
  have hp : ((w.alloc (.cells #[.int .i64 0, .int .i64 0] 49)).setChan c cap (ptrs ps) false s (r + 1) false).heap[p]? = some (.cells #[.int .i64 n, .int .i64 n1] 49 (0, 0)) := (setChan_heap_ne _ _ _ _ _ _ _ _ _ hpc).trans ((Below.heap_alloc w _ p hpl).trans hl.1)
  have hn : ((w.alloc (.cells #[.int .i64 0, .int .i64 0] 49)).setChan c cap (ptrs ps) false s (r + 1) false).heap[w.heap.size]? = some (.cells #[.int .i64 0, .int .i64 0] 49 (0, 0)) := (setChan_heap_ne _ _ _ _ _ _ _ _ _ (by omega)).trans (heap_alloc_new w _)
  have cp0 : ((w.alloc (.cells #[.int .i64 0, .int .i64 0] 49)).setChan c cap (ptrs ps) false s (r + 1) false).cell? ⟨p, 0, none⟩ = some (.int .i64 n) := by
    rw [cell_of_row _ _ _ _ _ _ hp]; rfl
  have cp1 : ((w.alloc (.cells #[.int .i64 0, .int .i64 0] 49)).setChan c cap (ptrs ps) false s (r + 1) false).cell? ⟨p, 1, none⟩ = some (.int .i64 n1) := by
    rw [cell_of_row _ _ _ _ _ _ hp]; rfl
  have hr0 : ((w.alloc (.cells #[.int .i64 0, .int .i64 0] 49)).setChan c cap (ptrs ps) false s (r + 1) false).rowIs w.heap.size 49 2 (fun _ => .int .i64 0) := rowIs_of_cells hn rfl (fun i hi => by
    match i, hi with
    | 0, _ => rfl
    | 1, _ => rfl)
  have hr1 := hr0.set 0 (.int .i64 n)
  have hr2 := hr1.set 1 (.int .i64 n1)
  have n0 := hr0.cell (i := 0) (by decide)
  have n1' := hr1.cell (i := 1) (by decide)
  have f0 := hr0.frozen 0
  have f1 := hr1.frozen 1
  simp only [Nat.one_ne_zero, if_false] at n1'
  have hn2 : ((((w.alloc (.cells #[.int .i64 0, .int .i64 0] 49)).setChan c cap (ptrs ps) false s (r + 1) false).setCell ⟨w.heap.size, 0, none⟩ (.int .i64 n)).setCell ⟨w.heap.size, 1, none⟩ (.int .i64 n1)).heap[w.heap.size]? = some (.cells #[.int .i64 n, .int .i64 n1] 49 (0, 0)) := by
    rw [row_cells hr2]
    rfl
  have hrd := run_loadVar_row (P := Try.prog) ((((w.alloc (.cells #[.int .i64 0, .int .i64 0] 49)).setChan c cap (ptrs ps) false s (r + 1) false).setCell ⟨w.heap.size, 0, none⟩ (.int .i64 n)).setCell ⟨w.heap.size, 1, none⟩ (.int .i64 n1)) w.heap.size 49 49 #[.int .i64 n, .int .i64 n1] (0, 0) _ hn2 Try.underlying49 rfl (by kernel_rfl)
  have hF : Fr1 c w ((((w.alloc (.cells #[.int .i64 0, .int .i64 0] 49)).setChan c cap (ptrs ps) false s (r + 1) false).setCell ⟨w.heap.size, 0, none⟩ (.int .i64 n)).setCell ⟨w.heap.size, 1, none⟩ (.int .i64 n1)) := Fr.setCell (Fr.setCell (fr1_setChan ((Fr.refl _ _).alloc _) _ _ _ _ _ _) (p := ⟨w.heap.size, 0, none⟩) (fun hh => absurd hh (Nat.lt_irrefl _)) _) (p := ⟨w.heap.size, 1, none⟩) (fun hh => absurd hh (Nat.lt_irrefl _)) _
  have hcB : ((((w.alloc (.cells #[.int .i64 0, .int .i64 0] 49)).setChan c cap (ptrs ps) false s (r + 1) false).setCell ⟨w.heap.size, 0, none⟩ (.int .i64 n)).setCell ⟨w.heap.size, 1, none⟩ (.int .i64 n1)).heap[c]? = some (.chan cap (ptrs ps) false s (r + 1) false) :=
    (Below.heap_setCell _ _ _ _ (fun e => by have e' : c = w.heap.size := e; omega)).trans ((Below.heap_setCell _ _ _ _ (fun e => by have e' : c = w.heap.size := e; omega)).trans (heap_setChan _ _ _ _ _ _ _ _ (by simp; omega)))
  refine calls_of_loneTo fun cs => ?_
  have e : Frame.enter Try.prog 28 #[.pointer (some ⟨g, 0, none⟩)] .normal = (base 28).at ⟨#[.pointer (some ⟨g, 0, none⟩), undef, undef, undef, undef, undef, undef, undef, undef, undef, undef, undef, undef, undef, undef, undef, undef, undef], []⟩ [.code (Try.f28.body.getD .skip)] := by
    simp [Frame.enter, Frame.at, Try.func28, base, Try.f28]
  rw [e]
  refine LoneTo.goes (n := 18) ?_
  simp only [Try.f28, Option.getD_some]
  s_c stepG_seq
  s_reg
  s_op
  s_op
  s_c stepG_region_end
  s_c stepG_seq
  s_reg
  s_op
  s_op
  s_op
  s_op
  s_c stepG_region_end
  s_c stepG_seq
  s_reg
  s_stop
  refine LoneTo.step (step_lone_select_recv_buf (c := c) (cap := cap) (buf := ptrs (p :: ps)) (s := s) (r := r) (tm := false) (stepG_comm (cases := #[rcase c (.pointer none)]) (blocking := false) (shape := .select) (w' := (w.alloc (.cells #[.int .i64 0, .int .i64 0] 49))) rfl rfl (by decide) (by simp [go_sem, execOp, rcase, Act.eval])) hcA (by rw [ptrs_size]; simp)) ?_
  rw [Frame.finish_at, ptrs_pop, ptrs_head, ptr]
  walk_nrm
  refine LoneTo.goes (n := 22) ?_
  s_op
  s_op
  s_c stepG_region_end
  s_c stepG_block
  s_cond true
  s_c stepG_seq
  s_reg
  s_op
  s_op
  s_c stepG_region_end
  s_c stepG_seq
  s_reg
  s_op
  s_op
  s_op
  s_op
  s_op
  s_c stepG_region_end
  s_c stepG_ret'
  s_stop
  refine LoneTo.done ⟨.returned (.tuple #[.agg #[.int .i64 n, .int .i64 n1], .bool true]), _, rfl, ⟨rfl, ?_, ?_⟩, rfl, rfl, rfl, rfl, _, Try.func28, by simp [results, Try.f28, Frame.at, asAddr, hrd]⟩
  · exact row_pop h.obj h.big h.le hc hl hF hcB
  · exact hF
end Go.Proofs.Ytgmfheofhpdcfaa.Ring
