/-
  The walk of the hasher's schedule.
-/
import Derived.Test.YteafnknghnhlgaaDoorShaWalkA
namespace Go.Proofs.YteafnknghnhlgaaDoor.Sha
open Go.RowKit Base

def sched (B : Nat → Int) (n : Nat) (j : Nat) : Value := .int .u32 (if j < n then W B j else 0)
def schedRow (B : Nat → Int) : List Value := (List.range 64).map fun j => .int .u32 (W B j)
theorem schedRow_get (B : Nat → Int) (j : Nat) (h : j < 64) : (schedRow B)[j]? = some (.int .u32 (W B j)) := by simp [schedRow, h]

theorem sched_step (B : Nat → Int) (k : Nat) (v : Value) (hk : k < 16) (hv : v = .int .u32 (be (B (4 * k)) (B (4 * k + 1)) (B (4 * k + 2)) (B (4 * k + 3)))) :
    ∀ i, i < 64 → (if i = k then v else sched B k i) = sched B (k + 1) i := by
  intro i _
  unfold sched
  by_cases h : i = k
  · subst h; rw [if_pos rfl, if_pos (by omega), W_lo B i hk, hv]
  · rw [if_neg h]
    by_cases h' : i < k
    · rw [if_pos h', if_pos (by omega)]
    · rw [if_neg h', if_neg (by omega)]
theorem sched_step2 (B : Nat → Int) (k : Nat) (v : Value) (hk : 16 ≤ k) (hk2 : k < 64) (hv : v = .int .u32 (nextW (W B (k - 16)) (W B (k - 15)) (W B (k - 7)) (W B (k - 2)))) :
    ∀ i, i < 64 → (if i = k then v else sched B k i) = sched B (k + 1) i := by
  intro i _
  unfold sched
  by_cases h : i = k
  · subst h; rw [if_pos rfl, if_pos (by omega), W_hi B i hk hk2, hv]
  · rw [if_neg h]
    by_cases h' : i < k
    · rw [if_pos h', if_pos (by omega)]
    · rw [if_neg h', if_neg (by omega)]
def schedArr (B : Nat → Int) : Array Value := (schedRow B).toArray
theorem schedArr_size (B : Nat → Int) : (schedArr B).size = 64 := by simp [schedArr, schedRow]
theorem info58 : (Tryd.prog.info? 73).map (·.size) = some 64 := by kernel_rfl
theorem schedArr_info (B : Nat → Int) : (Tryd.prog.info? 73).map (·.size) = some (schedArr B).size := info58.trans (congrArg some (schedArr_size B).symm)
theorem schedArr_size0 (B : Nat → Int) : ((List.range 64).map (fun _ : Nat => Value.int IntKind.u32 0)).toArray.size = (schedArr B).size := by simp [schedArr_size]
theorem schedArr_one (B : Nat → Int) : (schedArr B).all (·.oneCell') = true := range_map_one _ (fun _ => rfl)
theorem schedArr_cells {B : Nat → Int} {w : World} {b : Nat} {t : TypeId} (h : w.rowIs b t 64 (sched B 64)) : w.heap[b]? = some (.cells (schedArr B) t (0, 0)) := by
  have e : ∀ i, i < 64 → sched B 64 i = .int .u32 (W B i) := fun i hi => by simp [sched, hi]
  exact row_cells (h.congr e)
theorem row_zero (W0 : World) : (W0.alloc (.cells (Array.replicate 64 (.int .u32 0)) 73)).rowIs W0.heap.size 73 64 (fun _ => .int .u32 0) :=
  rowIs_new _ _ _ _ _ (by simp) (fun i hi => by simp [hi])
theorem row_start (W0 : World) (o : Obj) (B : Nat → Int) : ((W0.alloc o).alloc (.cells (Array.replicate 64 (.int .u32 0)) 73)).rowIs (W0.heap.size + 1) 73 64 (sched B 0) := by
  refine ⟨Array.replicate 64 (.int .u32 0), ?_, by simp, fun i hi => ?_⟩
  · have := heap_alloc_new (W0.alloc o) (.cells (Array.replicate 64 (.int .u32 0)) 73)
    simpa using this
  · simp [sched, hi]

theorem below_drewN {B : Nat} {a w : World} (h : Below B a w) (n : Nat) : Below B a (w.drewN n) := ⟨h.os, h.tape, h.output, h.size, h.block⟩
theorem rowIs_setOtherN {w : World} {b : Nat} {t : TypeId} {n : Nat} {f : Nat → Value} (h : w.rowIs b t n f) {a : Addr} (ha : b ≠ a.block) (v : Value) (k : Nat) : ((w.drewN k).setCell a v).rowIs b t n f := (rowIs_drewN h k).setOther ha v
set_option maxHeartbeats 1000000 in
theorem sched_any (b : Nat) (B : Nat → Int) (w : World) (hb : b < w.heap.size) (hc : ∀ j, j < 64 → w.cell? ⟨b, 8 + j, none⟩ = some (.int .u8 (B j)))
    (hB : ∀ j, j < 64 → 0 ≤ B j ∧ B j < 256) :
    Calls Tryd.prog 41 #[.pointer (some ⟨b, 0, none⟩)] w fun e w' => e = .returned (.agg (schedArr B)) ∧ Below w.heap.size w w' := by
  have HB := Lib.hid hB; clear hB
  go_enter Tryd.func41, Tryd.ntmps41
  go_wp2
  go_loopw [11] (fun i wr => ∃ k : Nat, k ≤ 16 ∧ i = .int .i64 k ∧ wr.rowIs w.heap.size 73 64 (fun _ => .int .u32 0) ∧ wr.rowIs (w.heap.size + 1) 73 64 (sched B k) ∧ Below w.heap.size w wr) (fun i _ => 16 - (intOf i).toNat)
  case atStart =>
    exact ⟨0, Nat.zero_le _, rfl, (row_zero _).alloc _, row_start _ _ B, ((Below.refl _ _).alloc (Nat.le_refl _) _).alloc (by simp) _⟩
  case round =>
    obtain ⟨k, hk, rfl, hz, hrow, hbel⟩ := hrel
    have HZ := Lib.hid hz; clear hz
    by_cases hlt : k < 16
    · have hcell : ∀ j, j < 4 → wr.cell? ⟨b, 8 + 4 * k + j, none⟩ = some (.int .u8 (B (4 * k + j))) := fun j hj => by
        rw [Nat.add_assoc]; exact (hbel.cell hb).trans (hc _ (by omega))
      have hsl : ∀ wx : World, (Instr.sliceAt 50 (.pointer (some ⟨b, 8, none⟩)) (some (.int .i64 (4 * (k:Int)))) (some (.int .i64 (4 * (k:Int) + 4))) none).run Tryd.prog wx = .ok (.slice (some ⟨b, 8 + 4 * k, none⟩) 4 (64 - 4 * k)) wx := by
        intro wx
        have := slice_arr (P := Tryd.prog) 50 5 64 Tryd.underlying50 (by kernel_rfl) ⟨b, 8, none⟩ (4 * k) (4 * k + 4) (by omega) (by omega) (by omega) wx
        rw [show 4 * k + 4 - 4 * k = 4 from by omega, Addr.add_mid] at this
        simpa using this
      have c0 : wr.cell? ⟨b, 8 + 4 * k, none⟩ = some (.int .u8 (B (4 * k))) := hcell 0 (by omega)
      have c1 := hcell 1 (by omega)
      have c2 := hcell 2 (by omega)
      have c3 := hcell 3 (by omega)
      have d0 := HB.out (4 * k) (by omega)
      have d1 := HB.out (4 * k + 1) (by omega)
      have d2 := HB.out (4 * k + 2) (by omega)
      have d3 := HB.out (4 * k + 3) (by omega)
      have e0 : wr.cell? ⟨w.heap.size + 1, k, none⟩ = some (.int .u32 0) := by have := hrow.cell (i := k) (by omega); simpa [sched] using this
      have e1 := hrow.frozen k
      have HR := Lib.hid hrow
      have HL := Lib.hid hbel
      clear hcell hbel hrow
      go_wp2
      go_region
      go_wp2
      go_roundw
      case rel =>
        refine ⟨k + 1, by omega, by go_num, ?_, ?_, ?_⟩
        · exact (HZ.out.setOther (by simp) _).drew
        · exact ((HR.out.set k _).congr (sched_step B k _ hlt rfl)).drew
        · exact (HL.out.setCell (by simp) _).drew
      case measure => simp [intOf]; omega
    · have hk16 : k = 16 := by omega
      rw [hk16] at hrow
      clear hk16
      go_wp2
      go_loopw [6] (fun i wr => ∃ k : Nat, 16 ≤ k ∧ k ≤ 64 ∧ i = .int .i64 k ∧ wr.rowIs w.heap.size 73 64 (fun _ => .int .u32 0) ∧ wr.rowIs (w.heap.size + 1) 73 64 (sched B k) ∧ Below w.heap.size w wr) (fun i _ => 64 - (intOf i).toNat)
      case atStart => exact ⟨16, by omega, by omega, rfl, HZ.out, hrow, hbel⟩
      case round =>
        clear hrow hbel
        rename_i k0 _ _ _
        obtain ⟨k, hk, hk2, rfl, hz, hrow, hbel⟩ := hrel
        have HZ := Lib.hid hz; clear hz
        by_cases hlt : k < 64
        · have hw : ∀ j, j < k → wr.cell? ⟨w.heap.size + 1, j, none⟩ = some (.int .u32 (W B j)) := fun j hj => by
            have := hrow.cell (i := j) (by omega); simpa [sched, hj] using this
          have c15 := hw (k - 15) (by omega)
          have c2 := hw (k - 2) (by omega)
          have c16 := hw (k - 16) (by omega)
          have c7 := hw (k - 7) (by omega)
          have b15 := W_lt B (k - 15) (by omega)
          have b2 := W_lt B (k - 2) (by omega)
          have b16 := W_lt B (k - 16) (by omega)
          have b7 := W_lt B (k - 7) (by omega)
          have e0 : wr.cell? ⟨w.heap.size + 1, k, none⟩ = some (.int .u32 0) := by have := hrow.cell (i := k) (by omega); simpa [sched] using this
          have e1 := hrow.frozen k
          have HR := Lib.hid hrow
          have HL := Lib.hid hbel
          clear hrow hbel hw
          go_wp2
          go_quiet (fail)
          go_wp2_with fail
          refine (rot_any _ (-7) 25 b15.1 b15.2 (by decide) (by decide) _).mono ?_
          rintro e w' ⟨rfl, rfl⟩
          go_wp2_with fail
          refine (rot_any _ (-18) 14 b15.1 b15.2 (by decide) (by decide) _).mono ?_
          rintro e w' ⟨rfl, rfl⟩
          go_wp2_with fail
          refine (rot_any _ (-17) 15 b2.1 b2.2 (by decide) (by decide) _).mono ?_
          rintro e w' ⟨rfl, rfl⟩
          go_wp2_with fail
          refine (rot_any _ (-19) 13 b2.1 b2.2 (by decide) (by decide) _).mono ?_
          rintro e w' ⟨rfl, rfl⟩
          go_wp2
          go_region
          go_wp2
          go_roundw
          case rel =>
            refine ⟨k + 1, by omega, by omega, by go_num, ?_, ?_, ?_⟩
            · exact rowIs_setOtherN HZ.out (by simp) _ _
            · have h' : (wr.drewN (nq + 1)).rowIs (w.heap.size + 1) 73 64 (sched B k) := HR.out
              exact (h'.set k _).congr (sched_step2 B k _ hk hlt rfl)
            · exact Below.setCell (below_drewN HL.out _) (by simp) _
          case measure => simp only [intOf]; omega
        · have hk64 : k = 64 := by omega
          rw [hk64] at hrow
          clear hk64
          have HRC := Lib.hid (schedArr_cells hrow)
          have HZC := Lib.hid (row_cells HZ.out)
          have HB2 := Lib.hid hbel
          clear hbel hrow
          go_wp2_with (first | (refine wpList_load_row rfl 73 _ rfl (w.heap.size + 1) rfl 73 (schedArr B) (0, 0) _ HRC.out Tryd.underlying73 rfl (schedArr_info B) ?_) | (refine wpList_store_row rfl 73 _ _ rfl w.heap.size (schedArr B) rfl rfl 73 _ HZC.out (schedArr_info B) (schedArr_size0 B) (schedArr_one B) ?_))
          exact bodyPost_ret (v := .agg (schedArr B)) (results_cell_row (fn := Tryd.f41) rfl _ _ w.heap.size 73 (schedArr B) (0, 0) _ rfl (setRow_heap _ _ _ _ _ _ HZC.out) Tryd.underlying73 rfl (schedArr_info B)) rfl ⟨rfl, below_setRow HB2.out (Nat.le_refl _) _⟩
end Go.Proofs.YteafnknghnhlgaaDoor.Sha
