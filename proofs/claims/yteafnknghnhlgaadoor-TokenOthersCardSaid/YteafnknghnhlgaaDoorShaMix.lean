/-
  The walk of the hasher's mix: a whole block is worked into the state.
-/
import Derived.Test.YteafnknghnhlgaaDoorShaSched
import Derived.Lib.ItoaWalk
namespace Go.Proofs.YteafnknghnhlgaaDoor.Sha
open Go.RowKit Base

/-- the hasher's cells -/
def hcell (s : St) (B : Nat → Int) (n t : Nat) (j : Nat) : Value := if j < 8 then .int .u32 (s.at j) else if j < 72 then .int .u8 (B (j - 8)) else if j = 72 then .int .i64 n else .int .u64 t
theorem hcell_state (s : St) (B : Nat → Int) (n t : Nat) {w : World} {b : Nat} (h : w.rowIs b 62 74 (hcell s B n t)) (j : Nat) (hj : j < 8) : w.cell? ⟨b, j, none⟩ = some (.int .u32 (s.at j)) := by
  have := h.cell (i := j) (by omega); rw [this]; simp [hcell, hj]
theorem hcell_block (s : St) (B : Nat → Int) (n t : Nat) {w : World} {b : Nat} (h : w.rowIs b 62 74 (hcell s B n t)) (j : Nat) (hj : j < 64) : w.cell? ⟨b, 8 + j, none⟩ = some (.int .u8 (B j)) := by
  have := h.cell (i := 8 + j) (by omega); rw [this]; unfold hcell; rw [if_neg (by omega), if_pos (by omega)]; simp
theorem hcell_waits (s : St) (B : Nat → Int) (n t : Nat) {w : World} {b : Nat} (h : w.rowIs b 62 74 (hcell s B n t)) : w.cell? ⟨b, 72, none⟩ = some (.int .i64 n) := h.cell (i := 72) (by omega)
theorem hcell_total (s : St) (B : Nat → Int) (n t : Nat) {w : World} {b : Nat} (h : w.rowIs b 62 74 (hcell s B n t)) : w.cell? ⟨b, 73, none⟩ = some (.int .u64 t) := h.cell (i := 73) (by omega)

/-- half way through the addition of T -/
def part (s T : St) (B : Nat → Int) (n t m : Nat) (j : Nat) : Value := if j < m then .int .u32 ((s.add T).at j) else hcell s B n t j
theorem index8 (T : St) (m : Nat) (h : m < 8) (wx : World) : (Instr.index 60 (.agg #[.int .u32 (T.at 0), .int .u32 (T.at 1), .int .u32 (T.at 2), .int .u32 (T.at 3), .int .u32 (T.at 4), .int .u32 (T.at 5), .int .u32 (T.at 6), .int .u32 (T.at 7)]) (.int .i64 (m : Int))).run Tryd.prog wx = .ok (.int .u32 (T.at m)) wx := by
  refine index_arr (P := Tryd.prog) 60 59 8 _ Tryd.underlying60 (by kernel_rfl) Tryd.underlying59 rfl _ m h _ ?_ wx
  match m, h with
  | 0, _ => rfl
  | 1, _ => rfl
  | 2, _ => rfl
  | 3, _ => rfl
  | 4, _ => rfl
  | 5, _ => rfl
  | 6, _ => rfl
  | 7, _ => rfl
theorem part_step (s T : St) (B : Nat → Int) (n t m : Nat) (v : Value) (hm : m < 8) (hv : v = .int .u32 ((s.at m + T.at m) % 4294967296)) : ∀ i, i < 74 → (if i = m then v else part s T B n t m i) = part s T B n t (m + 1) i := by
  intro i _
  unfold part
  by_cases h : i = m
  · subst h; rw [if_pos rfl, if_pos (by omega), hv]
    match i, hm with
    | 0, _ => rfl
    | 1, _ => rfl
    | 2, _ => rfl
    | 3, _ => rfl
    | 4, _ => rfl
    | 5, _ => rfl
    | 6, _ => rfl
    | 7, _ => rfl
  · rw [if_neg h]
    by_cases h' : i < m
    · rw [if_pos h', if_pos (by omega)]
    · rw [if_neg h', if_neg (by omega)]
theorem part_done (s T : St) (B : Nat → Int) (n t : Nat) (v : Value) (hv : v = .int .i64 ((0 : Nat) : Int)) : ∀ i, i < 74 → (if i = 72 then v else part s T B n t 8 i) = hcell (s.add T) B 0 t i := by
  intro i _
  unfold part hcell
  by_cases h : i = 72
  · subst h; simp [hv]
  · rw [if_neg h]
    by_cases h' : i < 8
    · rw [if_pos h', if_pos h']
    · rw [if_neg h', if_neg h', if_neg h', if_neg h, if_neg h]
/-- the table of the rounds lies there -/
def Rounds (w : World) : Prop := ∀ i, i < 64 → w.cell? ⟨0, i, none⟩ = some (.int .u32 (K i))
theorem Rounds.fr {S : Nat → Prop} {w w' : World} (h : Rounds w) (hf : Fr S w w') (hs : ¬ S 0) : Rounds w' := fun i hi => by
  have := h i hi
  rw [hf.cell (p := ⟨0, i, none⟩) (World.block_lt_of_cell? w _ this) hs]; exact this

set_option maxHeartbeats 1000000 in
set_option maxRecDepth 100000 in
theorem mix_any (b : Nat) (s : St) (hs : s.ok) (B : Nat → Int) (hB : ∀ j, j < 64 → 0 ≤ B j ∧ B j < 256) (n t : Nat) (w : World) (h : w.rowIs b 62 74 (hcell s B n t)) (hK : Rounds w) (hb : b ≠ 0) :
    Calls Tryd.prog 39 #[.pointer (some ⟨b, 0, none⟩)] w fun e w' => e = .returned (.tuple #[]) ∧ w'.rowIs b 62 74 (hcell (block B s) B 0 t) ∧ Fr1 b w w' := by
  have HB := Lib.hid hB; clear hB
  have HH := Lib.hid h
  have hlt := h.lt
  clear h
  go_enter Tryd.func39, Tryd.ntmps39
  go_wp2_with fail
  refine (sched_any b B w hlt (fun j hj => hcell_block s B n t HH.out j hj) HB.out).mono ?_
  rintro e w1 ⟨rfl, hbel⟩
  have HL := Lib.hid hbel; clear hbel
  go_wp2_with (refine wpList_store_row rfl 73 _ _ rfl w1.heap.size (schedArr B) rfl rfl 73 _ (heap_alloc_new w1 _) (schedArr_info B) (schedArr_size B).symm (schedArr_one B) ?_)
  go_name_world w2 hw2
  have hr2 : w2.rowIs b 62 74 (hcell s B n t) := by
    rw [← hw2]
    exact rowIs_setRow_other (((Fr.of_below HL.out).row HH.out (S := fun _ => False) (fun f => f)).alloc _) _ (by have := HL.out.size; omega)
  have hs2 : w2.rowIs w1.heap.size 73 64 (fun j => .int .u32 (W B j)) := by
    rw [← hw2]
    exact rowIs_setRow (row_zero w1) (schedArr B) (schedArr_size B) (fun i hi => by simp [schedArr, schedRow, hi])
  have hf2 : Fr0 w w2 := by
    rw [← hw2]
    exact ((Fr.of_below HL.out).alloc _).setRow (fun h => by have := HL.out.size; omega) _
  have hsz := HL.out.size
  have hK2 : Rounds w2 := hK.fr hf2 (fun f => f)
  clear hw2 hK
  have HR2 := Lib.hid hr2
  have HS2 := Lib.hid hs2
  have HF2 := Lib.hid hf2
  have HK2 := Lib.hid hK2
  clear hr2 hs2 hf2 hK2
  have a0 := hcell_state s B n t HR2.out 0 (by omega)
  have a1 := hcell_state s B n t HR2.out 1 (by omega)
  have a2 := hcell_state s B n t HR2.out 2 (by omega)
  have a3 := hcell_state s B n t HR2.out 3 (by omega)
  have a4 := hcell_state s B n t HR2.out 4 (by omega)
  have a5 := hcell_state s B n t HR2.out 5 (by omega)
  have a6 := hcell_state s B n t HR2.out 6 (by omega)
  have a7 := hcell_state s B n t HR2.out 7 (by omega)
  go_quiet (fail)
  go_wp2_with fail
  go_quiet (fail)
  go_wp2_with fail
  clear a0 a1 a2 a3 a4 a5 a6 a7
  go_loopw [3, 4, 5, 6, 7, 8, 9, 10, 58] (fun v0 v1 v2 v3 v4 v5 v6 v7 i wr => ∃ (k : Nat) (T : St), k ≤ 64 ∧ rds K (W B) k s = T ∧ i = .int .i64 k ∧ v0 = .int .u32 (T.at 0) ∧ v1 = .int .u32 (T.at 1) ∧ v2 = .int .u32 (T.at 2) ∧ v3 = .int .u32 (T.at 3) ∧
      v4 = .int .u32 (T.at 4) ∧ v5 = .int .u32 (T.at 5) ∧ v6 = .int .u32 (T.at 6) ∧ v7 = .int .u32 (T.at 7) ∧ wr.rowIs b 62 74 (hcell s B n t) ∧ wr.rowIs w1.heap.size 73 64 (fun j => .int .u32 (W B j)) ∧ Rounds wr ∧ Fr0 w wr)
    (fun _ _ _ _ _ _ _ _ i _ => 64 - (intOf i).toNat)
  case atStart => exact ⟨0, s, by omega, rfl, rfl, rfl, rfl, rfl, rfl, rfl, rfl, rfl, rfl, HR2.out, HS2.out, HK2.out, (HF2.out.drewN _).drewN _⟩
  case round =>
    clear HR2 HS2 HK2 HF2
    obtain ⟨k, T, hk, hT, rfl, rfl, rfl, rfl, rfl, rfl, rfl, rfl, rfl, hr, hr2, hK, hF⟩ := hrel
    have okT : T.ok := by rw [← hT]; exact rds_ok _ _ hs k
    have HT := Lib.hid hT; clear hT
    have HR := Lib.hid hr; clear hr
    have HR2 := Lib.hid hr2; clear hr2
    have HK := Lib.hid hK; clear hK
    have HF := Lib.hid hF; clear hF
    by_cases hlt : k < 64
    · have b0 := okT 0
      have b1 := okT 1
      have b2 := okT 2
      have b3 := okT 3
      have b4 := okT 4
      have b5 := okT 5
      have b6 := okT 6
      have b7 := okT 7
      have cw := HR2.out.cell (i := k) hlt
      have ck := HK.out k hlt
      go_wp2
      go_quiet ((go_at_call 42; exact quiet_eq (turned1 _ b4.1 b4.2 _)))
      go_wp2_with fail
      refine (turned0 _ b0.1 b0.2 _).mono ?_
      rintro e w' ⟨rfl, rfl⟩
      go_wp2
      go_roundw
      case rel =>
        refine ⟨k + 1, rstep (K k) (W B k) T, by omega, by rw [rds, HT.out], by go_num, ?_, rfl, rfl, rfl, ?_, rfl, rfl, rfl, HR.out, HR2.out, HK.out, HF.out.drewN _⟩
        · rfl
        · rfl
      case measure => simp only [intOf]; omega
    · have hk64 : k = 64 := by omega
      rw [hk64] at HT
      clear hk64
      go_wp2
      go_loopw [118] (fun i wr => ∃ m : Nat, m ≤ 8 ∧ i = .int .i64 m ∧ wr.rowIs b 62 74 (part s T B n t m) ∧ Fr1 b w wr) (fun i _ => 8 - (intOf i).toNat)
      case atStart => exact ⟨0, by omega, rfl, HR.out.congr (fun i _ => by simp [part]), Fr.zero HF.out⟩
      case round =>
        clear HR HR2 HK HF
        obtain ⟨m, hm, rfl, hr, hF⟩ := hrel
        have HR := Lib.hid hr; clear hr
        have HF := Lib.hid hF; clear hF
        by_cases hm8 : m < 8
        · have hix : ∀ wx : World, (Instr.index 60 (.agg #[.int .u32 (T.at 0), .int .u32 (T.at 1), .int .u32 (T.at 2), .int .u32 (T.at 3), .int .u32 (T.at 4), .int .u32 (T.at 5), .int .u32 (T.at 6), .int .u32 (T.at 7)]) (.int .i64 (m : Int))).run Tryd.prog wx = .ok (.int .u32 (T.at m)) wx := index8 T m hm8
          have ct : wr.cell? ⟨b, m, none⟩ = some (.int .u32 (s.at m)) := by
            have := HR.out.cell (i := m) (by omega); rw [this]; simp [part, hcell, hm8]
          have cf := HR.out.frozen m
          have bs := hs m
          have bt := okT m
          go_wp2
          go_region
          go_wp2
          go_roundw
          case rel =>
            exact ⟨m + 1, by omega, by go_num, ((HR.out.set m _).congr (part_step s T B n t m _ hm8 rfl)).drew, (HF.out.setCell (fun _ => rfl) _).drew⟩
          case measure => simp only [intOf]; omega
        · have hm8' : m = 8 := by omega
          have hr := HR.out
          rw [hm8'] at hr
          have HR8 := Lib.hid hr
          clear hr hm8'
          have cw : wr.cell? ⟨b, 72, none⟩ = some (.int .i64 n) := by
            have := HR8.out.cell (i := 72) (by omega); rw [this]; rfl
          have cf := HR8.out.frozen 72
          go_wp2
          go_end0
          have e : block B s = s.add T := by unfold block; rw [HT.out]
          rw [e]
          exact ⟨rfl, (HR8.out.set 72 _).congr (part_done s T B n t _ rfl), HF.out.setCell (fun _ => rfl) _⟩
end Go.Proofs.YteafnknghnhlgaaDoor.Sha
