/-
  The walk of sum.Of: the parts of whatever number, one behind the other.
-/
import Derived.Test.YteafnknghnhlgaaDoorShaEnd
import Derived.Test.YteafnknghnhlgaaDoorBytes
namespace Go.Proofs.YteafnknghnhlgaaDoor.Sha
open Go.RowKit Base

theorem HI_begin (w : World) (b : Nat) (c : Array Value) (hc : c = beginArr) (h : w.heap[b]? = some (.cells c 62 (0, 0))) : HI w b [] 0 := by
  subst hc
  refine ⟨fun _ => 0, fun _ _ => ⟨Int.le_refl 0, (by decide : (0 : Int) < 256)⟩, fun j hj => absurd hj (by simp), ?_⟩
  exact ⟨beginArr, h, beginArr_size, fun i hi => by unfold beginArr; exact range_map_get _ i hi⟩

theorem take_next (ps : List (List UInt8)) (k : Nat) (h : k < ps.length) : ps.take (k + 1) = ps.take k ++ [ps.getD k []] := by
  rw [List.take_add_one]
  simp [h]
theorem flat_next' (ps : List (List UInt8)) (k : Nat) (h : k < ps.length) : (ps.take k).flatten ++ ps.getD k [] = (ps.take (k + 1)).flatten := by
  rw [take_next ps k h]; simp
theorem flat_next (ps : List (List UInt8)) (k : Nat) (h : k < ps.length) : (ps.take k).flatten.length + (ps.getD k []).length = (ps.take (k + 1)).flatten.length := by
  rw [← flat_next' ps k h, List.length_append]
theorem flat_le (ps : List (List UInt8)) (k : Nat) : (ps.take k).flatten.length ≤ ps.flatten.length := by
  conv => rhs; rw [← List.take_append_drop k ps]
  rw [List.flatten_append, List.length_append]; omega

/-- write, of a part that lay there (in w0) before the hasher was -/
theorem write_parts (b : Nat) (m l : List UInt8) (v : Value) (w0 w : World) (hb0 : w0.heap.size ≤ b) (h : HI w b m m.length) (hK : Rounds w) (hb : b ≠ 0)
    (hsum : m.length + l.length ≤ 1152921504606846976) (hB : BytesIs w0 v l) (hF : Fr0 w0 w) :
    Calls Tryd.prog 33 #[.pointer (some ⟨b, 0, none⟩), v] w fun e w' => e = .returned (.tuple #[]) ∧ HI w' b (m ++ l) (m ++ l).length ∧ Fr1 b w w' := by
  obtain ⟨a, cap, pb, po, rfl, hcap, ha, hc⟩ := hB
  by_cases h0 : 0 < l.length
  · have hpb : pb < w0.heap.size := World.block_lt_of_cell? w0 _ (hc 0 h0)
    exact write_any b m l a cap w h hK hb hsum hcap pb po ha (by omega) (fun _ => Nat.lt_of_lt_of_le hpb hF.size) (fun j hj => (hF.cell (p := ⟨pb, po + j, none⟩) hpb (fun f => f)).trans (hc j hj))
  · exact write_any b m l a cap w h hK hb hsum hcap (b + 1) po (fun h => absurd h h0) (by omega) (fun h => absurd h h0) (fun j hj => by omega)

set_option maxHeartbeats 2000000 in
set_option maxRecDepth 100000 in
theorem of_any (v : Value) (ps : List (List UInt8)) (w : World) (hp : PartsIs w v ps) (hK : Rounds w) (hg : 0 < w.heap.size) (hlen : ps.flatten.length ≤ 576460752303423488) :
    Calls Tryd.prog 27 #[v] w fun e w' => e = .returned (.agg (digArr ps.flatten)) ∧ Fr0 w w' := by
  obtain ⟨a, cap, qb, qo, rfl, hcap, hps, ha, hparts⟩ := hp
  have HA := Lib.hid ha
  have HP := Lib.hid hparts
  have HK := Lib.hid hK
  have HL := Lib.hid hlen
  have hz := (zero_of_info (P := Tryd.prog) zero24).1
  have hz2 := (zero_of_info (P := Tryd.prog) zero45_info).1
  clear ha hparts hK hlen
  generalize hZ : (Array.replicate 32 (Value.int .u8 0)) = Z at hz
  have HZ := Lib.hid hZ; clear hZ
  go_enter Tryd.func27, Tryd.ntmps27
  go_wp2_with fail
  refine (begin_any _).mono ?_
  rintro e w1 ⟨rfl, hF1⟩
  have hr1 : w1.rowIs w.heap.size 38 32 (fun _ => .int .u8 0) := hF1.row (rowIs_new w Z 38 32 _ (by rw [← HZ.out]; simp) (fun i hi => by rw [← HZ.out]; simp [hi])) (fun f => f)
  have hF0 : Fr0 w w1 := Fr.trans' ((Fr.refl _ _).alloc _) hF1
  have hs1 : w.heap.size < w1.heap.size := hr1.lt
  have HR1 := Lib.hid hr1
  have HF1 := Lib.hid hF0
  clear hr1 hF1 hF0
  go_wp2_with (refine wpList_store_row rfl 62 _ _ rfl w1.heap.size beginArr rfl rfl 62 _ (heap_alloc_new w1 _) beginArr_info (by rw [beginArr_size]; rfl) beginArr_one ?_)
  go_name_world w2 hw2
  have hHI : HI w2 w1.heap.size [] 0 := HI_begin _ _ _ rfl (by rw [← hw2]; exact setRow_heap _ _ _ _ _ _ (heap_alloc_new w1 _))
  have hr2 : w2.rowIs w.heap.size 38 32 (fun _ => .int .u8 0) := by
    rw [← hw2]; exact rowIs_setRow_other (HR1.out.alloc _) _ (by omega)
  have hF2 : Fr0 w w2 := by
    rw [← hw2]; exact (HF1.out.alloc _).setRow (by intro h; exfalso; omega) _
  have HHI := Lib.hid hHI
  have HR2 := Lib.hid hr2
  have HF2 := Lib.hid hF2
  clear hw2 hHI hr2 hF2 HR1 HF1
  go_wp2_with fail
  go_loopw [9] (fun i wr => ∃ k : Nat, k ≤ ps.length ∧ i = .int .i64 k ∧ HI wr w1.heap.size (ps.take k).flatten (ps.take k).flatten.length ∧ Fr0 w wr ∧ wr.rowIs w.heap.size 38 32 (fun _ => .int .u8 0)) (fun i _ => ps.length - (intOf i).toNat)
  case atStart => exact ⟨0, Nat.zero_le _, rfl, HHI.out, HF2.out, HR2.out⟩
  case round =>
    clear HHI HF2 HR2
    obtain ⟨k, hk, rfl, hHI, hF, hr⟩ := hrel
    have HHI := Lib.hid hHI
    have HF := Lib.hid hF
    have HR := Lib.hid hr
    clear hHI hF hr
    by_cases hlt : k < ps.length
    · obtain ⟨pv, hpv, hB⟩ := HP.out k hlt
      obtain ⟨sa, sn, sc, hsv⟩ := hB.slice
      subst hsv
      obtain rfl := HA.out (by omega)
      have hqb := World.block_lt_of_cell? w _ hpv
      have cq : wr.cell? ⟨qb, qo + k, none⟩ = some (.slice sa sn sc) := (HF.out.cell (p := ⟨qb, qo + k, none⟩) hqb (fun f => f)).trans hpv
      have HB := Lib.hid hB
      clear hB hpv
      go_wp2_with fail
      refine (write_parts w1.heap.size _ (ps.getD k []) _ w _ (by omega) HHI.out (HK.out.fr HF.out (fun f => f)) (by omega) (by rw [flat_next ps k hlt]; exact Nat.le_trans (flat_le ps (k + 1)) (by have := HL.out; omega)) HB.out HF.out).mono ?_
      rintro e w3 ⟨rfl, hHI3, hF3⟩
      have HHI3 : Hid (HI w3 w1.heap.size (ps.take (k + 1)).flatten (ps.take (k + 1)).flatten.length) := Lib.hid (by rw [← flat_next' ps k hlt]; exact hHI3)
      have HR3 := Lib.hid (hF3.row HR.out (by omega))
      have HF3 : Hid (Fr0 w w3) := Lib.hid (HF.out.trans hF3 (by intro i hi e; have e' : i = w1.heap.size := e; omega))
      clear hHI3 hF3
      go_wp2
      go_roundw
      case rel => exact ⟨k + 1, by omega, by go_num, HHI3.out, HF3.out, HR3.out⟩
      case measure => simp only [intOf]; omega
    · have hkl : k = ps.length := by omega
      have hHI := HHI.out
      rw [hkl, List.take_length] at hHI
      have HHI' := Lib.hid hHI
      have HRC := Lib.hid (row_cells HR.out)
      clear hHI hkl
      go_wp2_with fail
      refine (end_any w1.heap.size ps.flatten _ HHI'.out (HK.out.fr HF.out (fun f => f)) (by omega) HL.out).mono ?_
      rintro e w3 ⟨rfl, hF3⟩
      have HRC3 := Lib.hid (hF3.heap HRC.out (by omega))
      have HF3 : Hid (Fr0 w w3) := Lib.hid (HF.out.trans hF3 (by intro i hi e; have e' : i = w1.heap.size := e; omega))
      clear hF3
      go_wp2_with (refine wpList_store_row rfl 38 _ _ rfl w.heap.size (digArr ps.flatten) rfl rfl 38 _ HRC3.out (digArr_info _) (zero32 _) (digArr_one _) ?_)
      exact bodyPost_ret (v := .agg (digArr ps.flatten)) (results_cell_row (fn := Tryd.f27) rfl _ _ w.heap.size 38 (digArr ps.flatten) (0, 0) _ rfl (setRow_heap _ _ _ _ _ _ HRC3.out) Tryd.underlying38 rfl (digArr_info _)) rfl ⟨rfl, Fr.setRow HF3.out (by intro h; exfalso; omega) _⟩
end Go.Proofs.YteafnknghnhlgaaDoor.Sha
