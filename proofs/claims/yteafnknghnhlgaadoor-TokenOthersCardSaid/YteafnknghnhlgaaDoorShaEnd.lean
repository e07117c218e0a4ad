/-
  The walks of begin and of the hasher's end.
-/
import Derived.Test.YteafnknghnhlgaaDoorShaWrite
import Derived.Deep.WholeRow
namespace Go.Proofs.YteafnknghnhlgaaDoor.Sha
open Go.RowKit Base

def beginArr : Array Value := ((List.range 74).map (hcell init (fun _ => 0) 0 0)).toArray
theorem info45 : (Tryd.prog.info? 62).map (·.size) = some 74 := by kernel_rfl
theorem beginArr_size : beginArr.size = 74 := by simp [beginArr]
theorem beginArr_info : (Tryd.prog.info? 62).map (·.size) = some beginArr.size := info45.trans (congrArg some beginArr_size.symm)
theorem hcell_one (s : St) (B : Nat → Int) (n t i : Nat) : (hcell s B n t i).oneCell' = true := by
  unfold hcell
  split
  · rfl
  · split
    · rfl
    · split <;> rfl
theorem beginArr_one : beginArr.all (·.oneCell') = true := range_map_one _ (hcell_one _ _ _ _)

def zero45 : Array Value := ((List.range 74).map fun j => if j < 8 then Value.int .u32 0 else if j < 72 then .int .u8 0 else if j = 72 then .int .i64 0 else .int .u64 0).toArray
theorem zero45_info : (Tryd.prog.info? 62).map (fun i => (i.zero, i.size)) = some (some (.agg zero45), 74) := by kernel_rfl
set_option maxHeartbeats 1000000 in
set_option maxRecDepth 100000 in
theorem begin_any (w : World) : Calls Tryd.prog 32 #[] w fun e w' => e = .returned (.agg beginArr) ∧ Fr0 w w' := by
  have hz := (zero_of_info (P := Tryd.prog) zero45_info).1
  go_enter Tryd.func32, Tryd.ntmps32
  go_wp2_with (refine wpList_store_row rfl 62 _ _ rfl w.heap.size beginArr rfl rfl 62 _ (heap_alloc_new w _) beginArr_info beginArr_size.symm beginArr_one ?_)
  exact bodyPost_ret (v := .agg beginArr) (results_cell_row (fn := Tryd.f32) rfl _ _ w.heap.size 62 beginArr (0, 0) _ rfl (setRow_heap _ _ _ _ _ _ (heap_alloc_new w _)) Tryd.underlying62 rfl beginArr_info) rfl ⟨rfl, ((Fr.refl _ _).alloc _).setRow (fun h => by omega) _⟩

theorem zeros_at (n z : Nat) (hz : z ≤ zeros n) : (n + 1 + z) % 64 = 56 ↔ z = zeros n := by unfold zeros at *; omega
theorem zeros_lt (n : Nat) : zeros n < 64 := by unfold zeros; omega
theorem one_byte (w : World) (u : UInt8) (v : Value) (hv : v = .int .u8 (u.toNat : Int)) (t : TypeId) : ∀ j, j < [u].length → (w.alloc (.cells #[v] t)).cell? ⟨w.heap.size, 0 + j, none⟩ = some (.int .u8 (([u].getD j 0).toNat : Int)) := by
  intro j hj
  have : j = 0 := by simpa using hj
  subst this
  rw [cell_of_row _ _ _ _ _ _ (heap_alloc_new w _)]
  simp [hv]
theorem HI.waits {w : World} {b : Nat} {msg : List UInt8} {tot : Nat} (h : HI w b msg tot) : w.cell? ⟨b, 72, none⟩ = some (.int .i64 ((msg.length % 64 : Nat) : Int)) := by
  obtain ⟨B, _, _, h3⟩ := h
  exact hcell_waits _ _ _ _ h3
theorem HI.total {w : World} {b : Nat} {msg : List UInt8} {tot : Nat} (h : HI w b msg tot) : w.cell? ⟨b, 73, none⟩ = some (.int .u64 (tot : Int)) := by
  obtain ⟨B, _, _, h3⟩ := h
  exact hcell_total _ _ _ _ h3
theorem HI.state {w : World} {b : Nat} {msg : List UInt8} {tot : Nat} (h : HI w b msg tot) (i : Nat) (hi : i < 8) : w.cell? ⟨b, i, none⟩ = some (.int .u32 ((st msg (msg.length / 64)).at i)) := by
  obtain ⟨B, _, _, h3⟩ := h
  exact hcell_state _ _ _ _ h3 i hi

def digArr (m : List UInt8) : Array Value := (bytes (digest m)).toArray

theorem digArr_size (m : List UInt8) : (digArr m).size = 32 := by simp [digArr, bytes, digest]
theorem info24 : (Tryd.prog.info? 38).map (·.size) = some 32 := by kernel_rfl
theorem digArr_info (m : List UInt8) : (Tryd.prog.info? 38).map (·.size) = some (digArr m).size := info24.trans (congrArg some (digArr_size m).symm)
theorem digArr_one (m : List UInt8) : (digArr m).all (·.oneCell') = true := all_oneCell_toArray (bytes_one _)
theorem digArr_get (m : List UInt8) (i : Nat) (h : i < 32) : (digArr m)[i]? = some (.int .u8 (((digest m).getD i 0).toNat : Int)) := by
  unfold digArr
  rw [toArray_get]
  exact bytes_get _ _ (by simpa [digest] using h)
theorem zero24 : (Tryd.prog.info? 38).map (fun i => (i.zero, i.size)) = some (some (.agg (Array.replicate 32 (.int .u8 0))), 32) := by kernel_rfl

theorem write_one (b : Nat) (M : List UInt8) (u : UInt8) (v : Value) (w1 : World) (t : TypeId) (N : Nat) (hN : N = w1.heap.size) (h : HI w1 b M M.length) (hK : Rounds w1) (hb : b ≠ 0) (hM : M.length + 1 ≤ 1152921504606846976) (hv : v = .int .u8 (u.toNat : Int)) :
    Calls Tryd.prog 33 #[.pointer (some ⟨b, 0, none⟩), .slice (some ⟨N, 0, none⟩) 1 1] (w1.alloc (.cells #[v] t)) fun e w' => e = .returned (.tuple #[]) ∧ HI w' b (M ++ [u]) (M ++ [u]).length ∧ Fr1 b w1 w' := by
  subst hN
  have hf : Fr1 b w1 (w1.alloc (.cells #[v] t)) := (Fr.refl _ _).alloc _
  have hlt := h.lt
  have h0 : HI (w1.alloc (.cells #[v] t)) b M M.length := h.fr (S := fun _ => False) ((Fr.refl _ _).alloc _) (fun f => f)
  refine (write_any b M [u] (some ⟨w1.heap.size, 0, none⟩) 1 _ h0 (hK.fr hf (fun e => hb e.symm)) hb (by simpa using hM) (by simp) w1.heap.size 0 (fun _ => rfl) (by omega) (fun _ => by simp) (one_byte w1 u v hv t)).mono ?_
  rintro e w' ⟨he, hHI, hF⟩
  exact ⟨he, hHI, hf.trans' hF⟩

def msgA (m : List UInt8) (z : Nat) : List UInt8 := m ++ [128] ++ List.replicate z 0
theorem msgA_next (m : List UInt8) (z : Nat) : msgA m z ++ [0] = msgA m (z + 1) := by simp [msgA, List.replicate_succ']
theorem msgA_length (m : List UInt8) (z : Nat) : (msgA m z).length = m.length + 1 + z := by simp [msgA]; omega
def msgB (m : List UInt8) (i : Nat) : List UInt8 := msgA m (zeros m.length) ++ (u64be (m.length * 8)).take i
theorem msgB_length (m : List UInt8) (i : Nat) (h : i ≤ 8) : (msgB m i).length = m.length + 1 + zeros m.length + i := by simp [msgB, msgA_length, u64be]; omega
theorem msgB_next (m : List UInt8) (i : Nat) (h : i < 8) : msgB m i ++ [UInt8.ofNat (m.length * 8 / 2 ^ (56 - 8 * i))] = msgB m (i + 1) := by
  unfold msgB
  rw [List.append_assoc]
  congr 1
  have : (u64be (m.length * 8))[i]? = some (UInt8.ofNat (m.length * 8 / 2 ^ (56 - 8 * i))) := by simp [u64be, h]
  rw [List.take_add_one, this]
  rfl
theorem msgB_pad (m : List UInt8) : msgB m 8 = pad m := by
  unfold msgB pad msgA
  rw [List.take_of_length_le (by simp [u64be])]

theorem byte_eq (n k : Nat) : Value.int .u8 ((n : Int) * 8 / 2 ^ k % 256) = .int .u8 ((UInt8.ofNat (n * 8 / 2 ^ k)).toNat : Int) := by
  congr 1
def digCell (m : List UInt8) (k j : Nat) : Value := if j < k then .int .u8 (((digest m).getD j 0).toNat : Int) else .int .u8 0
theorem dig_step (m : List UInt8) (k : Nat) (hk : k < 32) (v : Value) (hv : v = .int .u8 ((st (pad m) ((pad m).length / 64)).at (k / 4) / 2 ^ (24 - 8 * (k % 4)) % 256)) : ∀ i, i < 32 → (if i = k then v else digCell m k i) = digCell m (k + 1) i := by
  intro i _
  unfold digCell
  by_cases h : i = k
  · subst h
    rw [if_pos rfl, if_pos (by omega), hv]
    have e : (digest m).getD i 0 = UInt8.ofNat ((((fin m).at (i / 4) / 2 ^ (24 - 8 * (i % 4))).toNat)) := by simp [digest, hk]
    rw [e]
    have b := st_ok (pad m) ((pad m).length / 64) (i / 4)
    have b2 : 0 ≤ (st (pad m) ((pad m).length / 64)).at (i / 4) / 2 ^ (24 - 8 * (i % 4)) := Int.ediv_nonneg b.1 (by exact_mod_cast Nat.zero_le _)
    congr 1
    unfold fin
    generalize (st (pad m) ((pad m).length / 64)).at (i / 4) / 2 ^ (24 - 8 * (i % 4)) = y at b2
    simp
    omega
  · rw [if_neg h]
    by_cases h' : i < k
    · rw [if_pos h', if_pos (by omega)]
    · rw [if_neg h', if_neg (by omega)]
theorem dig_cells {m : List UInt8} {w : World} {b : Nat} {t : TypeId} (h : w.rowIs b t 32 (digCell m 32)) : w.heap[b]? = some (.cells (digArr m) t (0, 0)) := by
  have e : ∀ i, i < 32 → digCell m 32 i = .int .u8 (((digest m).getD i 0).toNat : Int) := fun i hi => by simp [digCell, hi]
  have h2 := row_cells (h.congr e)
  have : ((List.range 32).map fun i => Value.int IntKind.u8 (((digest m).getD i 0).toNat : Int)).toArray = digArr m := by
    apply Array.ext_getElem?
    intro i
    by_cases hi : i < 32
    · rw [digArr_get m i hi]; simp [hi]
    · rw [Array.getElem?_eq_none (by simp; omega), Array.getElem?_eq_none (by rw [digArr_size]; omega)]
  rw [← this]; exact h2
theorem zero32 (m : List UInt8) : ((List.range 32).map (fun _ : Nat => Value.int IntKind.u8 0)).toArray.size = (digArr m).size := by simp [digArr_size]
set_option maxHeartbeats 2000000 in
theorem end_any (b : Nat) (m : List UInt8) (w : World) (h : HI w b m m.length) (hK : Rounds w) (hb : b ≠ 0) (hm : m.length ≤ 576460752303423488) :
    Calls Tryd.prog 34 #[.pointer (some ⟨b, 0, none⟩)] w fun e w' => e = .returned (.agg (digArr m)) ∧ Fr1 b w w' := by
  have c73 := h.total
  have hlt := h.lt
  have HH := Lib.hid h
  have HK := Lib.hid hK
  have hz := (zero_of_info (P := Tryd.prog) zero24).1
  have hzl := zeros_lt m.length
  clear h hK
  generalize hZ : (Array.replicate 32 (Value.int .u8 0)) = Z at hz
  have HZ := Lib.hid hZ; clear hZ
  go_enter Tryd.func34, Tryd.ntmps34
  go_wp2_with fail
  refine (write_one b m 128 (.int .u8 128) (w.alloc (.cells Z 38)) 5 _ (by simp) (HH.out.fr (S := fun _ => False) ((Fr.refl _ _).alloc _) (fun f => f)) (HK.out.fr (S := fun _ => False) ((Fr.refl _ _).alloc _) (fun f => f)) hb (by omega) rfl).mono ?_
  rintro e w1 ⟨rfl, hHI, hF⟩
  have hr : w1.rowIs w.heap.size 38 32 (fun _ => .int .u8 0) := hF.row (rowIs_new w Z 38 32 _ (by rw [← HZ.out]; simp) (fun i hi => by rw [← HZ.out]; simp [hi])) (by omega)
  have hF1 : Fr1 b w w1 := Fr.trans' ((Fr.refl _ _).alloc _) hF
  have HR := Lib.hid hr
  have HF := Lib.hid hF1
  have HHI := Lib.hid hHI
  have HK1 := Lib.hid (HK.out.fr hF1 (fun e => hb e.symm))
  clear hr hF1 hF hHI
  go_wp2_with fail
  go_loopg [] (zeros m.length) (fun g wr => ∃ z : Nat, z + g = zeros m.length ∧ HI wr b (msgA m z) (msgA m z).length ∧ Rounds wr ∧ Fr1 b w wr ∧ wr.rowIs w.heap.size 38 32 (fun _ => .int .u8 0))
  case atStart => exact ⟨0, by omega, by simpa [msgA] using HHI.out, HK1.out, HF.out, HR.out⟩
  case round =>
    clear HHI HK1 HF HR
    obtain ⟨z, hzg, hHI, hK, hF, hr⟩ := hrel
    have cw : wr.cell? ⟨b, 72, none⟩ = some (.int .i64 (((m.length + 1 + z) % 64 : Nat) : Int)) := by rw [← msgA_length]; exact hHI.waits
    have HHI := Lib.hid hHI
    have HK := Lib.hid hK
    have HF := Lib.hid hF
    have HR := Lib.hid hr
    clear hHI hK hF hr
    by_cases hlast : z = zeros m.length
    · have hw : (m.length + 1 + z) % 64 = 56 := (zeros_at m.length z (by omega)).2 hlast
      rw [hw] at cw
      have hHI' := HHI.out
      rw [hlast] at hHI'
      have HHB : Hid (HI wr b (msgB m 0) (msgB m 0).length) := Lib.hid (by simpa [msgB] using hHI')
      clear hw hlast hHI'
      go_wp2_with fail
      go_loopw [23] (fun i wr => ∃ k : Nat, k ≤ 8 ∧ i = .int .i64 k ∧ HI wr b (msgB m k) (msgB m k).length ∧ Rounds wr ∧ Fr1 b w wr ∧ wr.rowIs w.heap.size 38 32 (fun _ => .int .u8 0)) (fun i _ => 8 - (intOf i).toNat)
      case atStart => exact ⟨0, by omega, rfl, HHB.out, HK.out, HF.out, HR.out⟩
      case round =>
        clear HHB HK HF HR cw
        obtain ⟨k, hk, rfl, hHI, hK, hF, hr⟩ := hrel
        have HHI := Lib.hid hHI
        have HK := Lib.hid hK
        have HF := Lib.hid hF
        have HR := Lib.hid hr
        clear hHI hK hF hr
        by_cases hk8 : k < 8
        · go_wp2_with fail
          refine (write_one b (msgB m k) (UInt8.ofNat (m.length * 8 / 2 ^ (56 - 8 * k))) _ wr 5 _ rfl HHI.out HK.out hb (by rw [msgB_length m k hk]; omega) (byte_eq _ _)).mono ?_
          rintro e w2 ⟨rfl, hHI2, hF2⟩
          have HHI2 : Hid (HI w2 b (msgB m (k + 1)) (msgB m (k + 1)).length) := Lib.hid (by rw [← msgB_next m k hk8]; exact hHI2)
          have HK2 := Lib.hid (HK.out.fr hF2 (fun e => hb e.symm))
          have HR2 := Lib.hid (hF2.row HR.out (by omega))
          have HF2 := Lib.hid (HF.out.trans' hF2)
          clear hHI2 hF2
          go_wp2
          go_roundw
          case rel => exact ⟨k + 1, by omega, by go_num, HHI2.out, HK2.out, HF2.out, HR2.out⟩
          case measure => simp only [intOf]; omega
        · have hk8' : k = 8 := by omega
          have hHI := HHI.out
          rw [hk8', msgB_pad] at hHI
          have HHP := Lib.hid hHI
          clear hHI hk8'
          have h3 := HHP.out.lt
          have hlt3 := HR.out.lt
          go_wp2_with fail
          have hd0 : (wr.alloc (.cells Z 38)).rowIs wr.heap.size 38 32 (digCell m 0) := rowIs_new wr Z 38 32 _ (by rw [← HZ.out]; simp) (fun i hi => by rw [← HZ.out]; simp [hi, digCell])
          generalize hN : wr.heap.size = N at *
          have HD0 := Lib.hid hd0
          have HN := Lib.hid hN
          clear hd0 hN
          go_loopw [36] (fun i wr => ∃ k : Nat, k ≤ 32 ∧ i = .int .i64 k ∧ HI wr b (pad m) (pad m).length ∧ wr.rowIs N 38 32 (digCell m k) ∧ Fr1 b w wr ∧ wr.rowIs w.heap.size 38 32 (fun _ => .int .u8 0)) (fun i _ => 32 - (intOf i).toNat)
          case atStart =>
            exact ⟨0, by omega, rfl, HHP.out.fr (S := fun _ => False) ((Fr.refl _ _).alloc _) (fun f => f), HD0.out, HF.out.alloc _, HR.out.alloc _⟩
          case round =>
            clear HHP HK HF HR HD0 HN
            obtain ⟨k, hk, rfl, hHI, hD, hF, hr⟩ := hrel
            have HHI := Lib.hid hHI
            have HD := Lib.hid hD
            have HF := Lib.hid hF
            have HR := Lib.hid hr
            clear hHI hD hF hr
            by_cases hk32 : k < 32
            · have cs := HHI.out.state (k / 4) (by omega)
              have cd : wr.cell? ⟨N, k, none⟩ = some (.int .u8 0) := by have := HD.out.cell (i := k) hk32; rw [this]; simp [digCell]
              have cf := HD.out.frozen k
              have bs := st_ok (pad m) ((pad m).length / 64) (k / 4)
              generalize hS : (st (pad m) ((pad m).length / 64)).at (k / 4) = S at cs bs
              have HS := Lib.hid hS; clear hS
              go_wp2
              go_roundw
              case rel =>
                exact ⟨k + 1, by omega, by go_num, HHI.out.fr (Fr1.set (b := N) (Fr.refl _ _) _) (by show ¬ (b = N); omega), (HD.out.set k _).congr (dig_step m k hk32 _ (by rw [HS.out])), Fr.setCell HF.out (by intro h; exfalso; simp at h; omega) _, HR.out.setOther (by simp; omega) _⟩
              case measure => simp only [intOf]; omega
            · have hk32' : k = 32 := by omega
              have hd := HD.out
              rw [hk32'] at hd
              have HDC := Lib.hid (dig_cells hd)
              have HRC := Lib.hid (row_cells HR.out)
              clear hd hk32'
              go_wp2_with (first | (refine wpList_load_row rfl 38 _ rfl N rfl 38 (digArr m) (0, 0) _ HDC.out Tryd.underlying38 rfl (digArr_info m) ?_) | (refine wpList_store_row rfl 38 _ _ rfl w.heap.size (digArr m) rfl rfl 38 _ HRC.out (digArr_info m) (zero32 m) (digArr_one m) ?_))
              exact bodyPost_ret (v := .agg (digArr m)) (results_cell_row (fn := Tryd.f34) rfl _ _ w.heap.size 38 (digArr m) (0, 0) _ rfl (setRow_heap _ _ _ _ _ _ HRC.out) Tryd.underlying38 rfl (digArr_info m)) rfl ⟨rfl, Fr.setRow HF.out (by intro h; exfalso; omega) _⟩
    · have hw : ¬ (m.length + 1 + z) % 64 = 56 := fun e => hlast ((zeros_at m.length z (by omega)).1 e)
      have hwb : ((((m.length + 1 + z) % 64 : Nat) : Int) != 56) = true := by rw [bne_iff_ne]; omega
      have hne : ¬ (z = zeros m.length) := hlast
      generalize hq : (m.length + 1 + z) % 64 = q at cw hwb hw
      clear hq
      go_wp2_with fail
      refine (write_one b (msgA m z) 0 _ wr 5 _ rfl HHI.out HK.out hb (by rw [msgA_length]; omega) rfl).mono ?_
      rintro e w2 ⟨rfl, hHI2, hF2⟩
      have HHI2 : Hid (HI w2 b (msgA m (z + 1)) (msgA m (z + 1)).length) := Lib.hid (by rw [← msgA_next]; exact hHI2)
      have HK2 := Lib.hid (HK.out.fr hF2 (fun e => hb e.symm))
      have HR2 := Lib.hid (hF2.row HR.out (by omega))
      have HF2 := Lib.hid (HF.out.trans' hF2)
      clear hHI2 hF2
      go_wp2
      go_roundg (gk - 1)
      case measure => omega
      case rel => exact ⟨z + 1, by omega, HHI2.out, HK2.out, HF2.out, HR2.out⟩
end Go.Proofs.YteafnknghnhlgaaDoor.Sha
