/-
  The walks of mac.Same and mac.mixed.
-/
import Derived.Test.YteafnknghnhlgaaDoorMacSpec
import Derived.Test.YteafnknghnhlgaaDoorHeld
namespace Go.Proofs.YteafnknghnhlgaaDoor.Mac
open Go.RowKit Base Sha

set_option maxHeartbeats 1000000 in
theorem same_any (v0 v1 : Value) (la lb : List UInt8) (ha : la.length ≤ 9223372036854775807) (hb : lb.length ≤ 9223372036854775807) (w : World) (hA : BytesIs w v0 la) (hB : BytesIs w v1 lb) :
    Calls Tryd.prog 18 #[v0, v1] w fun e w' => e = .returned (.bool (decide (la = lb))) ∧ Fr0 w w' := by
  obtain ⟨a0, cap0, pb0, po0, rfl, hcap0, ha0, hc0⟩ := hA
  obtain ⟨a1, cap1, pb1, po1, rfl, hcap1, ha1, hc1⟩ := hB
  have HA0 := Lib.hid ha0
  have HC0 := Lib.hid hc0
  have HA1 := Lib.hid ha1
  have HC1 := Lib.hid hc1
  clear ha0 hc0 ha1 hc1
  by_cases hl : la.length = lb.length
  · have HL := Lib.hid hl
    have hlb : ((la.length : Int) != (lb.length : Int)) = false := by rw [hl]; simp
    clear hl
    go_enter Tryd.func18, Tryd.ntmps18
    go_wp2
    go_loopw [5, 14] (fun x i wr => ∃ k : Nat, k ≤ la.length ∧ i = .int .i64 k ∧ x = .int .u8 (apart la lb k : Int) ∧ Fr0 w wr) (fun _ i _ => la.length - (intOf i).toNat)
    case atStart => exact ⟨0, Nat.zero_le _, rfl, rfl, Fr.refl _ _⟩
    case round =>
      obtain ⟨k, hk, rfl, rfl, hF⟩ := hrel
      have HF := Lib.hid hF
      clear hF hlb
      by_cases hlt : k < la.length
      · have hlt1 : k < lb.length := by rw [← HL.out]; exact hlt
        obtain rfl := HA0.out (by omega)
        obtain rfl := HA1.out (by omega)
        have q0 := HC0.out k hlt
        have q1 := HC1.out k hlt1
        have c0 : wr.cell? ⟨pb0, po0 + k, none⟩ = some (.int .u8 ((la.getD k 0).toNat : Int)) := (HF.out.cell (p := ⟨pb0, po0 + k, none⟩) (World.block_lt_of_cell? w _ q0) (fun f => f)).trans q0
        have c1 : wr.cell? ⟨pb1, po1 + k, none⟩ = some (.int .u8 ((lb.getD k 0).toNat : Int)) := (HF.out.cell (p := ⟨pb1, po1 + k, none⟩) (World.block_lt_of_cell? w _ q1) (fun f => f)).trans q1
        have hx := (la.getD k 0).toNat_lt
        have hy := (lb.getD k 0).toNat_lt
        have hz := apart_lt la lb k
        have hxy : (la.getD k 0).toNat ^^^ (lb.getD k 0).toNat < 256 := Nat.xor_lt_two_pow (n := 8) hx hy
        have hs : bits .or .u8 (apart la lb k : Int) (bits .xor .u8 ((la.getD k 0).toNat : Int) ((lb.getD k 0).toNat : Int)) = ((apart la lb (k + 1) : Nat) : Int) := by
          rw [u8_xor_nat _ _ hx hy, u8_or_nat _ _ hz hxy]
          rfl
        have HS := Lib.hid hs
        clear q0 q1 hs
        generalize (la.getD k 0).toNat = x at *
        generalize (lb.getD k 0).toNat = y at *
        generalize apart la lb k = z at *
        clear hxy
        go_wp2
        go_quiet (fail)
        go_wp2
        go_roundw
        case rel => exact ⟨k + 1, by omega, by go_num, by rw [← HS.out], HF.out.drewN _⟩
        case measure => simp only [intOf]; omega
      · have hkl : k = la.length := by omega
        have hz : apart la lb k = apart la lb la.length := by rw [hkl]
        have hd := apart_eq la lb HL.out
        have he : decide (la = lb) = ((apart la lb k : Int) == 0) := by
          rw [hz, Bool.eq_iff_iff, decide_eq_true_eq, ← hd, beq_iff_eq]
          omega
        have HE := Lib.hid he
        clear hkl hz hd he
        generalize apart la lb k = z at *
        go_wp2
        go_ret
        exact ⟨by rw [HE.out]; rfl, HF.out⟩
  · have hlb : ((la.length : Int) != (lb.length : Int)) = true := by rw [bne_iff_ne]; omega
    have HE : Hid (decide (la = lb) = false) := Lib.hid (by rw [decide_eq_false_iff_not]; rintro rfl; exact hl rfl)
    go_enter Tryd.func18, Tryd.ntmps18
    go_wp2
    go_ret
    exact ⟨by rw [HE.out]; rfl, Fr.refl _ _⟩

def mixCell (l : List UInt8) (p : UInt8) (k j : Nat) : Value := if j < k then .int .u8 (((l.getD j 0) ^^^ p).toNat : Int) else .int .u8 ((l.getD j 0).toNat : Int)
theorem mixCell_done (l : List UInt8) (p : UInt8) (hl : l.length = 64) : ((List.range 64).map (mixCell l p 64)).toArray = (bvals (xorB p l)).toArray := by
  apply Array.ext_getElem?
  intro i
  by_cases hi : i < 64
  · rw [toArray_get, toArray_get, bvals_get _ i (by rw [xorB_len]; omega)]
    simp [hi, mixCell, xorB, hl]
  · rw [Array.getElem?_eq_none (by simp; omega), Array.getElem?_eq_none (by simp [bvals_length, xorB_len]; omega)]
theorem zero64i : (Tryd.prog.info? 50).map (fun i => (i.zero, i.size)) = some (some (.agg (Array.replicate 64 (.int .u8 0))), 64) := by kernel_rfl
theorem barr_info (l : List UInt8) (h : l.length = 64) : (Tryd.prog.info? 50).map (·.size) = some (bvals l).toArray.size := by
  rw [show (bvals l).toArray.size = 64 from by simp [bvals_length, h]]
  kernel_rfl
theorem barr_one (l : List UInt8) : (bvals l).toArray.all (·.oneCell') = true := all_oneCell_toArray (bvals_one l)
set_option maxHeartbeats 1000000 in
set_option maxRecDepth 100000 in
theorem mixed_any (l : List UInt8) (hl : l.length = 64) (p : UInt8) (w : World) :
    Calls Tryd.prog 26 #[.agg (bvals l).toArray, .int .u8 (p.toNat : Int)] w fun e w' => e = .returned (.agg (bvals (xorB p l)).toArray) ∧ Fr0 w w' := by
  have hz := (zero_of_info (P := Tryd.prog) zero64i).1
  generalize hZ : (Array.replicate 64 (Value.int .u8 0)) = Z at hz
  have HZ : Hid (Z.size = 64) := Lib.hid (by rw [← hZ]; simp)
  clear hZ
  obtain ⟨X, hX⟩ : ∃ X, X = (bvals l).toArray := ⟨_, rfl⟩
  rw [← hX]
  have hr0 : (w.alloc (.cells X 50)).rowIs w.heap.size 50 64 (mixCell l p 0) :=
    rowIs_new w X _ 64 _ (by rw [hX]; simp [bvals_length, hl]) (fun i hi => by rw [hX, toArray_get, bvals_get _ _ (by omega)]; simp [mixCell])
  have HR0 := Lib.hid hr0
  clear hr0 hX
  go_enter Tryd.func26, Tryd.ntmps26
  go_wp2_with fail
  have HB : Hid (((w.alloc (.cells X 50)).alloc (.cells Z 50)).heap[w.heap.size + 1]? = some (.cells Z 50 (0, 0))) := Lib.hid (heap_alloc2_new w _ _)
  go_loopw [6] (fun i wr => ∃ k : Nat, k ≤ 64 ∧ i = .int .i64 k ∧ wr.rowIs w.heap.size 50 64 (mixCell l p k) ∧ wr.heap[w.heap.size + 1]? = some (.cells Z 50 (0, 0)) ∧ Fr0 w wr) (fun i _ => 64 - (intOf i).toNat)
  case atStart => exact ⟨0, by omega, rfl, HR0.out.alloc _, HB.out, ((Fr.refl _ _).alloc _).alloc _⟩
  case round =>
    clear HR0 HB
    obtain ⟨k, hk, rfl, hr, hb, hF⟩ := hrel
    have HR := Lib.hid hr
    have HB := Lib.hid hb
    have HF := Lib.hid hF
    clear hr hb hF
    by_cases hlt : k < 64
    · have cd : wr.cell? ⟨w.heap.size, k, none⟩ = some (.int .u8 ((l.getD k 0).toNat : Int)) := by have := HR.out.cell (i := k) hlt; rw [this]; simp [mixCell]
      have cf := HR.out.frozen k
      have hs : bits .xor .u8 ((l.getD k 0).toNat : Int) (p.toNat : Int) = (((l.getD k 0) ^^^ p).toNat : Int) := xor_byte _ _
      have hx := (l.getD k 0).toNat_lt
      have hp := p.toNat_lt
      have HS := Lib.hid hs
      clear hs
      have HN : Hid (∀ i, i < 64 → (if i = k then Value.int .u8 (bits .xor .u8 ((l.getD k 0).toNat : Int) (p.toNat : Int)) else mixCell l p k i) = mixCell l p (k + 1) i) := Lib.hid (by
        intro i hi
        unfold mixCell
        by_cases h : i = k
        · subst h; rw [if_pos rfl, if_pos (by omega), HS.out]
        · rw [if_neg h]
          by_cases h' : i < k
          · rw [if_pos h', if_pos (by omega)]
          · rw [if_neg h', if_neg (by omega)])
      generalize (l.getD k 0).toNat = x at *
      generalize p.toNat = y at *
      go_wp2
      go_roundw
      case rel => exact ⟨k + 1, by omega, by go_num, (HR.out.set k _).congr HN.out, (Fr.setCell (S := fun j => j = w.heap.size) (Fr.refl _ wr) (p := ⟨w.heap.size, k, none⟩) (fun _ => rfl) _).heap HB.out (by omega), Fr.setCell HF.out (by intro h; exfalso; simp at h) _⟩
      case measure => simp only [intOf]; omega
    · have hk' : k = 64 := by omega
      have hr := HR.out
      rw [hk'] at hr
      have hc := row_cells hr
      rw [mixCell_done l p hl] at hc
      have HC := Lib.hid hc
      have hi := barr_info (xorB p l) (by rw [xorB_len]; exact hl)
      have h1 := barr_one (xorB p l)
      have hsz : Z.size = (bvals (xorB p l)).toArray.size := by rw [HZ.out]; simp [bvals_length, xorB_len, hl]
      have HI := Lib.hid hi
      have H1 := Lib.hid h1
      have HSZ := Lib.hid hsz
      clear hr hc hk' hi h1 hsz
      generalize hY : (bvals (xorB p l)).toArray = Y at *
      have HY := Lib.hid hY
      clear hY
      go_wp2_with (first | (refine wpList_load_row rfl 50 _ rfl w.heap.size rfl 50 Y (0, 0) _ HC.out Tryd.underlying50 rfl HI.out ?_) | (refine wpList_store_row rfl 50 _ _ rfl (w.heap.size + 1) Y rfl rfl 50 _ HB.out HI.out HSZ.out H1.out ?_))
      exact bodyPost_ret (v := .agg Y) (results_cell_row (fn := Tryd.f26) rfl _ _ (w.heap.size + 1) 50 Y (0, 0) _ rfl (setRow_heap _ _ _ _ _ _ HB.out) Tryd.underlying50 rfl HI.out) rfl ⟨by rw [HY.out], Fr.setRow HF.out (by intro h; exfalso; omega) _⟩
end Go.Proofs.YteafnknghnhlgaaDoor.Mac
