/-
  CrcLinear: of bytes of one length, three rests make the fourth: the walk.
-/
import Derived.Test.YtcdfflieooopjaaDoorCrcLinearR
import Derived.Test.YtcdfflieooopjaaDoorCuts
import Derived.StillTailTactics
namespace Go.Proofs.YtcdfflieooopjaaDoor.Crc
open Go.RowKit Base

def lin (a b d : List UInt8) : List UInt8 := xorL (xorL a b) d
theorem lin_len (a b d : List UInt8) (hb : a.length ≤ b.length) (hd : a.length ≤ d.length) : (lin a b d).length = a.length := by simp [lin, xorL]; omega
theorem lin_get (a b d : List UInt8) (hb : a.length ≤ b.length) (hd : a.length ≤ d.length) (k : Nat) (hk : k < a.length) : (lin a b d).getD k 0 = a.getD k 0 ^^^ b.getD k 0 ^^^ d.getD k 0 := by
  rw [List.getD_eq_getElem?_getD, List.getElem?_eq_getElem (by rw [lin_len a b d hb hd]; exact hk)]
  simp [lin, xorL, hk, show k < b.length from by omega, show k < d.length from by omega]
theorem lin_take (a b d : List UInt8) (hb : a.length ≤ b.length) (hd : a.length ≤ d.length) : lin a b d = lin a (b.take a.length) (d.take a.length) := by
  apply List.ext_getElem?
  intro i
  by_cases h : i < a.length
  · rw [List.getElem?_eq_getElem (by rw [lin_len a b d hb hd]; exact h), List.getElem?_eq_getElem (by rw [lin_len _ _ _ (by simp; omega) (by simp; omega)]; exact h)]
    simp [lin, xorL]
  · rw [List.getElem?_eq_none (by rw [lin_len a b d hb hd]; omega), List.getElem?_eq_none (by rw [lin_len _ _ _ (by simp; omega) (by simp; omega)]; omega)]
def linCell (a b d : List UInt8) (k j : Nat) : Value := if j < k then .int .u8 ((((lin a b d).getD j 0).toNat : Nat) : Int) else .int .u8 0
set_option maxHeartbeats 2000000 in
set_option maxRecDepth 100000 in
theorem crcLinear_walk (v0 v1 v2 : Value) (a b d : List UInt8) (ha : a.length ≤ 9223372036854775807) (hb : b.length ≤ 9223372036854775807) (hd : d.length ≤ 9223372036854775807) (w : World) (hA : BytesIs w v0 a) (hB : BytesIs w v1 b) (hC : BytesIs w v2 d) (hR : Rests w) :
    Calls Tryd.prog 16 #[v0, v1, v2] w fun e w' => e = .returned (.bool true) ∧ Fr0 w w' := by
  have HA := Lib.hid hA
  have HB := Lib.hid hB
  have HC := Lib.hid hC
  have HR := Lib.hid hR
  obtain ⟨a0, cap0, pb0, po0, rfl, hcap0, ha0, hc0⟩ := hA
  obtain ⟨a1, cap1, pb1, po1, rfl, hcap1, ha1, hc1⟩ := hB
  obtain ⟨a2, cap2, pb2, po2, rfl, hcap2, ha2, hc2⟩ := hC
  have HA0 := Lib.hid ha0
  have HA1 := Lib.hid ha1
  have HA2 := Lib.hid ha2
  have HC0 := Lib.hid hc0
  have HC1 := Lib.hid hc1
  have HC2 := Lib.hid hc2
  clear hR ha0 ha1 ha2 hc0 hc1 hc2
  by_cases hbad : 500 < a.length ∨ b.length < a.length ∨ d.length < a.length
  · have HD : Hid (500 < a.length ∨ b.length < a.length ∨ d.length < a.length) := Lib.hid hbad
    clear hbad
    go_enter Tryd.func16, Tryd.ntmps16
    go_wp2_with fail
    refine (awake_any _ HR.out).mono ?_
    rintro e w1 ⟨rfl, hF1⟩
    have HF1 := Lib.hid hF1
    clear hF1
    by_cases h1 : 500 < a.length
    · go_wp2
      go_ret
      exact ⟨rfl, HF1.out⟩
    · by_cases h2 : b.length < a.length
      · go_wp2
        go_ret
        exact ⟨rfl, HF1.out⟩
      · have h3 : d.length < a.length := by have := HD.out; omega
        go_wp2
        go_ret
        exact ⟨rfl, HF1.out⟩
  · have h1 : ¬ 500 < a.length := by omega
    have h2 : ¬ b.length < a.length := by omega
    have h3 : ¬ d.length < a.length := by omega
    clear hbad
    go_enter Tryd.func16, Tryd.ntmps16
    go_wp2_with fail
    refine (awake_any _ HR.out).mono ?_
    rintro e w1 ⟨rfl, hF1⟩
    have HF1 := Lib.hid hF1
    clear hF1
    have hmk := fun wx : World => run_make_row' (P := Tryd.prog) 30 5 (.int .u8 0) 1 Tryd.underlying30 (by kernel_rfl) rfl .i64 .i64 a.length (by omega) ha wx
    go_wp2
    clear hmk
    have hr0 := World.rowIs_made w1 (.int .u8 0) a.length 5
    have HR0 : Hid ((w1.alloc (.cells (madeCells #[.int .u8 0] a.length) 5)).rowIs w1.heap.size 5 a.length (linCell a b d 0)) := Lib.hid (hr0.congr (fun i hi => by simp [linCell]))
    clear hr0
    go_loopw [9] (fun i wr => ∃ k : Nat, k ≤ a.length ∧ i = .int .i64 k ∧ wr.rowIs w1.heap.size 5 a.length (linCell a b d k) ∧ Fr0 w1 wr) (fun i _ => a.length - (intOf i).toNat)
    case atStart => exact ⟨0, Nat.zero_le _, rfl, HR0.out, (Fr.refl _ _).alloc _⟩
    case round =>
      clear HR0
      obtain ⟨k, hk, rfl, hr, hF⟩ := hrel
      have HRR := Lib.hid hr
      have HF := Lib.hid hF
      clear hr hF
      by_cases hlt : k < a.length
      · obtain rfl := HA0.out (by omega)
        obtain rfl := HA1.out (by omega)
        obtain rfl := HA2.out (by omega)
        have hFw := HF1.out.trans' HF.out
        have c0 : wr.cell? ⟨pb0, po0 + k, none⟩ = some (.int .u8 ((a.getD k 0).toNat : Int)) := (hFw.cell (p := ⟨pb0, po0 + k, none⟩) (World.block_lt_of_cell? w _ (HC0.out k hlt)) (fun f => f)).trans (HC0.out k hlt)
        have c1 : wr.cell? ⟨pb1, po1 + k, none⟩ = some (.int .u8 ((b.getD k 0).toNat : Int)) := (hFw.cell (p := ⟨pb1, po1 + k, none⟩) (World.block_lt_of_cell? w _ (HC1.out k (by omega))) (fun f => f)).trans (HC1.out k (by omega))
        have c2 : wr.cell? ⟨pb2, po2 + k, none⟩ = some (.int .u8 ((d.getD k 0).toNat : Int)) := (hFw.cell (p := ⟨pb2, po2 + k, none⟩) (World.block_lt_of_cell? w _ (HC2.out k (by omega))) (fun f => f)).trans (HC2.out k (by omega))
        have c3 : wr.cell? ⟨w1.heap.size, k, none⟩ = some (.int .u8 0) := by have := HRR.out.cell (i := k) hlt; rw [this]; simp [linCell]
        have cf := HRR.out.frozen k
        have hs : bits .xor .u8 (bits .xor .u8 ((a.getD k 0).toNat : Int) ((b.getD k 0).toNat : Int)) ((d.getD k 0).toNat : Int) = (((lin a b d).getD k 0).toNat : Int) := by
          rw [u8_xor_nat _ _ (a.getD k 0).toNat_lt (b.getD k 0).toNat_lt, u8_xor_nat _ _ (Nat.xor_lt_two_pow (n := 8) (a.getD k 0).toNat_lt (b.getD k 0).toNat_lt) (d.getD k 0).toNat_lt, lin_get a b d (by omega) (by omega) k hlt, UInt8.toNat_xor, UInt8.toNat_xor]
        have HS := Lib.hid hs
        have HN : Hid (∀ i, i < a.length → (if i = k then Value.int .u8 (bits .xor .u8 (bits .xor .u8 ((a.getD k 0).toNat : Int) ((b.getD k 0).toNat : Int)) ((d.getD k 0).toNat : Int)) else linCell a b d k i) = linCell a b d (k + 1) i) := Lib.hid (by
          intro i hi
          unfold linCell
          by_cases h : i = k
          · subst h; rw [if_pos rfl, if_pos (by omega), HS.out]
          · rw [if_neg h]
            by_cases h' : i < k
            · rw [if_pos h', if_pos (by omega)]
            · rw [if_neg h', if_neg (by omega)])
        have hx := (a.getD k 0).toNat_lt
        have hy := (b.getD k 0).toNat_lt
        have hz := (d.getD k 0).toNat_lt
        clear hs hFw
        generalize (a.getD k 0).toNat = x at *
        generalize (b.getD k 0).toNat = y at *
        generalize (d.getD k 0).toNat = z at *
        have hi1 : (k : Int) < (a.length : Int) := by omega
        have hi2 : (k : Int) < (b.length : Int) := by omega
        have hi3 : (k : Int) < (d.length : Int) := by omega
        have hi4 : 0 ≤ (k : Int) := by omega
        go_wp2
        go_still_tail 17, (by kernel_rfl)
        go_wp2
        go_roundw
        case rel => exact ⟨k + 1, by omega, by go_num, ((show wr.drew.rowIs w1.heap.size 5 a.length (linCell a b d k) from HRR.out).set k _).congr HN.out, Fr.setCell (p := ⟨w1.heap.size, k, none⟩) HF.out.drew (fun h => absurd h (Nat.lt_irrefl _)) _⟩
        case measure => simp only [intOf]; omega
      · have hkl : k = a.length := by omega
        have hr := HRR.out
        rw [hkl] at hr
        have hX : wr.heap[w1.heap.size]? = some (.cells (bvals (lin a b d)).toArray 5 (0, 0)) := bytes_rowIs hr (lin_len a b d (by omega) (by omega)).symm (fun i hi => by simp [linCell, hi])
        have HBX : Hid (BytesIs wr (.slice (some ⟨w1.heap.size, 0, none⟩) a.length a.length) (lin a b d)) := Lib.hid (BytesIs.block hX _ _ (lin_len a b d (by omega) (by omega)).symm (Nat.le_refl _))
        have HFw := Lib.hid (HF1.out.trans' HF.out)
        clear hr hX hkl
        have sl1 := fun wx => cut_hi_at (P := Tryd.prog) 30 5 Tryd.underlying30 (by kernel_rfl) a1 b.length cap1 a.length (by omega) wx
        have sl2 := fun wx => cut_hi_at (P := Tryd.prog) 30 5 Tryd.underlying30 (by kernel_rfl) a2 d.length cap2 a.length (by omega) wx
        have SL1 := Lib.hid sl1
        have SL2 := Lib.hid sl2
        have tk : ∀ (l : List UInt8) (A : Option Addr) (C : Nat), a.length ≤ l.length → BytesIs w (.slice A l.length C) l → BytesIs wr (.slice A a.length C) (l.take a.length) := fun l A C hle hB => by
          obtain ⟨a', c', pb, po, he, h1, h2, h3⟩ := hB.fr0 HFw.out
          simp only [Value.slice.injEq, true_and] at he
          obtain ⟨rfl, rfl⟩ := he
          have hl : (l.take a.length).length = a.length := by simp; omega
          exact ⟨A, C, pb, po, by rw [hl], by rw [hl]; omega, fun h => h2 (by omega), fun j hj => by rw [hl] at hj; rw [h3 j (by omega)]; simp [hj]⟩
        have HTB := Lib.hid (tk b a1 cap1 (by omega) HB.out)
        have HTD := Lib.hid (tk d a2 cap2 (by omega) HC.out)
        have HRw := Lib.hid (HR.out.fr HFw.out (fun f => f))
        clear sl1 sl2 tk
        go_wp2
        have of1 : ∀ (l : List UInt8), l.length ≤ 9223372036854775807 → ∀ (W : World) (v : Value), Fr0 wr W → PartsIs W v [l] → Calls Tryd.prog 30 #[v] W fun e w' => e = .returned (.int .u32 ((crc 0 l : Nat) : Int)) ∧ Fr0 W w' := fun l hl W v hF hP => by
          refine (of_any v [l] W hP (HRw.out.fr hF (fun f => f)) (by simp; exact hl)).mono fun e w' ⟨he, hw⟩ => ⟨by rw [he]; simp, by rw [← hw]; exact Fr.refl _ _⟩
        refine cl_region (x := lin a b d) (a := a) (b := b.take a.length) (d := d.take a.length) (n := (a.length : Int)) (r0 := ((crc 0 (lin a b d) : Nat) : Int)) (r1 := ((crc 0 a : Nat) : Int)) (r2 := ((crc 0 (b.take a.length) : Nat) : Int)) (r3 := ((crc 0 (d.take a.length) : Nat) : Int)) (r12 := ((crc 0 a ^^^ crc 0 (b.take a.length) : Nat) : Int))
          (V0 := .slice a0 a.length cap0) (V1 := .slice a1 b.length cap1) (V2 := .slice a2 d.length cap2) (U1 := .slice a1 a.length cap1) (U2 := .slice a2 a.length cap2) (V8 := .slice (some ⟨w1.heap.size, 0, none⟩) a.length a.length) ?_ ?_
        · refine ⟨rfl, rfl, rfl, rfl, rfl, rfl, HA.out.fr0 HFw.out, HTB.out, HTD.out, HBX.out, SL1.out, SL2.out, u32_xor_nat _ _ (crc_lt _ _ (by decide)) (crc_lt _ _ (by decide)), ?_, of1 _ ?_, of1 _ ha, of1 _ ?_, of1 _ ?_⟩
          · rw [u32_xor_nat _ _ (xor_lt _ _ (crc_lt _ _ (by decide)) (crc_lt _ _ (by decide))) (crc_lt _ _ (by decide)), lin_take a b d (by omega) (by omega)]
            unfold lin
            rw [crc_linear a (b.take a.length) (d.take a.length) (by simp; omega) (by simp; omega)]
          · rw [lin_len a b d (by omega) (by omega)]; exact ha
          · simp; omega
          · simp; omega
        intro a' w8 hF8 hdf h0
        have hF : Fr0 w w8 := HFw.out.trans' hF8
        go_wp2
        exact bodyPost_ret (results_tmp rfl a'.tmps Tryd.prog w8) hdf ⟨congrArg Ending.returned h0, hF⟩
end Go.Proofs.YtcdfflieooopjaaDoor.Crc
