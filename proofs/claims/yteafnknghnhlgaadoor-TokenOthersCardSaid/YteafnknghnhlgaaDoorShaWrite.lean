/-
  The walk of the hasher's write.
-/
import Derived.Test.YteafnknghnhlgaaDoorShaMsg
import Derived.Deep.LoopGhost
namespace Go.Proofs.YteafnknghnhlgaaDoor.Sha
open Go.RowKit Base

def sliceLen : Value → Nat
  | .slice _ n _ => n
  | _ => 0

theorem Fr1.set {b o : Nat} {a w : World} (h : Fr1 b a w) (u : Value) : Fr1 b a (w.setCell ⟨b, o, none⟩ u) := Fr.setCell h (fun _ => rfl) u
theorem HI_whole {w : World} {b n q tot : Nat} {M x : List UInt8} {B : Nat → Int} (hn : M.length % 64 = n) (hq : M.length / 64 = q) (h : n + x.length = 64) (hB1 : ∀ j, j < 64 → 0 ≤ B j ∧ B j < 256)
    (hB2 : ∀ j, j < n → B j = blk M q j) (hr : w.rowIs b 62 74 (hcell (block (lay B n x) (st M q)) (lay B n x) 0 tot)) : HI w b (M ++ x) tot := by
  subst hn hq
  obtain ⟨g1, g2, g3⟩ := grow_whole M x B h hB2
  refine ⟨lay B (M.length % 64) x, lay_lt _ _ _ hB1, fun j hj => by omega, ?_⟩
  rw [g1, g2, ← g3]; exact hr
theorem HI_part {w : World} {b n q tot : Nat} {M x : List UInt8} {B : Nat → Int} (hn : M.length % 64 = n) (hq : M.length / 64 = q) (h : n + x.length < 64) (hB1 : ∀ j, j < 64 → 0 ≤ B j ∧ B j < 256)
    (hB2 : ∀ j, j < n → B j = blk M q j) (hr : w.rowIs b 62 74 (hcell (st M q) (lay B n x) (n + x.length) tot)) : HI w b (M ++ x) tot := by
  subst hn hq
  obtain ⟨g1, g2, g3⟩ := grow_within M x h
  refine ⟨lay B (M.length % 64) x, lay_lt _ _ _ hB1, fun j hj => ?_, ?_⟩
  · rw [g1] at hj; rw [g2]; exact lay_blk M x B (by omega) hB2 j hj
  · rw [g1, g2, g3]; exact hr
theorem slice_eq {a a' : Option Addr} {n n' c c' : Nat} (ha : a = a') (hn : n = n') (hc : c = c') : Value.slice a n c = Value.slice a' n' c' := by rw [ha, hn, hc]
set_option maxHeartbeats 1000000 in
theorem write_any (b : Nat) (m l : List UInt8) (a : Option Addr) (cap : Nat) (w : World) (h : HI w b m m.length) (hK : Rounds w) (hb : b ≠ 0)
    (hsum : m.length + l.length ≤ 1152921504606846976) (hcap : l.length ≤ cap) (pb po : Nat) (ha : 0 < l.length → a = some ⟨pb, po, none⟩) (hpb : pb ≠ b) (hpl : 0 < l.length → pb < w.heap.size)
    (hc : ∀ j, j < l.length → w.cell? ⟨pb, po + j, none⟩ = some (.int .u8 ((l.getD j 0).toNat : Int))) :
    Calls Tryd.prog 33 #[.pointer (some ⟨b, 0, none⟩), .slice a l.length cap] w fun e w' => e = .returned (.tuple #[]) ∧ HI w' b (m ++ l) (m ++ l).length ∧ Fr1 b w w' := by
  have HH := Lib.hid h
  have HP := Lib.hid ha
  have HC := Lib.hid hc
  have HKK := Lib.hid hK
  obtain ⟨B0, hB0, hB0', hr0⟩ := h
  have c73 := hcell_total _ _ _ _ hr0
  have f73 := hr0.frozen 73
  have HR0 := Lib.hid hr0
  have HB0 := Lib.hid hB0
  have HB0' := Lib.hid hB0'
  clear hB0 hB0' hr0 ha hc hK
  go_enter Tryd.func33, Tryd.ntmps33
  go_wp2
  go_loopw [1] (fun v wr => ∃ (k : Nat) (A : Option Addr), k ≤ l.length ∧ v = .slice A (l.length - k) (cap - k) ∧ (k < l.length → A = some ⟨pb, po + k, none⟩) ∧ HI wr b (m ++ l.take k) (m.length + l.length) ∧ Rounds wr ∧ Fr1 b w wr) (fun v _ => sliceLen v)
  case atStart =>
    refine ⟨0, a, Nat.zero_le _, rfl, HP.out, ?_, ?_, ?_⟩
    · simp only [List.take_zero, List.append_nil]
      exact ⟨B0, HB0.out, HB0'.out, (HR0.out.set 73 _).congr (by
        intro i hi
        unfold hcell
        by_cases h : i = 73
        · subst h; simp
        · rw [if_neg h]
          by_cases h1 : i < 8
          · rw [if_pos h1, if_pos h1]
          · rw [if_neg h1, if_neg h1]
            by_cases h2 : i < 72
            · rw [if_pos h2, if_pos h2]
            · rw [if_neg h2, if_neg h2, if_pos (by omega), if_pos (by omega)])⟩
    · exact HKK.out.fr (S := fun k => k = b) (Fr1.set (Fr.refl _ _) _) (fun e => hb e.symm)
    · exact Fr1.set (Fr.refl _ _) _
  case round =>
    clear c73 f73
    obtain ⟨k, A, hk, rfl, hA, hHI, hK, hF⟩ := hrel
    have HA := Lib.hid hA; clear hA
    have HK := Lib.hid hK; clear hK
    have HF := Lib.hid hF; clear hF
    by_cases hlt : k < l.length
    · generalize hM : m ++ l.take k = M at hHI
      have HM := Lib.hid hM; clear hM
      obtain ⟨B, hB1, hB2, hr⟩ := hHI
      generalize hn : M.length % 64 = n at hB2 hr
      generalize hq : M.length / 64 = q at hB2 hr
      have hn64 : n < 64 := by omega
      obtain ⟨x, hx⟩ : ∃ x, x = (l.drop k).take (64 - n) := ⟨_, rfl⟩
      have hxl : x.length = Nat.min (l.length - k) (64 - n) := by rw [hx, List.length_take, List.length_drop, Nat.min_comm]
      have hxg : ∀ j, j < x.length → x.getD j 0 = l.getD (k + j) 0 := by
        intro j hj
        rw [hx] at hj ⊢
        simp only [List.getD_eq_getElem?_getD]
        rw [List.getElem?_take_of_lt (by rw [List.length_take] at hj; omega), List.getElem?_drop]
      have hx0 : 1 ≤ x.length := by rw [hxl]; exact Nat.le_min.2 ⟨by omega, by omega⟩
      have hx1 : x.length ≤ l.length - k := by rw [hxl]; exact Nat.min_le_left _ _
      have hx2' : x.length ≤ 64 - n := by rw [hxl]; exact Nat.min_le_right _ _
      have hx2 : n + x.length ≤ 64 := by omega
      have hMx : M ++ x = m ++ l.take (k + x.length) := by
        rw [← HM.out, List.append_assoc]
        congr 1
        have e : x = (l.drop k).take x.length := by rw [hx, List.length_take, List.take_eq_take_min]
        rw [List.take_add, ← e]
      obtain rfl : A = some ⟨pb, po + k, none⟩ := HA.out hlt
      obtain ⟨X, hcp, hrX⟩ := copy_eq wr.drew b (st M q) B n (m.length + l.length) hr ⟨pb, po + k, none⟩ (l.length - k) (cap - k) x hxl hn64 (fun j hj => by
        have hbb : pb < w.heap.size := hpl (by omega)
        rw [Addr.add_mid, hxg j hj, Nat.add_assoc]
        exact (HF.out.cell (p := ⟨pb, po + (k + j), none⟩) hbb hpb).trans (HC.out (k + j) (by omega)))
      have hsl : ∀ wx : World, (Instr.sliceAt 50 (.pointer (some ⟨b, 8, none⟩)) (some (.int .i64 (n : Int))) none none).run Tryd.prog wx = .ok (.slice (some ⟨b, 8 + n, none⟩) (64 - n) (64 - n)) wx := by
        intro wx
        have := slice_arr_lo (P := Tryd.prog) 50 5 64 Tryd.underlying50 (by kernel_rfl) ⟨b, 8, none⟩ n hn64 wx
        rw [Addr.add_mid] at this
        exact this
      have c72 := hcell_waits _ _ _ _ hr
      have c72' := hcell_waits _ _ _ _ hrX
      have f72 := hrX.frozen 72
      have hrY : ((wr.drew.setRow b X).setCell ⟨b, 72, none⟩ (.int .i64 ((n : Int) + (x.length : Int)))).rowIs b 62 74 (hcell (st M q) (lay B n x) (n + x.length) (m.length + l.length)) :=
        (hrX.set 72 _).congr (fun i _ => by
          unfold hcell
          by_cases h : i = 72
          · subst h; simp
          · rw [if_neg h]
            by_cases h1 : i < 8
            · rw [if_pos h1, if_pos h1]
            · rw [if_neg h1, if_neg h1]
              by_cases h2 : i < 72
              · rw [if_pos h2, if_pos h2]
              · rw [if_neg h2, if_neg h2, if_neg h, if_neg h])
      have hFY : Fr1 b w ((wr.drew.setRow b X).setCell ⟨b, 72, none⟩ (.int .i64 ((n : Int) + (x.length : Int)))) := Fr1.set (Fr.setRow HF.out.drew (fun _ => rfl) X) _
      have HFY := Lib.hid hFY
      have HRY := Lib.hid hrY
      have HRX := Lib.hid hrX
      have HB1 := Lib.hid hB1
      have HB2 := Lib.hid hB2
      have HN := Lib.hid hn
      have HQ := Lib.hid hq
      have HX := Lib.hid hx
      have HXL := Lib.hid hxl
      have HXG := Lib.hid hxg
      have HMX := Lib.hid hMx
      clear hB1 hB2 hn hq hx hxl hxg hMx hr hrX hrY hFY
      have HKY := Lib.hid (HKK.out.fr HFY.out (fun e => hb e.symm))
      by_cases h64 : n + x.length = 64
      · have h64b : ((n : Int) + (x.length : Int) == 64) = true := by rw [beq_iff_eq]; omega
        have H64 := Lib.hid h64; clear h64
        go_wp2
        go_region
        all_goals go_wp2_with fail
        all_goals
          refine (mix_any b (st M q) (st_ok M q) (lay B n x) (lay_lt B n x HB1.out) (n + x.length) (m.length + l.length) _ HRY.out HKY.out hb).mono ?_
          rintro e w2 ⟨rfl, hr2, hf2⟩
          have hHI2 : HI w2 b (m ++ l.take (k + x.length)) (m.length + l.length) := by rw [← HMX.out]; exact HI_whole HN.out HQ.out H64.out HB1.out HB2.out hr2
          have HHI2 := Lib.hid hHI2
          have HF2 := Lib.hid (HFY.out.trans' hf2)
          have HK2 := Lib.hid (HKY.out.fr hf2 (fun e => hb e.symm))
          clear hHI2 hr2 hf2
          go_wp2
          go_roundw
          case rel => exact ⟨k + x.length, _, by omega, slice_eq rfl (by omega) (by omega), fun h => by first | (exfalso; omega) | (rw [if_neg (by omega)]; simp only [Nat.add_assoc]; done) | (simp only [Nat.add_assoc]; done), HHI2.out, HK2.out, HF2.out⟩
          case measure => simp only [sliceLen]; omega
      · have h64b : ((n : Int) + (x.length : Int) == 64) = false := by rw [beq_eq_false_iff_ne]; omega
        have H64 : Hid (n + x.length < 64) := Lib.hid (by omega)
        clear h64
        go_wp2
        go_region
        all_goals go_wp2
        all_goals
          go_roundw
          case rel => exact ⟨k + x.length, _, by omega, slice_eq rfl (by omega) (by omega), fun h => by first | (exfalso; omega) | (rw [if_neg (by omega)]; simp only [Nat.add_assoc]; done) | (simp only [Nat.add_assoc]; done), by rw [← HMX.out]; exact HI_part HN.out HQ.out H64.out HB1.out HB2.out HRY.out, HKY.out, HFY.out⟩
          case measure => simp only [sliceLen]; omega
    · have hkl : k = l.length := by omega
      have e : (m ++ l).length = m.length + l.length := List.length_append
      have hHI' : HI wr b (m ++ l) (m ++ l).length := by
        rw [e]; rw [hkl, List.take_length] at hHI; exact hHI
      have HHI := Lib.hid hHI'
      clear hHI hHI' e hkl
      go_wp2
      go_end0
      exact ⟨rfl, HHI.out, HF.out⟩
end Go.Proofs.YteafnknghnhlgaaDoor.Sha
