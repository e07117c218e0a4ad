/-
  PackPlays: any bytes, any reads: as the reference's reader: the walk (made by wip/tools/packplaysw.py).
-/
import Derived.Test.YtheednoklgccdaaPackPlaysR
import Derived.Test.YtheednoklgccdaaLawP
namespace Go.Proofs.Ytheednoklgccdaa.Pack
open Go.RowKit Base Ph

theorem fr0_of_two {w0 w w' : World} {g h : Nat} (hf : Fr0 w0 w) (hg : Fr (fun k => k = g ∨ k = h) w w') (h1 : w0.heap.size ≤ g) (h2 : w0.heap.size ≤ h) : Fr0 w0 w' := hf.trans hg (fun i hi e => by rcases e with e | e <;> omega)
theorem cutRest_le (n : Nat) (l : List UInt8) : (cutRest n l).length ≤ l.length := by unfold cutRest; split <;> simp
theorem takeRest_le (n : Int) (l : List UInt8) : (takeRest n l).length ≤ l.length := by
  unfold takeRest
  split
  · simp
  · exact cutRest_le _ _
theorem bytesRest_le (m : Int) (l : List UInt8) : (bytesRest m l).length ≤ l.length := by
  unfold bytesRest
  split
  · simp
  · exact Nat.le_trans (cutRest_le _ _) (cutRest_le _ _)
theorem RdAt.cells {w : World} {g : Nat} {t : TypeId} {l : List UInt8} {e : Int} (h : RdAt w g t l e) : ∃ a c, w.cell? ⟨g, 0, none⟩ = some (.slice a l.length c) := by
  obtain ⟨sv, hr, hb⟩ := h
  obtain ⟨a, c, rfl⟩ := hb.form
  exact ⟨a, c, hr.cell (i := 0) (by decide)⟩
/-- how the two stand between two rounds -/
structure Both (w : World) (g h : Nat) (l : List UInt8) (e : Int) (b : List UInt8) (E : Int) : Prop where
  r : RdAt w g 59 l e
  h : RdAt w h 43 b E
  al : Alike l e b E
  ll : l.length ≤ 500
  lb : b.length ≤ 500
set_option maxHeartbeats 16000000 in
set_option maxRecDepth 100000 in
theorem packPlays_walk (v0 v1 : Value) (b : List UInt8) (L : List (Int × Int)) (hb : b.length ≤ 9223372036854775807) (hL : L.length ≤ 9223372036854775807) (hbd : ∀ q ∈ L, (-9223372036854775808 ≤ q.1 ∧ q.1 ≤ 9223372036854775807) ∧ (-9223372036854775808 ≤ q.2 ∧ q.2 ≤ 9223372036854775807)) (w : World) (hB : BytesIs w v0 b) (hP : PairsIs w v1 L) :
    Calls Try.prog 4 #[v0, v1] w fun e w' => e = .returned (.bool true) ∧ Fr0 w w' := by
  have HB := Lib.hid hB
  have HP := Lib.hid hP
  have HBD := Lib.hid hbd
  obtain ⟨a0, c0, rfl⟩ := hB.form
  obtain ⟨a1, c1, pb, po, rfl, hcap, ha1, hc1⟩ := hP
  have HA := Lib.hid ha1
  have HC := Lib.hid hc1
  clear hB hbd ha1 hc1
  by_cases h500 : 500 < b.length
  · go_enter Try.func4, Try.ntmps4
    go_wp2_with fail
    refine (awake_any w).mono ?_
    rintro e w1 ⟨rfl, hF1⟩
    have HF1 := Lib.hid hF1
    clear hF1
    go_wp2
    go_ret
    exact ⟨rfl, HF1.out⟩
  · by_cases h60 : 60 < L.length
    · go_enter Try.func4, Try.ntmps4
      go_wp2_with fail
      refine (awake_any w).mono ?_
      rintro e w1 ⟨rfl, hF1⟩
      have HF1 := Lib.hid hF1
      clear hF1
      go_wp2
      go_ret
      exact ⟨rfl, HF1.out⟩
    · go_enter Try.func4, Try.ntmps4
      go_wp2_with fail
      refine (awake_any w).mono ?_
      rintro e w1 ⟨rfl, hF1⟩
      have HF1 := Lib.hid hF1
      clear hF1
      go_wp2_with fail
      refine (new_any _ b (by omega) w1 (HB.out.fr0 HF1.out)).mono ?_
      rintro e w2 ⟨g, rfl, hg, hR2, hF2⟩
      have HG : Hid (w.heap.size ≤ g) := Lib.hid (Nat.le_trans HF1.out.size hg)
      have HF2 := Lib.hid (HF1.out.trans' hF2)
      have HGL := Lib.hid hR2.lt
      have HH : Hid (w.heap.size ≤ w2.heap.size) := Lib.hid HF2.out.size
      have HST : Hid (Both (w2.alloc (.cells #[.slice a0 b.length c0, .int .i64 0] 43)) g w2.heap.size b 0 b 0) := Lib.hid (by
        refine ⟨hR2.fr0 ((Fr.refl _ _).alloc _), ⟨.slice a0 b.length c0, rowIs_new w2 _ _ 2 _ rfl (fun i hi => ?_), (HB.out.fr0 HF2.out).fr0 ((Fr.refl _ _).alloc _)⟩, ⟨rfl, by simp⟩, by omega, by omega⟩
        match i, hi with
        | 0, _ => rfl
        | 1, _ => rfl)
      have HF3 : Hid (Fr0 w (w2.alloc (.cells #[.slice a0 b.length c0, .int .i64 0] 43))) := Lib.hid (HF2.out.alloc _)
      clear hR2 hF2 hg
      go_wp2
      generalize w2.heap.size = h at *
      have hne : g ≠ h := by have := HGL.out; omega
      have HNE := Lib.hid hne
      clear hne HGL
      go_loopw [7] (fun i wr => ∃ (k : Nat) (l : List UInt8) (e : Int) (b' : List UInt8) (E : Int), k ≤ L.length ∧ i = .int .i64 k ∧ Both wr g h l e b' E ∧ Fr0 w wr) (fun i _ => L.length - (intOf i).toNat)
      case atStart => exact ⟨0, b, 0, b, 0, Nat.zero_le _, rfl, HST.out, HF3.out⟩
      case round =>
        clear HST HF3 HF1 HF2 HB
        obtain ⟨k, l, e, b', E, hk, rfl, hbo, hF⟩ := hrel
        have HF := Lib.hid hF
        have HR := Lib.hid hbo.r
        have HQ := Lib.hid hbo.h
        have HAL := Lib.hid hbo.al
        have HLL := Lib.hid hbo.ll
        have HLB := Lib.hid hbo.lb
        clear hbo hF
        by_cases hlt : k < L.length
        · obtain rfl := HA.out (by omega)
          obtain ⟨k0, k1⟩ := HC.out k hlt
          obtain ⟨⟨bo1, bo2⟩, bn⟩ := HBD.out (L.getD k (0, 0)) (by simp [hlt])
          have hpb := World.block_lt_of_cell? w _ k0
          have c00 : wr.cell? ⟨pb, po + k * 2, none⟩ = some (.int .i64 (L.getD k (0, 0)).1) := (HF.out.cell (p := ⟨pb, po + k * 2, none⟩) hpb (fun f => f)).trans k0
          have c01 : wr.cell? ⟨pb, po + k * 2 + 1, none⟩ = some (.int .i64 (L.getD k (0, 0)).2) := (HF.out.cell (p := ⟨pb, po + k * 2 + 1, none⟩) hpb (fun f => f)).trans k1
          have HCN : Hid (∀ W, Fr (fun j => j = g ∨ j = h) wr.drew W → W.cell? ⟨pb, po + k * 2 + 1, none⟩ = some (.int .i64 (L.getD k (0, 0)).2)) := Lib.hid (fun W hW => by
            have h1 : pb < w.heap.size := hpb
            have h2 := HG.out
            have h3 := HH.out
            have h4 := HF.out.size
            rw [hW.cell (p := ⟨pb, po + k * 2 + 1, none⟩) (Nat.lt_of_lt_of_le h1 h4) (fun hs => by rcases hs with hs | hs <;> (have hs' : pb = _ := hs; omega)), World.cell?_drew]
            exact c01)
          have HBN := Lib.hid bn
          clear k0 k1 c01 bn hpb
          generalize (L.getD k (0, 0)).1 = op at *
          generalize (L.getD k (0, 0)).2 = N at *
          have hi1 : (k : Int) < (L.length : Int) := by omega
          have hi2 : 0 ≤ (k : Int) := by omega
          by_cases h0 : op = 0
          · subst h0
            have hx : num (cutOut 1 l) < 256 := cutOut_num 1 l
            obtain ⟨al1, al2⟩ := alike_cut 1 HAL.out
            simp only [show ((1 : Nat) : Int) = 1 from rfl] at al1 al2
            have HA1 := Lib.hid al1
            have HAL5 := Lib.hid al2
            clear al1 al2
            go_wp2_with fail
            refine (ru8_any g l e wr (by have := HLL.out; omega) HR.out).mono ?_
            rintro e' w3 ⟨rfl, hR3, hF3⟩
            have HR3 := Lib.hid hR3
            have HQ3 := Lib.hid (HQ.out.fr1 hF3 (fun h => HNE.out h.symm) HR.out.noU8)
            have HF3 := Lib.hid (fr0_of_fr1 HF.out hF3 HG.out)
            clear hR3 hF3 c00
            generalize hX : num (cutOut 1 l) = x at *
            have HX := Lib.hid hX
            clear hX
            go_wp2_with fail
            refine (rN_any h 1 b' E w3 (by decide) (by have := HLB.out; omega) HQ3.out).mono ?_
            rintro e' w5 ⟨rfl, hR4, hF4⟩
            simp only [show ((1 : Nat) : Int) = 1 from rfl] at hR4 ⊢
            rw [← HA1.out, HX.out]
            have HQ5 := Lib.hid hR4
            have HR5 := Lib.hid (HR3.out.fr1 hF4 HNE.out HQ3.out.noU8)
            have HF5 := Lib.hid (fr0_of_fr1 HF3.out hF4 HH.out)
            have HL5 := Lib.hid (Nat.le_trans (cutRest_le 1 l) HLL.out)
            have HB5 := Lib.hid (Nat.le_trans (refRest_le 1 b' E) HLB.out)
            clear hR4 hF4 HR HQ HF HR3 HQ3 HF3 HX HA1
            generalize cutRest 1 l = l2 at *
            generalize cutErr 1 l e = e2 at *
            generalize refRest 1 b' E = b2 at *
            generalize refErr 1 b' E = E2 at *
            obtain ⟨rfl, hl2⟩ := HAL5.out
            have HL2 := Lib.hid hl2
            clear hl2
            obtain ⟨aq, cq, q0⟩ := HQ5.out.cells
            have q1 := HQ5.out.err
            by_cases hE : e2 = 0
            · have hl3 : (b2.length : Int) = (l2.length : Int) := by have := HL2.out; rw [if_pos hE] at this; rw [this]
              have HL3 := Lib.hid hl3
              clear hl3
              go_wp2
              refine pz_region (g := g) (h := h) (l := l2) (e := e2) (b := b2) ⟨rfl, rfl, rfl, by rw [← HL3.out]; rfl⟩ ⟨HR5.out.fr0 (Fr.drew (Fr.refl _ _)), HQ5.out.fr0 (Fr.drew (Fr.refl _ _))⟩ ?_
              intro vals w6 hG6 hJ6 hv
              have hsl : vals 124 = .bool false := hv 124 (List.contains_iff_mem.1 (by kernel_rfl))
              rw [show dsts pzOps = [112, 113, 114, 115, 116, 117, 118, 119, 120, 121, 122, 123, 124] by kernel_rfl]
              simp only [frm, List.mapIdx_toArray, List.mapIdx_cons, List.mapIdx_nil, Nat.zero_add, Nat.reduceAdd, List.contains_cons, List.contains_nil, Nat.reduceBEq, Bool.or_false, Bool.false_or, Bool.or_true, Bool.true_or, Bool.or_self, Bool.false_eq_true, if_true, if_false, hsl]
              clear hsl hv
              have HR6 := Lib.hid hJ6.1
              have HQ6 := Lib.hid hJ6.2
              have HF6 := Lib.hid (fr0_of_two HF5.out hG6.fr HG.out HH.out)
              clear hJ6 hG6 q0 q1
              go_wp2
              go_roundw
              case rel => exact ⟨k + 1, l2, e2, b2, e2, by omega, by go_num, ⟨HR6.out, HQ6.out, ⟨rfl, HL2.out⟩, HL5.out, HB5.out⟩, HF6.out⟩
              case measure => simp only [intOf]; omega
            · have hl3 : (0 : Int) = (l2.length : Int) := by have := HL2.out; rw [if_neg hE] at this; rw [this]; rfl
              have HL3 := Lib.hid hl3
              clear hl3
              go_wp2
              refine pz_region (g := g) (h := h) (l := l2) (e := e2) (b := b2) ⟨rfl, rfl, rfl, by rw [← HL3.out]; rfl⟩ ⟨HR5.out.fr0 (Fr.drew (Fr.refl _ _)), HQ5.out.fr0 (Fr.drew (Fr.refl _ _))⟩ ?_
              intro vals w6 hG6 hJ6 hv
              have hsl : vals 124 = .bool false := hv 124 (List.contains_iff_mem.1 (by kernel_rfl))
              rw [show dsts pzOps = [112, 113, 114, 115, 116, 117, 118, 119, 120, 121, 122, 123, 124] by kernel_rfl]
              simp only [frm, List.mapIdx_toArray, List.mapIdx_cons, List.mapIdx_nil, Nat.zero_add, Nat.reduceAdd, List.contains_cons, List.contains_nil, Nat.reduceBEq, Bool.or_false, Bool.false_or, Bool.or_true, Bool.true_or, Bool.or_self, Bool.false_eq_true, if_true, if_false, hsl]
              clear hsl hv
              have HR6 := Lib.hid hJ6.1
              have HQ6 := Lib.hid hJ6.2
              have HF6 := Lib.hid (fr0_of_two HF5.out hG6.fr HG.out HH.out)
              clear hJ6 hG6 q0 q1
              go_wp2
              go_roundw
              case rel => exact ⟨k + 1, l2, e2, b2, e2, by omega, by go_num, ⟨HR6.out, HQ6.out, ⟨rfl, HL2.out⟩, HL5.out, HB5.out⟩, HF6.out⟩
              case measure => simp only [intOf]; omega
          by_cases h1 : op = 1
          · subst h1
            have hx : num (cutOut 2 l) < 65536 := cutOut_num 2 l
            obtain ⟨al1, al2⟩ := alike_cut 2 HAL.out
            simp only [show ((2 : Nat) : Int) = 2 from rfl] at al1 al2
            have HA1 := Lib.hid al1
            have HAL5 := Lib.hid al2
            clear al1 al2
            go_wp2_with fail
            refine (ru16_any g l e wr (by have := HLL.out; omega) HR.out).mono ?_
            rintro e' w3 ⟨rfl, hR3, hF3⟩
            have HR3 := Lib.hid hR3
            have HQ3 := Lib.hid (HQ.out.fr1 hF3 (fun h => HNE.out h.symm) HR.out.noU8)
            have HF3 := Lib.hid (fr0_of_fr1 HF.out hF3 HG.out)
            clear hR3 hF3 c00
            generalize hX : num (cutOut 2 l) = x at *
            have HX := Lib.hid hX
            clear hX
            go_wp2_with fail
            refine (rN_any h 2 b' E w3 (by decide) (by have := HLB.out; omega) HQ3.out).mono ?_
            rintro e' w5 ⟨rfl, hR4, hF4⟩
            simp only [show ((2 : Nat) : Int) = 2 from rfl] at hR4 ⊢
            rw [← HA1.out, HX.out]
            have HQ5 := Lib.hid hR4
            have HR5 := Lib.hid (HR3.out.fr1 hF4 HNE.out HQ3.out.noU8)
            have HF5 := Lib.hid (fr0_of_fr1 HF3.out hF4 HH.out)
            have HL5 := Lib.hid (Nat.le_trans (cutRest_le 2 l) HLL.out)
            have HB5 := Lib.hid (Nat.le_trans (refRest_le 2 b' E) HLB.out)
            clear hR4 hF4 HR HQ HF HR3 HQ3 HF3 HX HA1
            generalize cutRest 2 l = l2 at *
            generalize cutErr 2 l e = e2 at *
            generalize refRest 2 b' E = b2 at *
            generalize refErr 2 b' E = E2 at *
            obtain ⟨rfl, hl2⟩ := HAL5.out
            have HL2 := Lib.hid hl2
            clear hl2
            obtain ⟨aq, cq, q0⟩ := HQ5.out.cells
            have q1 := HQ5.out.err
            by_cases hE : e2 = 0
            · have hl3 : (b2.length : Int) = (l2.length : Int) := by have := HL2.out; rw [if_pos hE] at this; rw [this]
              have HL3 := Lib.hid hl3
              clear hl3
              go_wp2
              refine pz_region (g := g) (h := h) (l := l2) (e := e2) (b := b2) ⟨rfl, rfl, rfl, by rw [← HL3.out]; rfl⟩ ⟨HR5.out.fr0 (Fr.drew (Fr.refl _ _)), HQ5.out.fr0 (Fr.drew (Fr.refl _ _))⟩ ?_
              intro vals w6 hG6 hJ6 hv
              have hsl : vals 124 = .bool false := hv 124 (List.contains_iff_mem.1 (by kernel_rfl))
              rw [show dsts pzOps = [112, 113, 114, 115, 116, 117, 118, 119, 120, 121, 122, 123, 124] by kernel_rfl]
              simp only [frm, List.mapIdx_toArray, List.mapIdx_cons, List.mapIdx_nil, Nat.zero_add, Nat.reduceAdd, List.contains_cons, List.contains_nil, Nat.reduceBEq, Bool.or_false, Bool.false_or, Bool.or_true, Bool.true_or, Bool.or_self, Bool.false_eq_true, if_true, if_false, hsl]
              clear hsl hv
              have HR6 := Lib.hid hJ6.1
              have HQ6 := Lib.hid hJ6.2
              have HF6 := Lib.hid (fr0_of_two HF5.out hG6.fr HG.out HH.out)
              clear hJ6 hG6 q0 q1
              go_wp2
              go_roundw
              case rel => exact ⟨k + 1, l2, e2, b2, e2, by omega, by go_num, ⟨HR6.out, HQ6.out, ⟨rfl, HL2.out⟩, HL5.out, HB5.out⟩, HF6.out⟩
              case measure => simp only [intOf]; omega
            · have hl3 : (0 : Int) = (l2.length : Int) := by have := HL2.out; rw [if_neg hE] at this; rw [this]; rfl
              have HL3 := Lib.hid hl3
              clear hl3
              go_wp2
              refine pz_region (g := g) (h := h) (l := l2) (e := e2) (b := b2) ⟨rfl, rfl, rfl, by rw [← HL3.out]; rfl⟩ ⟨HR5.out.fr0 (Fr.drew (Fr.refl _ _)), HQ5.out.fr0 (Fr.drew (Fr.refl _ _))⟩ ?_
              intro vals w6 hG6 hJ6 hv
              have hsl : vals 124 = .bool false := hv 124 (List.contains_iff_mem.1 (by kernel_rfl))
              rw [show dsts pzOps = [112, 113, 114, 115, 116, 117, 118, 119, 120, 121, 122, 123, 124] by kernel_rfl]
              simp only [frm, List.mapIdx_toArray, List.mapIdx_cons, List.mapIdx_nil, Nat.zero_add, Nat.reduceAdd, List.contains_cons, List.contains_nil, Nat.reduceBEq, Bool.or_false, Bool.false_or, Bool.or_true, Bool.true_or, Bool.or_self, Bool.false_eq_true, if_true, if_false, hsl]
              clear hsl hv
              have HR6 := Lib.hid hJ6.1
              have HQ6 := Lib.hid hJ6.2
              have HF6 := Lib.hid (fr0_of_two HF5.out hG6.fr HG.out HH.out)
              clear hJ6 hG6 q0 q1
              go_wp2
              go_roundw
              case rel => exact ⟨k + 1, l2, e2, b2, e2, by omega, by go_num, ⟨HR6.out, HQ6.out, ⟨rfl, HL2.out⟩, HL5.out, HB5.out⟩, HF6.out⟩
              case measure => simp only [intOf]; omega
          by_cases h2 : op = 2
          · subst h2
            have hx : num (cutOut 4 l) < 4294967296 := cutOut_num 4 l
            obtain ⟨al1, al2⟩ := alike_cut 4 HAL.out
            simp only [show ((4 : Nat) : Int) = 4 from rfl] at al1 al2
            have HA1 := Lib.hid al1
            have HAL5 := Lib.hid al2
            clear al1 al2
            go_wp2_with fail
            refine (ru32_any g l e wr (by have := HLL.out; omega) HR.out).mono ?_
            rintro e' w3 ⟨rfl, hR3, hF3⟩
            have HR3 := Lib.hid hR3
            have HQ3 := Lib.hid (HQ.out.fr1 hF3 (fun h => HNE.out h.symm) HR.out.noU8)
            have HF3 := Lib.hid (fr0_of_fr1 HF.out hF3 HG.out)
            clear hR3 hF3 c00
            generalize hX : num (cutOut 4 l) = x at *
            have HX := Lib.hid hX
            clear hX
            go_wp2_with fail
            refine (rN_any h 4 b' E w3 (by decide) (by have := HLB.out; omega) HQ3.out).mono ?_
            rintro e' w5 ⟨rfl, hR4, hF4⟩
            simp only [show ((4 : Nat) : Int) = 4 from rfl] at hR4 ⊢
            rw [← HA1.out, HX.out]
            have HQ5 := Lib.hid hR4
            have HR5 := Lib.hid (HR3.out.fr1 hF4 HNE.out HQ3.out.noU8)
            have HF5 := Lib.hid (fr0_of_fr1 HF3.out hF4 HH.out)
            have HL5 := Lib.hid (Nat.le_trans (cutRest_le 4 l) HLL.out)
            have HB5 := Lib.hid (Nat.le_trans (refRest_le 4 b' E) HLB.out)
            clear hR4 hF4 HR HQ HF HR3 HQ3 HF3 HX HA1
            generalize cutRest 4 l = l2 at *
            generalize cutErr 4 l e = e2 at *
            generalize refRest 4 b' E = b2 at *
            generalize refErr 4 b' E = E2 at *
            obtain ⟨rfl, hl2⟩ := HAL5.out
            have HL2 := Lib.hid hl2
            clear hl2
            obtain ⟨aq, cq, q0⟩ := HQ5.out.cells
            have q1 := HQ5.out.err
            by_cases hE : e2 = 0
            · have hl3 : (b2.length : Int) = (l2.length : Int) := by have := HL2.out; rw [if_pos hE] at this; rw [this]
              have HL3 := Lib.hid hl3
              clear hl3
              go_wp2
              refine pz_region (g := g) (h := h) (l := l2) (e := e2) (b := b2) ⟨rfl, rfl, rfl, by rw [← HL3.out]; rfl⟩ ⟨HR5.out.fr0 (Fr.drew (Fr.refl _ _)), HQ5.out.fr0 (Fr.drew (Fr.refl _ _))⟩ ?_
              intro vals w6 hG6 hJ6 hv
              have hsl : vals 124 = .bool false := hv 124 (List.contains_iff_mem.1 (by kernel_rfl))
              rw [show dsts pzOps = [112, 113, 114, 115, 116, 117, 118, 119, 120, 121, 122, 123, 124] by kernel_rfl]
              simp only [frm, List.mapIdx_toArray, List.mapIdx_cons, List.mapIdx_nil, Nat.zero_add, Nat.reduceAdd, List.contains_cons, List.contains_nil, Nat.reduceBEq, Bool.or_false, Bool.false_or, Bool.or_true, Bool.true_or, Bool.or_self, Bool.false_eq_true, if_true, if_false, hsl]
              clear hsl hv
              have HR6 := Lib.hid hJ6.1
              have HQ6 := Lib.hid hJ6.2
              have HF6 := Lib.hid (fr0_of_two HF5.out hG6.fr HG.out HH.out)
              clear hJ6 hG6 q0 q1
              go_wp2
              go_roundw
              case rel => exact ⟨k + 1, l2, e2, b2, e2, by omega, by go_num, ⟨HR6.out, HQ6.out, ⟨rfl, HL2.out⟩, HL5.out, HB5.out⟩, HF6.out⟩
              case measure => simp only [intOf]; omega
            · have hl3 : (0 : Int) = (l2.length : Int) := by have := HL2.out; rw [if_neg hE] at this; rw [this]; rfl
              have HL3 := Lib.hid hl3
              clear hl3
              go_wp2
              refine pz_region (g := g) (h := h) (l := l2) (e := e2) (b := b2) ⟨rfl, rfl, rfl, by rw [← HL3.out]; rfl⟩ ⟨HR5.out.fr0 (Fr.drew (Fr.refl _ _)), HQ5.out.fr0 (Fr.drew (Fr.refl _ _))⟩ ?_
              intro vals w6 hG6 hJ6 hv
              have hsl : vals 124 = .bool false := hv 124 (List.contains_iff_mem.1 (by kernel_rfl))
              rw [show dsts pzOps = [112, 113, 114, 115, 116, 117, 118, 119, 120, 121, 122, 123, 124] by kernel_rfl]
              simp only [frm, List.mapIdx_toArray, List.mapIdx_cons, List.mapIdx_nil, Nat.zero_add, Nat.reduceAdd, List.contains_cons, List.contains_nil, Nat.reduceBEq, Bool.or_false, Bool.false_or, Bool.or_true, Bool.true_or, Bool.or_self, Bool.false_eq_true, if_true, if_false, hsl]
              clear hsl hv
              have HR6 := Lib.hid hJ6.1
              have HQ6 := Lib.hid hJ6.2
              have HF6 := Lib.hid (fr0_of_two HF5.out hG6.fr HG.out HH.out)
              clear hJ6 hG6 q0 q1
              go_wp2
              go_roundw
              case rel => exact ⟨k + 1, l2, e2, b2, e2, by omega, by go_num, ⟨HR6.out, HQ6.out, ⟨rfl, HL2.out⟩, HL5.out, HB5.out⟩, HF6.out⟩
              case measure => simp only [intOf]; omega
          by_cases h3 : op = 3
          · subst h3
            have hx : num (cutOut 8 l) < 18446744073709551616 := cutOut_num 8 l
            obtain ⟨al1, al2⟩ := alike_cut 8 HAL.out
            simp only [show ((8 : Nat) : Int) = 8 from rfl] at al1 al2
            have HA1 := Lib.hid al1
            have HAL5 := Lib.hid al2
            clear al1 al2
            go_wp2_with fail
            refine (ru64_any g l e wr (by have := HLL.out; omega) HR.out).mono ?_
            rintro e' w3 ⟨rfl, hR3, hF3⟩
            have HR3 := Lib.hid hR3
            have HQ3 := Lib.hid (HQ.out.fr1 hF3 (fun h => HNE.out h.symm) HR.out.noU8)
            have HF3 := Lib.hid (fr0_of_fr1 HF.out hF3 HG.out)
            clear hR3 hF3 c00
            generalize hX : num (cutOut 8 l) = x at *
            have HX := Lib.hid hX
            clear hX
            go_wp2_with fail
            refine (rN_any h 8 b' E w3 (by decide) (by have := HLB.out; omega) HQ3.out).mono ?_
            rintro e' w5 ⟨rfl, hR4, hF4⟩
            simp only [show ((8 : Nat) : Int) = 8 from rfl] at hR4 ⊢
            rw [← HA1.out, HX.out]
            have HQ5 := Lib.hid hR4
            have HR5 := Lib.hid (HR3.out.fr1 hF4 HNE.out HQ3.out.noU8)
            have HF5 := Lib.hid (fr0_of_fr1 HF3.out hF4 HH.out)
            have HL5 := Lib.hid (Nat.le_trans (cutRest_le 8 l) HLL.out)
            have HB5 := Lib.hid (Nat.le_trans (refRest_le 8 b' E) HLB.out)
            clear hR4 hF4 HR HQ HF HR3 HQ3 HF3 HX HA1
            generalize cutRest 8 l = l2 at *
            generalize cutErr 8 l e = e2 at *
            generalize refRest 8 b' E = b2 at *
            generalize refErr 8 b' E = E2 at *
            obtain ⟨rfl, hl2⟩ := HAL5.out
            have HL2 := Lib.hid hl2
            clear hl2
            obtain ⟨aq, cq, q0⟩ := HQ5.out.cells
            have q1 := HQ5.out.err
            by_cases hE : e2 = 0
            · have hl3 : (b2.length : Int) = (l2.length : Int) := by have := HL2.out; rw [if_pos hE] at this; rw [this]
              have HL3 := Lib.hid hl3
              clear hl3
              go_wp2
              refine pz_region (g := g) (h := h) (l := l2) (e := e2) (b := b2) ⟨rfl, rfl, rfl, by rw [← HL3.out]; rfl⟩ ⟨HR5.out.fr0 (Fr.drew (Fr.refl _ _)), HQ5.out.fr0 (Fr.drew (Fr.refl _ _))⟩ ?_
              intro vals w6 hG6 hJ6 hv
              have hsl : vals 124 = .bool false := hv 124 (List.contains_iff_mem.1 (by kernel_rfl))
              rw [show dsts pzOps = [112, 113, 114, 115, 116, 117, 118, 119, 120, 121, 122, 123, 124] by kernel_rfl]
              simp only [frm, List.mapIdx_toArray, List.mapIdx_cons, List.mapIdx_nil, Nat.zero_add, Nat.reduceAdd, List.contains_cons, List.contains_nil, Nat.reduceBEq, Bool.or_false, Bool.false_or, Bool.or_true, Bool.true_or, Bool.or_self, Bool.false_eq_true, if_true, if_false, hsl]
              clear hsl hv
              have HR6 := Lib.hid hJ6.1
              have HQ6 := Lib.hid hJ6.2
              have HF6 := Lib.hid (fr0_of_two HF5.out hG6.fr HG.out HH.out)
              clear hJ6 hG6 q0 q1
              go_wp2
              go_roundw
              case rel => exact ⟨k + 1, l2, e2, b2, e2, by omega, by go_num, ⟨HR6.out, HQ6.out, ⟨rfl, HL2.out⟩, HL5.out, HB5.out⟩, HF6.out⟩
              case measure => simp only [intOf]; omega
            · have hl3 : (0 : Int) = (l2.length : Int) := by have := HL2.out; rw [if_neg hE] at this; rw [this]; rfl
              have HL3 := Lib.hid hl3
              clear hl3
              go_wp2
              refine pz_region (g := g) (h := h) (l := l2) (e := e2) (b := b2) ⟨rfl, rfl, rfl, by rw [← HL3.out]; rfl⟩ ⟨HR5.out.fr0 (Fr.drew (Fr.refl _ _)), HQ5.out.fr0 (Fr.drew (Fr.refl _ _))⟩ ?_
              intro vals w6 hG6 hJ6 hv
              have hsl : vals 124 = .bool false := hv 124 (List.contains_iff_mem.1 (by kernel_rfl))
              rw [show dsts pzOps = [112, 113, 114, 115, 116, 117, 118, 119, 120, 121, 122, 123, 124] by kernel_rfl]
              simp only [frm, List.mapIdx_toArray, List.mapIdx_cons, List.mapIdx_nil, Nat.zero_add, Nat.reduceAdd, List.contains_cons, List.contains_nil, Nat.reduceBEq, Bool.or_false, Bool.false_or, Bool.or_true, Bool.true_or, Bool.or_self, Bool.false_eq_true, if_true, if_false, hsl]
              clear hsl hv
              have HR6 := Lib.hid hJ6.1
              have HQ6 := Lib.hid hJ6.2
              have HF6 := Lib.hid (fr0_of_two HF5.out hG6.fr HG.out HH.out)
              clear hJ6 hG6 q0 q1
              go_wp2
              go_roundw
              case rel => exact ⟨k + 1, l2, e2, b2, e2, by omega, by go_num, ⟨HR6.out, HQ6.out, ⟨rfl, HL2.out⟩, HL5.out, HB5.out⟩, HF6.out⟩
              case measure => simp only [intOf]; omega
          by_cases h4 : op = 4
          · subst h4
            obtain ⟨al1, al2⟩ := alike_bytes N HAL.out
            have HA1 := Lib.hid al1
            have HAL5 := Lib.hid al2
            clear al1 al2
            go_wp2
            refine pb_region (g := g) (h := h) (l := l) (e := e) (b := b') (E := E) (l2 := bytesRest N l) (e2 := bytesErr N l e) (b2 := refBytesRest N b' E) (E2 := refBytesErr N b' E) (O := bytesOut N l) (pb := pb) (po := po) (n1 := L.length) (c1 := c1) (i := k) (N := N)
              ⟨rfl, rfl, rfl, rfl, rfl, hi1, hi2, by omega, HNE.out, HCN.out, fun W hW => rbytes_any g N l e W HBN.out (by have := HLL.out; omega) hW, fun W hW => by rw [HA1.out]; exact refbytes_any h N b' E W HBN.out (by have := HLB.out; omega) hW⟩ ⟨HR.out.fr0 (Fr.drew (Fr.refl _ _)), HQ.out.fr0 (Fr.drew (Fr.refl _ _))⟩ ?_
            intro vals w5 hG5 hJ5 hv
            have hsl : vals 101 = .bool false := hv 101 (List.contains_iff_mem.1 (by kernel_rfl))
            rw [show dsts pbOps = [85, 86, 87, 88, 89, 90, 91, 92, 93, 94, 95, 96, 97, 98, 99, 100, 101] by kernel_rfl]
            simp only [frm, List.mapIdx_toArray, List.mapIdx_cons, List.mapIdx_nil, Nat.zero_add, Nat.reduceAdd, List.contains_cons, List.contains_nil, Nat.reduceBEq, Bool.or_false, Bool.false_or, Bool.or_true, Bool.true_or, Bool.or_self, Bool.false_eq_true, if_true, if_false, hsl]
            clear hsl hv
            have HR5 := Lib.hid hJ5.1
            have HQ5 := Lib.hid hJ5.2
            have HF5 := Lib.hid (fr0_of_two HF.out hG5.fr HG.out HH.out)
            have HL5 := Lib.hid (Nat.le_trans (bytesRest_le N l) HLL.out)
            have HB5 := Lib.hid (Nat.le_trans (refBytesRest_le N b' E) HLB.out)
            clear hJ5 hG5 HR HQ HF c00 HA1
            generalize bytesRest N l = l2 at *
            generalize bytesErr N l e = e2 at *
            generalize refBytesRest N b' E = b2 at *
            generalize refBytesErr N b' E = E2 at *
            obtain ⟨rfl, hl2⟩ := HAL5.out
            have HL2 := Lib.hid hl2
            clear hl2
            obtain ⟨aq, cq, q0⟩ := HQ5.out.cells
            have q1 := HQ5.out.err
            by_cases hE : e2 = 0
            · have hl3 : (b2.length : Int) = (l2.length : Int) := by have := HL2.out; rw [if_pos hE] at this; rw [this]
              have HL3 := Lib.hid hl3
              clear hl3
              go_wp2
              refine pz_region (g := g) (h := h) (l := l2) (e := e2) (b := b2) ⟨rfl, rfl, rfl, by rw [← HL3.out]; rfl⟩ ⟨HR5.out.fr0 (Fr.drew (Fr.refl _ _)), HQ5.out.fr0 (Fr.drew (Fr.refl _ _))⟩ ?_
              intro vals w6 hG6 hJ6 hv
              have hsl : vals 124 = .bool false := hv 124 (List.contains_iff_mem.1 (by kernel_rfl))
              rw [show dsts pzOps = [112, 113, 114, 115, 116, 117, 118, 119, 120, 121, 122, 123, 124] by kernel_rfl]
              simp only [frm, List.mapIdx_toArray, List.mapIdx_cons, List.mapIdx_nil, Nat.zero_add, Nat.reduceAdd, List.contains_cons, List.contains_nil, Nat.reduceBEq, Bool.or_false, Bool.false_or, Bool.or_true, Bool.true_or, Bool.or_self, Bool.false_eq_true, if_true, if_false, hsl]
              clear hsl hv
              have HR6 := Lib.hid hJ6.1
              have HQ6 := Lib.hid hJ6.2
              have HF6 := Lib.hid (fr0_of_two HF5.out hG6.fr HG.out HH.out)
              clear hJ6 hG6 q0 q1
              go_wp2
              go_roundw
              case rel => exact ⟨k + 1, l2, e2, b2, e2, by omega, by go_num, ⟨HR6.out, HQ6.out, ⟨rfl, HL2.out⟩, HL5.out, HB5.out⟩, HF6.out⟩
              case measure => simp only [intOf]; omega
            · have hl3 : (0 : Int) = (l2.length : Int) := by have := HL2.out; rw [if_neg hE] at this; rw [this]; rfl
              have HL3 := Lib.hid hl3
              clear hl3
              go_wp2
              refine pz_region (g := g) (h := h) (l := l2) (e := e2) (b := b2) ⟨rfl, rfl, rfl, by rw [← HL3.out]; rfl⟩ ⟨HR5.out.fr0 (Fr.drew (Fr.refl _ _)), HQ5.out.fr0 (Fr.drew (Fr.refl _ _))⟩ ?_
              intro vals w6 hG6 hJ6 hv
              have hsl : vals 124 = .bool false := hv 124 (List.contains_iff_mem.1 (by kernel_rfl))
              rw [show dsts pzOps = [112, 113, 114, 115, 116, 117, 118, 119, 120, 121, 122, 123, 124] by kernel_rfl]
              simp only [frm, List.mapIdx_toArray, List.mapIdx_cons, List.mapIdx_nil, Nat.zero_add, Nat.reduceAdd, List.contains_cons, List.contains_nil, Nat.reduceBEq, Bool.or_false, Bool.false_or, Bool.or_true, Bool.true_or, Bool.or_self, Bool.false_eq_true, if_true, if_false, hsl]
              clear hsl hv
              have HR6 := Lib.hid hJ6.1
              have HQ6 := Lib.hid hJ6.2
              have HF6 := Lib.hid (fr0_of_two HF5.out hG6.fr HG.out HH.out)
              clear hJ6 hG6 q0 q1
              go_wp2
              go_roundw
              case rel => exact ⟨k + 1, l2, e2, b2, e2, by omega, by go_num, ⟨HR6.out, HQ6.out, ⟨rfl, HL2.out⟩, HL5.out, HB5.out⟩, HF6.out⟩
              case measure => simp only [intOf]; omega
          obtain ⟨al1, al2⟩ := alike_take N HAL.out
          have HA1 := Lib.hid al1
          have HAL5 := Lib.hid al2
          clear al1 al2
          go_wp2
          refine pt_region (g := g) (h := h) (l := l) (e := e) (b := b') (E := E) (l2 := takeRest N l) (e2 := takeErr N l e) (b2 := refRest N b' E) (E2 := refErr N b' E) (O := takeOut N l) (pb := pb) (po := po) (n1 := L.length) (c1 := c1) (i := k) (N := N)
            ⟨rfl, rfl, rfl, rfl, rfl, hi1, hi2, by omega, HNE.out, HCN.out, fun W hW => take_any g N l e W HBN.out (by have := HLL.out; omega) hW, fun W hW => by rw [HA1.out]; exact rtake_any h N b' E W HBN.out (by have := HLB.out; omega) hW⟩ ⟨HR.out.fr0 (Fr.drew (Fr.refl _ _)), HQ.out.fr0 (Fr.drew (Fr.refl _ _))⟩ ?_
          intro vals w5 hG5 hJ5 hv
          have hsl : vals 51 = .bool false := hv 51 (List.contains_iff_mem.1 (by kernel_rfl))
          rw [show dsts ptOps = [35, 36, 37, 38, 39, 40, 41, 42, 43, 44, 45, 46, 47, 48, 49, 50, 51] by kernel_rfl]
          simp only [frm, List.mapIdx_toArray, List.mapIdx_cons, List.mapIdx_nil, Nat.zero_add, Nat.reduceAdd, List.contains_cons, List.contains_nil, Nat.reduceBEq, Bool.or_false, Bool.false_or, Bool.or_true, Bool.true_or, Bool.or_self, Bool.false_eq_true, if_true, if_false, hsl]
          clear hsl hv
          have HR5 := Lib.hid hJ5.1
          have HQ5 := Lib.hid hJ5.2
          have HF5 := Lib.hid (fr0_of_two HF.out hG5.fr HG.out HH.out)
          have HL5 := Lib.hid (Nat.le_trans (takeRest_le N l) HLL.out)
          have HB5 := Lib.hid (Nat.le_trans (refRest_le N b' E) HLB.out)
          clear hJ5 hG5 HR HQ HF c00 HA1
          generalize takeRest N l = l2 at *
          generalize takeErr N l e = e2 at *
          generalize refRest N b' E = b2 at *
          generalize refErr N b' E = E2 at *
          obtain ⟨rfl, hl2⟩ := HAL5.out
          have HL2 := Lib.hid hl2
          clear hl2
          obtain ⟨aq, cq, q0⟩ := HQ5.out.cells
          have q1 := HQ5.out.err
          by_cases hE : e2 = 0
          · have hl3 : (b2.length : Int) = (l2.length : Int) := by have := HL2.out; rw [if_pos hE] at this; rw [this]
            have HL3 := Lib.hid hl3
            clear hl3
            go_wp2
            refine pz_region (g := g) (h := h) (l := l2) (e := e2) (b := b2) ⟨rfl, rfl, rfl, by rw [← HL3.out]; rfl⟩ ⟨HR5.out.fr0 (Fr.drew (Fr.refl _ _)), HQ5.out.fr0 (Fr.drew (Fr.refl _ _))⟩ ?_
            intro vals w6 hG6 hJ6 hv
            have hsl : vals 124 = .bool false := hv 124 (List.contains_iff_mem.1 (by kernel_rfl))
            rw [show dsts pzOps = [112, 113, 114, 115, 116, 117, 118, 119, 120, 121, 122, 123, 124] by kernel_rfl]
            simp only [frm, List.mapIdx_toArray, List.mapIdx_cons, List.mapIdx_nil, Nat.zero_add, Nat.reduceAdd, List.contains_cons, List.contains_nil, Nat.reduceBEq, Bool.or_false, Bool.false_or, Bool.or_true, Bool.true_or, Bool.or_self, Bool.false_eq_true, if_true, if_false, hsl]
            clear hsl hv
            have HR6 := Lib.hid hJ6.1
            have HQ6 := Lib.hid hJ6.2
            have HF6 := Lib.hid (fr0_of_two HF5.out hG6.fr HG.out HH.out)
            clear hJ6 hG6 q0 q1
            go_wp2
            go_roundw
            case rel => exact ⟨k + 1, l2, e2, b2, e2, by omega, by go_num, ⟨HR6.out, HQ6.out, ⟨rfl, HL2.out⟩, HL5.out, HB5.out⟩, HF6.out⟩
            case measure => simp only [intOf]; omega
          · have hl3 : (0 : Int) = (l2.length : Int) := by have := HL2.out; rw [if_neg hE] at this; rw [this]; rfl
            have HL3 := Lib.hid hl3
            clear hl3
            go_wp2
            refine pz_region (g := g) (h := h) (l := l2) (e := e2) (b := b2) ⟨rfl, rfl, rfl, by rw [← HL3.out]; rfl⟩ ⟨HR5.out.fr0 (Fr.drew (Fr.refl _ _)), HQ5.out.fr0 (Fr.drew (Fr.refl _ _))⟩ ?_
            intro vals w6 hG6 hJ6 hv
            have hsl : vals 124 = .bool false := hv 124 (List.contains_iff_mem.1 (by kernel_rfl))
            rw [show dsts pzOps = [112, 113, 114, 115, 116, 117, 118, 119, 120, 121, 122, 123, 124] by kernel_rfl]
            simp only [frm, List.mapIdx_toArray, List.mapIdx_cons, List.mapIdx_nil, Nat.zero_add, Nat.reduceAdd, List.contains_cons, List.contains_nil, Nat.reduceBEq, Bool.or_false, Bool.false_or, Bool.or_true, Bool.true_or, Bool.or_self, Bool.false_eq_true, if_true, if_false, hsl]
            clear hsl hv
            have HR6 := Lib.hid hJ6.1
            have HQ6 := Lib.hid hJ6.2
            have HF6 := Lib.hid (fr0_of_two HF5.out hG6.fr HG.out HH.out)
            clear hJ6 hG6 q0 q1
            go_wp2
            go_roundw
            case rel => exact ⟨k + 1, l2, e2, b2, e2, by omega, by go_num, ⟨HR6.out, HQ6.out, ⟨rfl, HL2.out⟩, HL5.out, HB5.out⟩, HF6.out⟩
            case measure => simp only [intOf]; omega
        · have hkl : k = L.length := by omega
          clear hkl
          go_wp2
          go_ret
          exact ⟨rfl, HF.out⟩
end Go.Proofs.Ytheednoklgccdaa.Pack
