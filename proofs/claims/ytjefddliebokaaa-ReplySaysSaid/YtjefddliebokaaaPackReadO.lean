/-
  The program's reader over bytes that lie in old blocks: they stay there.
-/
import Derived.Test.YtjefddliebokaaaPackRead
import Derived.Test.YtjefddliebokaaaCutLo
namespace Go.Proofs.Ytjefddliebokaaa.Pack
open Go.RowKit Base

/-- a reader whose bytes lie below B -/
def RdP (B : Nat) (w : World) (g : Nat) (l : List UInt8) (e : Int) : Prop := ∃ sv, w.rowIs g 76 2 (fun i => if i = 0 then sv else .int .i64 e) ∧ BytesIs w sv l ∧ ∀ a n c, sv = .slice (some a) n c → 0 < l.length → a.block < B
theorem RdP.rd {B : Nat} {w : World} {g : Nat} {l : List UInt8} {e : Int} (h : RdP B w g l e) : RdAt w g 76 l e := by
  obtain ⟨sv, h1, h2, _⟩ := h
  exact ⟨sv, h1, h2⟩
theorem RdP.of {w : World} {g : Nat} {l : List UInt8} {e : Int} (h : RdAt w g 76 l e) : RdP w.heap.size w g l e := by
  obtain ⟨sv, h1, h2⟩ := h
  refine ⟨sv, h1, h2, fun a n c hv hl => ?_⟩
  obtain ⟨a', cap, pb, po, hv', hle, ha, hcell⟩ := h2
  have k1 := hcell 0 hl
  have k2 := ha hl
  subst k2
  rw [hv'] at hv
  simp only [Value.slice.injEq, Option.some.injEq] at hv
  obtain ⟨rfl, _, _⟩ := hv
  exact World.block_lt_of_cell? w _ k1
theorem RdP.fr {B : Nat} {S : Nat → Prop} {w w' : World} {g : Nat} {l : List UInt8} {e : Int} (h : RdP B w g l e) (hf : Fr S w w') (hg : ¬ S g) (hS : ∀ k, k < B → ¬ S k) : RdP B w' g l e := by
  obtain ⟨sv, h1, h2, h3⟩ := h
  refine ⟨sv, hf.row h1 hg, ?_, h3⟩
  obtain ⟨a, cap, pb, po, hv, hle, ha, hcell⟩ := h2
  refine ⟨a, cap, pb, po, hv, hle, ha, fun j hj => ?_⟩
  have k1 := hcell j hj
  have k2 := ha (by omega)
  subst k2
  rw [hf.cell (p := ⟨pb, po + j, none⟩) (World.block_lt_of_cell? w _ k1) (hS pb (h3 ⟨pb, po, none⟩ _ _ hv (by omega)))]
  exact k1
theorem RdP.fr0 {B : Nat} {w w' : World} {g : Nat} {l : List UInt8} {e : Int} (h : RdP B w g l e) (hf : Fr0 w w') : RdP B w' g l e := h.fr hf (fun f => f) (fun _ _ f => f)
theorem RdP.up {B B' : Nat} {w : World} {g : Nat} {l : List UInt8} {e : Int} (h : RdP B w g l e) (hb : B ≤ B') : RdP B' w g l e := by
  obtain ⟨sv, h1, h2, h3⟩ := h
  exact ⟨sv, h1, h2, fun a n c hv hl => Nat.lt_of_lt_of_le (h3 a n c hv hl) hb⟩
set_option maxHeartbeats 1000000 in
theorem fail_old (B g : Nat) (c : Int) (l : List UInt8) (er : Int) (w : World) (hR : RdP B w g l er) :
    Calls Try.prog 42 #[.pointer (some ⟨g, 0, none⟩), .int .i64 c] w fun e w' => e = .returned (.tuple #[]) ∧ RdP B w' g [] (failE c er) ∧ Fr1 g w w' := by
  obtain ⟨sv, hr, hb, _⟩ := hR
  have HR := Lib.hid hr
  have c0 : w.cell? ⟨g, 0, none⟩ = some sv := hr.cell (i := 0) (by decide)
  have c1 : w.cell? ⟨g, 1, none⟩ = some (.int .i64 er) := hr.cell (i := 1) (by decide)
  have f0 := hr.frozen 0
  have f1 := hr.frozen 1
  clear hr hb
  by_cases h : er = 0
  · subst h
    go_enter Try.func42, Try.ntmps42
    go_wp2
    go_end0
    refine ⟨rfl, ⟨.slice none 0 0, ((HR.out.set 1 _).set 0 _).congr (fun i hi => ?_), BytesIs.nil _, fun a n c h => by cases h⟩, fr1_set (fr1_set (Fr.refl _ _) 1 _) 0 _⟩
    match i, hi with
    | 0, _ => rfl
    | 1, _ => rfl
  · go_enter Try.func42, Try.ntmps42
    go_wp2
    go_end0
    refine ⟨rfl, ⟨.slice none 0 0, (HR.out.set 0 _).congr (fun i hi => ?_), BytesIs.nil _, fun a n c h => by cases h⟩, fr1_set (Fr.refl _ _) 0 _⟩
    match i, hi with
    | 0, _ => rfl
    | 1, _ => simp [failE, h]
set_option maxHeartbeats 1000000 in
theorem cut_old (B g n : Nat) (l : List UInt8) (er : Int) (w : World) (hn : n ≤ 9223372036854775807) (hl : l.length ≤ 9223372036854775807) (hR : RdP B w g l er) :
    Calls Try.prog 43 #[.pointer (some ⟨g, 0, none⟩), .int .i64 (n : Int)] w fun e w' => ∃ v, e = .returned v ∧ BytesIs w' v (cutOut n l) ∧ RdP B w' g (cutRest n l) (cutErr n l er) ∧ Fr1 g w w' := by
  have HRD := Lib.hid hR
  have HNU := Lib.hid hR.rd.noU8
  obtain ⟨sv, hr, hb, hol⟩ := hR
  have HOL := Lib.hid hol
  clear hol
  have HR := Lib.hid hr
  have HB := Lib.hid hb
  obtain ⟨a, n0, c, rfl⟩ := hb.slice
  obtain rfl : n0 = l.length := by obtain ⟨_, _, _, _, h, _⟩ := hb; simp only [Value.slice.injEq] at h; exact h.2.1
  have c0 : w.cell? ⟨g, 0, none⟩ = some (.slice a l.length c) := hr.cell (i := 0) (by decide)
  have f0 := hr.frozen 0
  clear hr hb
  by_cases h : l.length < n
  · go_enter Try.func43, Try.ntmps43
    go_wp2_with fail
    refine (fail_old B g 3 l er w HRD.out).mono ?_
    rintro e w1 ⟨rfl, hR1, hF1⟩
    have HR1 := Lib.hid hR1
    have HF1 := Lib.hid hF1
    clear hR1 hF1
    go_wp2
    go_ret
    refine ⟨_, rfl, ?_, ?_, HF1.out⟩
    · unfold cutOut; rw [if_pos h]; exact BytesIs.nil _
    · unfold cutRest cutErr; rw [if_pos h, if_pos h]; exact HR1.out
  · obtain ⟨a2, c2, hb2, hs2, hq2⟩ := cutLoAt (P := Try.prog) 25 5 Try.underlying25 (by kernel_rfl) HB.out n (by omega) (n : Int) rfl
    have HQ2 := Lib.hid hq2
    clear hq2
    have HB1 := Lib.hid (BytesIs.takeHi (n := n) (by omega) HB.out)
    have hcap : l.length ≤ c := by obtain ⟨_, _, _, _, he, h1, _⟩ := HB.out; simp only [Value.slice.injEq] at he; rw [he.2.2]; exact h1
    have hs1 := fun wx : World => cut_hi_at (P := Try.prog) 25 5 Try.underlying25 (by kernel_rfl) a l.length c n (by omega) wx
    have HB2 := Lib.hid hb2
    clear hb2
    go_enter Try.func43, Try.ntmps43
    go_wp2
    go_ret
    have hF : Fr1 g w (w.setCell ⟨g, 0, none⟩ (.slice a2 (l.length - n) c2)) := fr1_set (Fr.refl _ _) 0 _
    refine ⟨_, rfl, ?_, ?_, hF⟩
    · unfold cutOut; rw [if_neg h]; exact bytes_fr1 HB1.out hF HNU.out
    · unfold cutRest cutErr
      rw [if_neg h, if_neg h]
      refine ⟨_, (HR.out.set 0 _).congr (fun i hi => ?_), bytes_fr1 HB2.out hF HNU.out, fun a' n' c' hv hl' => ?_⟩
      rotate_left
      · have hv' : Value.slice a2 (l.length - n) c2 = .slice (some a') n' c' := hv
        simp only [Value.slice.injEq] at hv'
        obtain ⟨p, rfl, hp⟩ := HQ2.out a' hv'.1
        rw [hp]
        exact HOL.out p _ _ rfl (by rw [List.length_drop] at hl'; omega)
      match i, hi with
      | 0, _ => rfl
      | 1, _ => rfl
set_option maxHeartbeats 1000000 in
theorem rnum_old (B g k : Nat) (l : List UInt8) (er : Int) (w : World) (hk : k ≤ 8) (hl : l.length ≤ 9223372036854775807) (hR : RdP B w g l er) :
    Calls Try.prog 40 #[.pointer (some ⟨g, 0, none⟩), .int .i64 (k : Int)] w fun e w' => e = .returned (.int .u64 (num (cutOut k l) : Int)) ∧ RdP B w' g (cutRest k l) (cutErr k l er) ∧ Fr1 g w w' := by
  have HR := Lib.hid hR
  clear hR
  go_enter Try.func40, Try.ntmps40
  go_wp2_with fail
  refine (cut_old B g k l er w (by omega) hl HR.out).mono ?_
  rintro e w1 ⟨v1, rfl, hB1, hR1, hF1⟩
  have HR1 := Lib.hid hR1
  have HF1 := Lib.hid hF1
  have hcl := cutOut_length k l
  generalize hC : cutOut k l = C at *
  obtain ⟨a1, c1, pb, po, rfl, _, ha1, hc1⟩ := hB1
  have HA := Lib.hid ha1
  have HC := Lib.hid hc1
  have HCE := Lib.hid hC
  clear hR1 hF1 ha1 hc1 hC
  go_wp2
  go_loop [5, 12] (fun x i => ∃ j : Nat, j ≤ C.length ∧ i = .int .i64 j ∧ x = .int .u64 ((num (C.take j) : Nat) : Int)) (fun _ i => C.length - (intOf i).toNat)
  case atStart => exact ⟨0, Nat.zero_le _, rfl, rfl⟩
  case round =>
    obtain ⟨j, hj, rfl, rfl⟩ := hrel
    by_cases hlt : j < C.length
    · obtain rfl := HA.out (by omega)
      have c0 := HC.out j hlt
      have hy := (C.getD j 0).toNat_lt
      have hx : num (C.take j) < 72057594037927936 := Nat.lt_of_lt_of_le (num_lt (C.take j)) (by
        have : (C.take j).length ≤ 7 := by simp; omega
        exact Nat.le_trans (Nat.pow_le_pow_right (by decide) this) (by decide))
      have HN : Hid (num (C.take j) * 256 + (C.getD j 0).toNat = num (C.take (j + 1))) := Lib.hid (num_next C j hlt).symm
      have e0 := or_low (num (C.take j)) (C.getD j 0).toNat hy hx
      generalize (C.getD j 0).toNat = y at *
      generalize num (C.take j) = x at *
      go_wp2
      go_round
      case rel => exact ⟨j + 1, by omega, by go_num, by rw [← HN.out]; simp⟩
      case measure => simp only [intOf]; omega
    · have hkl : j = C.length := by omega
      have HE : Hid (num (C.take j) = num C) := Lib.hid (by rw [hkl, List.take_length])
      clear hkl
      generalize num (C.take j) = x at *
      go_wp2
      go_ret
      exact ⟨by rw [HCE.out, ← HE.out]; rfl, HR1.out, HF1.out⟩
theorem ru8_old (B g : Nat) (l : List UInt8) (er : Int) (w : World) (hl : l.length ≤ 9223372036854775807) (hR : RdP B w g l er) :
    Calls Try.prog 34 #[.pointer (some ⟨g, 0, none⟩)] w fun e w' => e = .returned (.int .u8 (num (cutOut 1 l) : Int)) ∧ RdP B w' g (cutRest 1 l) (cutErr 1 l er) ∧ Fr1 g w w' := by
  have HR := Lib.hid hR
  have hx := cutOut_num 1 l
  clear hR
  go_enter Try.func34, Try.ntmps34
  go_wp2_with fail
  refine (rnum_old B g 1 l er w (by decide) hl HR.out).mono ?_
  rintro e w1 ⟨rfl, hR1, hF1⟩
  have HR1 := Lib.hid hR1
  have HF1 := Lib.hid hF1
  clear hR1 hF1
  have hx2 : num (cutOut 1 l) < 256 := hx
  clear hx
  generalize hX : num (cutOut 1 l) = x at *
  have HX := Lib.hid hX
  clear hX
  go_wp2
  go_ret
  exact ⟨by rw [HX.out]; rfl, HR1.out, HF1.out⟩
theorem ru16_old (B g : Nat) (l : List UInt8) (er : Int) (w : World) (hl : l.length ≤ 9223372036854775807) (hR : RdP B w g l er) :
    Calls Try.prog 41 #[.pointer (some ⟨g, 0, none⟩)] w fun e w' => e = .returned (.int .u16 (num (cutOut 2 l) : Int)) ∧ RdP B w' g (cutRest 2 l) (cutErr 2 l er) ∧ Fr1 g w w' := by
  have HR := Lib.hid hR
  have hx := cutOut_num 2 l
  clear hR
  go_enter Try.func41, Try.ntmps41
  go_wp2_with fail
  refine (rnum_old B g 2 l er w (by decide) hl HR.out).mono ?_
  rintro e w1 ⟨rfl, hR1, hF1⟩
  have HR1 := Lib.hid hR1
  have HF1 := Lib.hid hF1
  clear hR1 hF1
  have hx2 : num (cutOut 2 l) < 65536 := hx
  clear hx
  generalize hX : num (cutOut 2 l) = x at *
  have HX := Lib.hid hX
  clear hX
  go_wp2
  go_ret
  exact ⟨by rw [HX.out]; rfl, HR1.out, HF1.out⟩
set_option maxHeartbeats 1000000 in
theorem rbytes_old (B g : Nat) (m : Int) (l : List UInt8) (er : Int) (w : World) (hn : -9223372036854775808 ≤ m ∧ m ≤ 9223372036854775807) (hl : l.length ≤ 140737488355328) (hR : RdP B w g l er) :
    Calls Try.prog 36 #[.pointer (some ⟨g, 0, none⟩), .int .i64 m] w fun e w' => ∃ v, e = .returned v ∧ BytesIs w' v (bytesOut m l) ∧ RdP B w' g (bytesRest m l) (bytesErr m l er) ∧ Fr1 g w w' := by
  have HR := Lib.hid hR
  clear hR
  have hx : num (cutOut 2 l) < 65536 := cutOut_num 2 l
  have hrl : (cutRest 2 l).length ≤ 140737488355328 := by unfold cutRest; split <;> simp <;> omega
  have HRL := Lib.hid hrl
  clear hrl
  by_cases h : m < (num (cutOut 2 l) : Int)
  · have e1 : bytesOut m l = [] := by unfold bytesOut; rw [if_pos h]
    have e2 : bytesRest m l = [] := by unfold bytesRest; rw [if_pos h]
    have e3 : bytesErr m l er = failE 2 (cutErr 2 l er) := by unfold bytesErr; rw [if_pos h]
    rw [e1, e2, e3]
    clear e1 e2 e3
    go_enter Try.func36, Try.ntmps36
    go_wp2_with fail
    refine (ru16_old B g l er w (by omega) HR.out).mono ?_
    rintro e w1 ⟨rfl, hR1, hF1⟩
    have HR1 := Lib.hid hR1
    have HF1 := Lib.hid hF1
    clear hR1 hF1
    generalize num (cutOut 2 l) = x at *
    go_wp2_with fail
    refine (fail_old B g 2 _ _ w1 HR1.out).mono ?_
    rintro e w2 ⟨rfl, hR2, hF2⟩
    have HR2 := Lib.hid hR2
    have HF2 := Lib.hid hF2
    clear hR2 hF2
    go_wp2
    go_ret
    exact ⟨_, rfl, BytesIs.nil _, HR2.out, HF1.out.trans' HF2.out⟩
  · have e1 : bytesOut m l = cutOut (num (cutOut 2 l)) (cutRest 2 l) := by unfold bytesOut; rw [if_neg h]
    have e2 : bytesRest m l = cutRest (num (cutOut 2 l)) (cutRest 2 l) := by unfold bytesRest; rw [if_neg h]
    have e3 : bytesErr m l er = cutErr (num (cutOut 2 l)) (cutRest 2 l) (cutErr 2 l er) := by unfold bytesErr; rw [if_neg h]
    rw [e1, e2, e3]
    clear e1 e2 e3
    go_enter Try.func36, Try.ntmps36
    go_wp2_with fail
    refine (ru16_old B g l er w (by omega) HR.out).mono ?_
    rintro e w1 ⟨rfl, hR1, hF1⟩
    have HR1 := Lib.hid hR1
    have HF1 := Lib.hid hF1
    clear hR1 hF1
    generalize hX : num (cutOut 2 l) = x at *
    generalize hL1 : cutRest 2 l = l1 at *
    generalize hE1 : cutErr 2 l er = er1 at *
    have HX := Lib.hid hX
    have HL1 := Lib.hid hL1
    have HE1 := Lib.hid hE1
    clear hX hL1 hE1
    go_wp2_with fail
    refine (cut_old B g x l1 er1 w1 (by omega) (by have := HRL.out; omega) HR1.out).mono ?_
    rintro e w2 ⟨v2, rfl, hB2, hR2, hF2⟩
    have HB2 := Lib.hid hB2
    have HR2 := Lib.hid hR2
    have HF2 := Lib.hid hF2
    clear hB2 hR2 hF2
    have hcl : (cutOut x l1).length ≤ 140737488355328 := by have := HRL.out; unfold cutOut; split <;> simp <;> omega
    have HCL := Lib.hid hcl
    clear hcl
    go_wp2_with fail
    refine (clone_any v2 _ HCL.out w2 HB2.out).mono ?_
    rintro e w3 ⟨v3, rfl, hB3, hF3⟩
    have HB3 := Lib.hid hB3
    have HF3 := Lib.hid hF3
    clear hB3 hF3
    go_wp2
    go_ret
    rw [HX.out, HL1.out, HE1.out]
    exact ⟨_, rfl, HB3.out, HR2.out.fr0 HF3.out, (HF1.out.trans' HF2.out).trans' HF3.out.zero⟩
end Go.Proofs.Ytjefddliebokaaa.Pack
