/-
  The program's reader over old bytes: what Bytes told is new memory; U32.
-/
import Derived.Test.YtjefddliebokaaaPackReadO
import Derived.Test.YtjefddliebokaaaPackYoung
namespace Go.Proofs.Ytjefddliebokaaa.Pack
open Go.RowKit Base

set_option maxHeartbeats 1000000 in
theorem clone_new (v : Value) (l : List UInt8) (hl : l.length ≤ 140737488355328) (w : World) (hB : BytesIs w v l) :
    Calls Try.prog 33 #[v] w fun e w' => ∃ v', e = .returned v' ∧ BytesIs w' v' l ∧ Fr0 w w' ∧ Young w v' := by
  have HB := Lib.hid hB
  obtain ⟨a, c, pb, po, rfl, _, h0, _⟩ := hB
  have q22 : ∀ (w : World) (a : Option Addr) (n c n' c' : Nat), (binOp .eql 25 (.slice a n c) (.slice none n' c')).run Try.prog w = .ok (.bool a.isNone) w := fun w a n c n' c' => Lib.run_eql_slice_nil w _ _ a n c n' c' Try.underlying25
  cases a with
  | none =>
    obtain rfl : l = [] := by
      by_cases h : 0 < l.length
      · exact absurd (h0 h) (by simp)
      · exact List.eq_nil_of_length_eq_zero (by omega)
    go_enter Try.func33, Try.ntmps33
    go_wp2
    go_ret
    exact ⟨_, rfl, BytesIs.nil w, Fr.refl _ _, fun a n c h => by cases h⟩
  | some a =>
    clear h0
    go_enter Try.func33, Try.ntmps33
    go_wp2_with (refine wpList_append_bytes rfl (.tmp 5) (.tmp 6) 25 rfl w.heap.size 5 Try.underlying25 info8 _ _ 0 [] l rfl rfl (owns_empty w w.heap.size _ (Nat.le_refl _) _ rfl) (HB.out.fr0 ((Fr.refl _ _).alloc _)) (by omega) ((Fr.refl (fun _ => False) _).alloc _).size ?_; intro v1 w1 hO1 hG1)
    go_ret
    refine ⟨_, rfl, BytesIs.own hO1, ((Fr.refl _ _).alloc _).grown hG1 (fun k hk e => by cases e; exact absurd hk (Nat.lt_irrefl _)), fun a n c h => ?_⟩
    have h' : v1 = .slice (some a) n c := h
    exact (hO1.lt a.block (by rw [h']; rfl)).1
theorem ru32_old (B g : Nat) (l : List UInt8) (er : Int) (w : World) (hl : l.length ≤ 9223372036854775807) (hR : RdP B w g l er) :
    Calls Try.prog 35 #[.pointer (some ⟨g, 0, none⟩)] w fun e w' => e = .returned (.int .u32 (num (cutOut 4 l) : Int)) ∧ RdP B w' g (cutRest 4 l) (cutErr 4 l er) ∧ Fr1 g w w' := by
  have HR := Lib.hid hR
  have hx := cutOut_num 4 l
  clear hR
  go_enter Try.func35, Try.ntmps35
  go_wp2_with fail
  refine (rnum_old B g 4 l er w (by decide) hl HR.out).mono ?_
  rintro e w1 ⟨rfl, hR1, hF1⟩
  have HR1 := Lib.hid hR1
  have HF1 := Lib.hid hF1
  clear hR1 hF1
  have hx2 : num (cutOut 4 l) < 4294967296 := hx
  clear hx
  generalize hX : num (cutOut 4 l) = x at *
  have HX := Lib.hid hX
  clear hX
  go_wp2
  go_ret
  exact ⟨by rw [HX.out]; rfl, HR1.out, HF1.out⟩
set_option maxHeartbeats 1000000 in
theorem rbytes_young (B g : Nat) (m : Int) (l : List UInt8) (er : Int) (w : World) (hn : -9223372036854775808 ≤ m ∧ m ≤ 9223372036854775807) (hl : l.length ≤ 140737488355328) (hR : RdP B w g l er) :
    Calls Try.prog 36 #[.pointer (some ⟨g, 0, none⟩), .int .i64 m] w fun e w' => ∃ v, e = .returned v ∧ BytesIs w' v (bytesOut m l) ∧ RdP B w' g (bytesRest m l) (bytesErr m l er) ∧ Fr1 g w w' ∧ Young w v := by
  have HR := Lib.hid hR
  clear hR
  have hx : num (cutOut 2 l) < 65536 := cutOut_num 2 l
  have hrl : (cutRest 2 l).length ≤ 140737488355328 := by unfold cutRest; split <;> simp <;> omega
  have HRL := Lib.hid hrl
  clear hrl
  by_cases h : m < (num (cutOut 2 l) : Int)
  · have e1 : bytesOut m l = [] := by unfold bytesOut; rw [if_pos h]
    have e2 : bytesRest m l = [] := by unfold bytesRest; rw [if_pos h]
    have e3 : bytesErr m l er = failE 2 (cutErr 2 l er) := by unfold bytesErr; rw [if_pos h]
    rw [e1, e2, e3]
    clear e1 e2 e3
    go_enter Try.func36, Try.ntmps36
    go_wp2_with fail
    refine (ru16_old B g l er w (by omega) HR.out).mono ?_
    rintro e w1 ⟨rfl, hR1, hF1⟩
    have HR1 := Lib.hid hR1
    have HF1 := Lib.hid hF1
    clear hR1 hF1
    generalize num (cutOut 2 l) = x at *
    go_wp2_with fail
    refine (fail_old B g 2 _ _ w1 HR1.out).mono ?_
    rintro e w2 ⟨rfl, hR2, hF2⟩
    have HR2 := Lib.hid hR2
    have HF2 := Lib.hid hF2
    clear hR2 hF2
    go_wp2
    go_ret
    exact ⟨_, rfl, BytesIs.nil _, HR2.out, HF1.out.trans' HF2.out, young_nil _⟩
  · have e1 : bytesOut m l = cutOut (num (cutOut 2 l)) (cutRest 2 l) := by unfold bytesOut; rw [if_neg h]
    have e2 : bytesRest m l = cutRest (num (cutOut 2 l)) (cutRest 2 l) := by unfold bytesRest; rw [if_neg h]
    have e3 : bytesErr m l er = cutErr (num (cutOut 2 l)) (cutRest 2 l) (cutErr 2 l er) := by unfold bytesErr; rw [if_neg h]
    rw [e1, e2, e3]
    clear e1 e2 e3
    go_enter Try.func36, Try.ntmps36
    go_wp2_with fail
    refine (ru16_old B g l er w (by omega) HR.out).mono ?_
    rintro e w1 ⟨rfl, hR1, hF1⟩
    have HR1 := Lib.hid hR1
    have HF1 := Lib.hid hF1
    clear hR1 hF1
    generalize hX : num (cutOut 2 l) = x at *
    generalize hL1 : cutRest 2 l = l1 at *
    generalize hE1 : cutErr 2 l er = er1 at *
    have HX := Lib.hid hX
    have HL1 := Lib.hid hL1
    have HE1 := Lib.hid hE1
    clear hX hL1 hE1
    go_wp2_with fail
    refine (cut_old B g x l1 er1 w1 (by omega) (by have := HRL.out; omega) HR1.out).mono ?_
    rintro e w2 ⟨v2, rfl, hB2, hR2, hF2⟩
    have HB2 := Lib.hid hB2
    have HR2 := Lib.hid hR2
    have HF2 := Lib.hid hF2
    clear hB2 hR2 hF2
    have hcl : (cutOut x l1).length ≤ 140737488355328 := by have := HRL.out; unfold cutOut; split <;> simp <;> omega
    have HCL := Lib.hid hcl
    clear hcl
    go_wp2_with fail
    refine (clone_new v2 _ HCL.out w2 HB2.out).mono ?_
    rintro e w3 ⟨v3, rfl, hB3, hF3, hY3⟩
    have HY3 := Lib.hid hY3
    have HS2 := Lib.hid (Nat.le_trans HF1.out.size HF2.out.size)
    have HB3 := Lib.hid hB3
    have HF3 := Lib.hid hF3
    clear hB3 hF3 hY3
    go_wp2
    go_ret
    rw [HX.out, HL1.out, HE1.out]
    exact ⟨_, rfl, HB3.out, HR2.out.fr0 HF3.out, (HF1.out.trans' HF2.out).trans' HF3.out.zero, fun a n c h => Nat.le_trans HS2.out (HY3.out a n c h)⟩
end Go.Proofs.Ytjefddliebokaaa.Pack
