/-
  The walks of frame's calls: Put, New, Waits, Dead, and what Feed calls: need, lay, cut.
-/
import Derived.Test.YtggdpmfghbnhcaaDoorFrameMem
import Derived.Test.YtggdpmfghbnhcaaDoorPackRead
import Derived.Test.YtggdpmfghbnhcaaDoorCrcWalk
import Derived.Test.YtggdpmfghbnhcaaDoorMix
import Derived.BigQuiet
namespace Go.Proofs.YtggdpmfghbnhcaaDoor.Frame
open Go.RowKit Base Pack Crc

def NewV (w : World) (v : Value) : Prop := ∀ a n c, v = .slice (some a) n c → w.heap.size ≤ a.block
set_option maxHeartbeats 1000000 in
theorem clone_new (v : Value) (l : List UInt8) (hl : l.length ≤ 140737488355328) (w : World) (hB : BytesIs w v l) :
    Calls Tryd.prog 34 #[v] w fun e w' => ∃ v', e = .returned v' ∧ BytesIs w' v' l ∧ Fr0 w w' ∧ NewV w v' := by
  have HB := Lib.hid hB
  obtain ⟨a, c, pb, po, rfl, _, h0, _⟩ := hB
  have q22 : ∀ (w : World) (a : Option Addr) (n c n' c' : Nat), (binOp .eql 23 (.slice a n c) (.slice none n' c')).run Tryd.prog w = .ok (.bool a.isNone) w := fun w a n c n' c' => Lib.run_eql_slice_nil w _ _ a n c n' c' Tryd.underlying23
  cases a with
  | none =>
    obtain rfl : l = [] := by
      by_cases h : 0 < l.length
      · exact absurd (h0 h) (by simp)
      · exact List.eq_nil_of_length_eq_zero (by omega)
    go_enter Tryd.func34, Tryd.ntmps34
    go_wp2
    go_ret
    exact ⟨_, rfl, BytesIs.nil w, Fr.refl _ _, fun a n c h => by cases h⟩
  | some a =>
    clear h0
    go_enter Tryd.func34, Tryd.ntmps34
    go_wp2_with (refine wpList_append_bytes rfl (.tmp 5) (.tmp 6) 23 rfl w.heap.size 5 Tryd.underlying23 info8 _ _ 0 [] l rfl rfl (owns_empty w w.heap.size _ (Nat.le_refl _) _ rfl) (HB.out.fr0 ((Fr.refl _ _).alloc _)) (by omega) ((Fr.refl (fun _ => False) _).alloc _).size ?_; intro v1 w1 hO1 hG1)
    go_ret
    refine ⟨_, rfl, BytesIs.own hO1, ((Fr.refl _ _).alloc _).grown hG1 (fun k hk e => by cases e; exact absurd hk (Nat.lt_irrefl _)), fun a n c h => ?_⟩
    have h' : v1 = .slice (some a) n c := h
    exact (hO1.lt a.block (by rw [h']; rfl)).1
set_option maxHeartbeats 1000000 in
theorem rbytes_new (g : Nat) (m : Int) (l : List UInt8) (er : Int) (w : World) (hn : -9223372036854775808 ≤ m ∧ m ≤ 9223372036854775807) (hl : l.length ≤ 140737488355328) (hR : RdAt w g 72 l er) :
    Calls Tryd.prog 30 #[.pointer (some ⟨g, 0, none⟩), .int .i64 m] w fun e w' => ∃ v, e = .returned v ∧ BytesIs w' v (bytesOut m l) ∧ RdAt w' g 72 (bytesRest m l) (bytesErr m l er) ∧ Fr1 g w w' ∧ NewV w v := by
  have HR := Lib.hid hR
  clear hR
  have hx : num (cutOut 2 l) < 65536 := cutOut_num 2 l
  have hrl : (cutRest 2 l).length ≤ 140737488355328 := by unfold cutRest; split <;> simp <;> omega
  have HRL := Lib.hid hrl
  clear hrl
  by_cases h : m < (num (cutOut 2 l) : Int)
  · have e1 : bytesOut m l = [] := by unfold bytesOut; rw [if_pos h]
    have e2 : bytesRest m l = [] := by unfold bytesRest; rw [if_pos h]
    have e3 : bytesErr m l er = failE 2 (cutErr 2 l er) := by unfold bytesErr; rw [if_pos h]
    rw [e1, e2, e3]
    clear e1 e2 e3
    go_enter Tryd.func30, Tryd.ntmps30
    go_wp2_with fail
    refine (ru16_any g l er w (by omega) HR.out).mono ?_
    rintro e w1 ⟨rfl, hR1, hF1⟩
    have HR1 := Lib.hid hR1
    have HF1 := Lib.hid hF1
    clear hR1 hF1
    generalize num (cutOut 2 l) = x at *
    go_wp2_with fail
    refine (fail_any g 2 _ _ w1 HR1.out).mono ?_
    rintro e w2 ⟨rfl, hR2, hF2⟩
    have HR2 := Lib.hid hR2
    have HF2 := Lib.hid hF2
    clear hR2 hF2
    go_wp2
    go_ret
    exact ⟨_, rfl, BytesIs.nil _, HR2.out, HF1.out.trans' HF2.out, fun a n c h => by cases h⟩
  · have e1 : bytesOut m l = cutOut (num (cutOut 2 l)) (cutRest 2 l) := by unfold bytesOut; rw [if_neg h]
    have e2 : bytesRest m l = cutRest (num (cutOut 2 l)) (cutRest 2 l) := by unfold bytesRest; rw [if_neg h]
    have e3 : bytesErr m l er = cutErr (num (cutOut 2 l)) (cutRest 2 l) (cutErr 2 l er) := by unfold bytesErr; rw [if_neg h]
    rw [e1, e2, e3]
    clear e1 e2 e3
    go_enter Tryd.func30, Tryd.ntmps30
    go_wp2_with fail
    refine (ru16_any g l er w (by omega) HR.out).mono ?_
    rintro e w1 ⟨rfl, hR1, hF1⟩
    have HR1 := Lib.hid hR1
    have HF1 := Lib.hid hF1
    clear hR1 hF1
    generalize hX : num (cutOut 2 l) = x at *
    generalize hL1 : cutRest 2 l = l1 at *
    generalize hE1 : cutErr 2 l er = er1 at *
    have HX := Lib.hid hX
    have HL1 := Lib.hid hL1
    have HE1 := Lib.hid hE1
    clear hX hL1 hE1
    go_wp2_with fail
    refine (cut_any g x l1 er1 w1 (by omega) (by have := HRL.out; omega) HR1.out).mono ?_
    rintro e w2 ⟨v2, rfl, hB2, hR2, hF2⟩
    have HB2 := Lib.hid hB2
    have HR2 := Lib.hid hR2
    have HF2 := Lib.hid hF2
    clear hB2 hR2 hF2
    have hcl : (cutOut x l1).length ≤ 140737488355328 := by have := HRL.out; unfold cutOut; split <;> simp <;> omega
    have HCL := Lib.hid hcl
    clear hcl
    go_wp2_with fail
    refine (clone_new v2 _ HCL.out w2 HB2.out).mono ?_
    rintro e w3 ⟨v3, rfl, hB3, hF3, hN3⟩
    have HB3 := Lib.hid hB3
    have HF3 := Lib.hid hF3
    have HN3 := Lib.hid hN3
    clear hB3 hF3 hN3
    go_wp2
    go_ret
    rw [HX.out, HL1.out, HE1.out]
    exact ⟨_, rfl, HB3.out, HR2.out.fr0 HF3.out, (HF1.out.trans' HF2.out).trans' HF3.out.zero, fun a n c h => Nat.le_trans (Nat.le_trans HF1.out.size HF2.out.size) (HN3.out a n c h)⟩

/-- a literal of one part -/
theorem parts_one (w : World) (v0 : Value) (l0 : List UInt8) (h0 : BytesIs w v0 l0) (t : TypeId) (N : Nat) (hN : N = w.heap.size) : PartsIs (w.alloc (.cells #[v0] t)) (.slice (some ⟨N, 0, none⟩) 1 1) [l0] := by
  subst hN
  refine ⟨_, 1, w.heap.size, 0, rfl, by simp, by simp, fun _ => rfl, fun i hi => ?_⟩
  match i, hi with
  | 0, _ => exact ⟨v0, by rw [cell_of_row _ _ _ _ _ _ (heap_alloc_new w _)]; rfl, h0.fr0 ((Fr.refl _ _).alloc _)⟩
theorem of_one (l : List UInt8) (hl : l.length ≤ 9223372036854775807) (v0 : Value) (w : World) (hB : BytesIs w v0 l) (hR : Rests w) (t : TypeId) :
    Calls Tryd.prog 20 #[.slice (some ⟨w.heap.size, 0, none⟩) 1 1] (w.alloc (.cells #[v0] t)) fun e w' => e = .returned (.int .u32 ((crc 0 l : Nat) : Int)) ∧ w.alloc (.cells #[v0] t) = w' := by
  refine (of_any _ [l] (w.alloc (.cells #[v0] t)) (parts_one w v0 l hB t _ rfl) (hR.fr (S := fun _ => False) ((Fr.refl _ _).alloc _) (fun f => f)) (by simpa using hl)).mono fun e w' ⟨he, hw⟩ => ⟨by rw [he]; simp, hw⟩

/-- what Put tells -/
def putOut (p : List UInt8) : List UInt8 := if 512 < p.length then [] else frameOf p
def putErr (p : List UInt8) : Int := if 512 < p.length then 9 else 0
def PutPost (p : List UInt8) (w : World) (e : Ending) (w' : World) : Prop := ∃ v, e = .returned (.tuple #[v, .int .i64 (putErr p)]) ∧ BytesIs w' v (putOut p) ∧ Fr0 w w'
set_option maxHeartbeats 1000000 in
theorem put_any (v : Value) (p : List UInt8) (hp : p.length ≤ 9223372036854775807) (w : World) (hB : BytesIs w v p) (hR : Rests w) :
    Calls Tryd.prog 10 #[v] w (PutPost p w) := by
  have HB := Lib.hid hB
  have HR := Lib.hid hR
  obtain ⟨a, c, rfl⟩ := hB.form
  clear hB hR
  by_cases h : 512 < p.length
  · have HO : Hid (putOut p = []) := Lib.hid (by unfold putOut; rw [if_pos h])
    have HE : Hid (putErr p = 9) := Lib.hid (by unfold putErr; rw [if_pos h])
    go_enter Tryd.func10, Tryd.ntmps10
    go_wp2
    go_ret2
    exact ⟨_, by rw [HE.out]; rfl, by rw [HO.out]; exact BytesIs.nil _, Fr.refl _ _⟩
  · have hb0 : bytesW [] p = be 2 p.length ++ p := by unfold bytesW; rw [if_neg (by omega)]; rfl
    have HO : Hid (putOut p = (be 2 p.length ++ p) ++ be 4 (crc 0 (be 2 p.length ++ p))) := Lib.hid (by unfold putOut frameOf; rw [if_neg h])
    have HE : Hid (putErr p = 0) := Lib.hid (by unfold putErr; rw [if_neg h])
    have hxl : (be 2 p.length ++ p).length ≤ 514 := by rw [List.length_append, be_length]; omega
    go_enter Tryd.func10, Tryd.ntmps10
    go_wp2_with fail
    refine (bytes_any _ _ [] p (by simp) hp w (BytesIs.nil w) HB.out).mono ?_
    rintro e w1 ⟨v1, rfl, hB1, hF1⟩
    rw [hb0] at hB1
    have HB1 := Lib.hid hB1
    have HF1 := Lib.hid hF1
    have HR1 := Lib.hid (HR.out.fr hF1 (fun f => f))
    have hcl := crc_lt 0 (be 2 p.length ++ p) (by decide)
    obtain ⟨a1, n1, c1, rfl⟩ := hB1.slice
    clear hB1 hF1 hb0
    generalize hX : be 2 p.length ++ p = x at *
    clear hX
    have hof := of_one x (by omega) _ w1 HB1.out HR1.out
    have HB2 : Hid (∀ o, BytesIs (w1.alloc o) (.slice a1 n1 c1) x) := Lib.hid (fun o => HB1.out.fr0 ((Fr.refl _ _).alloc _))
    generalize hY : crc 0 x = y at *
    have HY := Lib.hid hY
    clear hY
    go_wp2_with fail
    refine (hof _).mono ?_
    rintro e w2 ⟨rfl, rfl⟩
    clear hof
    go_wp2_with fail
    refine (u32_any _ x y hcl (by omega) _ (HB2.out _)).mono ?_
    rintro e w3 ⟨v3, rfl, hB3, hF3⟩
    have HB3 := Lib.hid hB3
    have HF3 : Hid (Fr0 w w3) := Lib.hid ((HF1.out.alloc _).trans' hF3)
    clear hB3 hF3
    go_wp2
    go_ret2
    exact ⟨_, by rw [HE.out]; rfl, by rw [HO.out]; exact HB3.out, HF3.out⟩
def NewPost (w : World) (e : Ending) (w' : World) : Prop := ∃ g, e = .returned (ptr g) ∧ w.heap.size ≤ g ∧ CutAt w' g none [] false ∧ Fr0 w w'
theorem new_any (w : World) : Calls Tryd.prog 11 #[] w (NewPost w) := by
  go_enter Tryd.func11, Tryd.ntmps11
  go_wp2
  go_ret
  refine ⟨w.heap.size, rfl, Nat.le_refl _, ⟨.slice none 0 0, rfl, rowIs_new w _ _ 2 _ rfl (fun i hi => ?_), World.ownsRow_nil _ _ _ _⟩, (Fr.refl _ _).alloc _⟩
  match i, hi with
  | 0, _ => rfl
  | 1, _ => rfl
theorem waits_any (g : Nat) (q : Option Nat) (l : List UInt8) (d : Bool) (w : World) (h : CutAt w g q l d) :
    Calls Tryd.prog 13 #[ptr g] w fun e w' => e = .returned (.int .i64 (l.length : Int)) ∧ w = w' := by
  obtain ⟨sv, hq, hr, ho⟩ := h
  obtain ⟨A, C, rfl, _⟩ := owns_form ho
  have c0 : w.cell? ⟨g, 0, none⟩ = some (.slice A l.length C) := hr.cell (i := 0) (by decide)
  clear hr ho hq
  unfold ptr
  go_enter Tryd.func13, Tryd.ntmps13
  go_wp2
  go_ret
  exact ⟨rfl, rfl⟩
theorem dead_any (g : Nat) (q : Option Nat) (l : List UInt8) (d : Bool) (w : World) (h : CutAt w g q l d) :
    Calls Tryd.prog 14 #[ptr g] w fun e w' => e = .returned (.bool d) ∧ w = w' := by
  obtain ⟨sv, hq, hr, ho⟩ := h
  have c1 : w.cell? ⟨g, 1, none⟩ = some (.bool d) := hr.cell (i := 1) (by decide)
  clear hr ho hq
  unfold ptr
  go_enter Tryd.func14, Tryd.ntmps14
  go_wp2
  go_ret
  exact ⟨rfl, rfl⟩
set_option maxHeartbeats 1000000 in
theorem need_any (g : Nat) (q : Option Nat) (l : List UInt8) (d : Bool) (hl : l.length ≤ 1000) (w : World) (h : CutAt w g q l d) :
    Calls Tryd.prog 28 #[ptr g] w fun e w' => e = .returned (.int .i64 (needOf l : Int)) ∧ Fr0 w w' := by
  obtain ⟨sv, hq, hr, ho⟩ := h
  have HB := Lib.hid (BytesIs.own ho)
  obtain ⟨A, C, rfl, _⟩ := owns_form ho
  have c0 : w.cell? ⟨g, 0, none⟩ = some (.slice A l.length C) := hr.cell (i := 0) (by decide)
  have hx := cutOut_num 2 l
  have HN := Lib.hid (need_out l)
  clear hr ho hq
  unfold ptr
  go_enter Tryd.func28, Tryd.ntmps28
  go_wp2_with fail
  refine (Pack.new_any _ l (by omega) w HB.out).mono ?_
  rintro e w1 ⟨g1, rfl, hg1, hR1, hF1⟩
  have HR1 := Lib.hid hR1
  have HF1 := Lib.hid hF1
  clear hR1 hF1
  go_wp2_with fail
  refine (ru16_any g1 l 0 w1 (by omega) HR1.out).mono ?_
  rintro e w2 ⟨rfl, hR2, hF2⟩
  have HF2 : Hid (Fr0 w w2) := Lib.hid (HF1.out.trans hF2 (fun i hi e => by have e' : i = g1 := e; omega))
  clear hR2 hF2
  have hx2 : num (cutOut 2 l) < 65536 := hx
  clear hx
  generalize num (cutOut 2 l) = x at *
  go_wp2
  go_ret
  exact ⟨by rw [← HN.out]; simp, HF2.out⟩
end Go.Proofs.YtggdpmfghbnhcaaDoor.Frame
