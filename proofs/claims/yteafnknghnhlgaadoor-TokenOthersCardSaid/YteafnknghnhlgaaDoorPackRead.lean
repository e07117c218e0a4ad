/-
  The walks of pack's reader.
-/
import Derived.Test.YteafnknghnhlgaaDoorPackWrite
import Derived.Test.YteafnknghnhlgaaDoorCuts
import Derived.Test.YteafnknghnhlgaaDoorPackYoung
import Derived.Laws.BitsAllLaws
import Derived.Lib.SliceRun
namespace Go.Proofs.YteafnknghnhlgaaDoor.Pack
open Go.RowKit Base

set_option maxHeartbeats 1000000 in
theorem clone_any (v : Value) (l : List UInt8) (hl : l.length ≤ 140737488355328) (w : World) (hB : BytesIs w v l) :
    Calls Tryd.prog 19 #[v] w fun e w' => ∃ v', e = .returned v' ∧ BytesIs w' v' l ∧ Fr0 w w' := by
  have HB := Lib.hid hB
  obtain ⟨a, c, pb, po, rfl, _, h0, _⟩ := hB
  have q22 : ∀ (w : World) (a : Option Addr) (n c n' c' : Nat), (binOp .eql 23 (.slice a n c) (.slice none n' c')).run Tryd.prog w = .ok (.bool a.isNone) w := fun w a n c n' c' => Lib.run_eql_slice_nil w _ _ a n c n' c' Tryd.underlying23
  cases a with
  | none =>
    obtain rfl : l = [] := by
      by_cases h : 0 < l.length
      · exact absurd (h0 h) (by simp)
      · exact List.eq_nil_of_length_eq_zero (by omega)
    go_enter Tryd.func19, Tryd.ntmps19
    go_wp2
    go_ret
    exact ⟨_, rfl, BytesIs.nil w, Fr.refl _ _⟩
  | some a =>
    clear h0
    go_enter Tryd.func19, Tryd.ntmps19
    go_wp2_with (refine wpList_append_bytes rfl (.tmp 5) (.tmp 6) 23 rfl w.heap.size 5 Tryd.underlying23 info8 _ _ 0 [] l rfl rfl (owns_empty w w.heap.size _ (Nat.le_refl _) _ rfl) (HB.out.fr0 ((Fr.refl _ _).alloc _)) (by omega) ((Fr.refl (fun _ => False) _).alloc _).size ?_; intro v1 w1 hO1 hG1)
    go_ret
    refine ⟨_, rfl, BytesIs.own hO1, ((Fr.refl _ _).alloc _).grown hG1 (fun k hk e => by cases e; exact absurd hk (Nat.lt_irrefl _))⟩
set_option maxHeartbeats 1000000 in
theorem clone_new (v : Value) (l : List UInt8) (hl : l.length ≤ 140737488355328) (w : World) (hB : BytesIs w v l) :
    Calls Tryd.prog 19 #[v] w fun e w' => ∃ v', e = .returned v' ∧ BytesIs w' v' l ∧ Fr0 w w' ∧ Young w v' := by
  have HB := Lib.hid hB
  obtain ⟨a, c, pb, po, rfl, _, h0, _⟩ := hB
  have q22 : ∀ (w : World) (a : Option Addr) (n c n' c' : Nat), (binOp .eql 23 (.slice a n c) (.slice none n' c')).run Tryd.prog w = .ok (.bool a.isNone) w := fun w a n c n' c' => Lib.run_eql_slice_nil w _ _ a n c n' c' Tryd.underlying23
  cases a with
  | none =>
    obtain rfl : l = [] := by
      by_cases h : 0 < l.length
      · exact absurd (h0 h) (by simp)
      · exact List.eq_nil_of_length_eq_zero (by omega)
    go_enter Tryd.func19, Tryd.ntmps19
    go_wp2
    go_ret
    exact ⟨_, rfl, BytesIs.nil w, Fr.refl _ _, fun a n c h => by cases h⟩
  | some a =>
    clear h0
    go_enter Tryd.func19, Tryd.ntmps19
    go_wp2_with (refine wpList_append_bytes rfl (.tmp 5) (.tmp 6) 23 rfl w.heap.size 5 Tryd.underlying23 info8 _ _ 0 [] l rfl rfl (owns_empty w w.heap.size _ (Nat.le_refl _) _ rfl) (HB.out.fr0 ((Fr.refl _ _).alloc _)) (by omega) ((Fr.refl (fun _ => False) _).alloc _).size ?_; intro v1 w1 hO1 hG1)
    go_ret
    refine ⟨_, rfl, BytesIs.own hO1, ((Fr.refl _ _).alloc _).grown hG1 (fun k hk e => by cases e; exact absurd hk (Nat.lt_irrefl _)), fun a n c h => ?_⟩
    have h' : v1 = .slice (some a) n c := h
    exact (hO1.lt a.block (by rw [h']; rfl)).1
set_option maxHeartbeats 1000000 in
theorem new_any (v : Value) (l : List UInt8) (hl : l.length ≤ 140737488355328) (w : World) (hB : BytesIs w v l) :
    Calls Tryd.prog 20 #[v] w fun e w' => ∃ g, e = .returned (.pointer (some ⟨g, 0, none⟩)) ∧ w.heap.size ≤ g ∧ RdAt w' g 56 l 0 ∧ Fr0 w w' := by
  have HB := Lib.hid hB
  clear hB
  go_enter Tryd.func20, Tryd.ntmps20
  go_wp2_with fail
  refine (clone_any v l hl w HB.out).mono ?_
  rintro e w1 ⟨v1, rfl, hB1, hF1⟩
  have HB1 := Lib.hid hB1
  have HF1 := Lib.hid hF1
  obtain ⟨a, n, c, rfl⟩ := hB1.slice
  clear hF1 hB1
  go_wp2
  go_ret
  refine ⟨w1.heap.size, rfl, HF1.out.size, ⟨.slice a n c, rowIs_new w1 _ _ 2 _ rfl (fun i hi => ?_), HB1.out.fr0 ((Fr.refl _ _).alloc _)⟩, HF1.out.alloc _⟩
  match i, hi with
  | 0, _ => rfl
  | 1, _ => rfl
set_option maxHeartbeats 1000000 in
theorem fail_any (g : Nat) (c : Int) (l : List UInt8) (er : Int) (w : World) (hR : RdAt w g 56 l er) :
    Calls Tryd.prog 40 #[.pointer (some ⟨g, 0, none⟩), .int .i64 c] w fun e w' => e = .returned (.tuple #[]) ∧ RdAt w' g 56 [] (failE c er) ∧ Fr1 g w w' := by
  obtain ⟨sv, hr, hb⟩ := hR
  have HR := Lib.hid hr
  have c0 : w.cell? ⟨g, 0, none⟩ = some sv := hr.cell (i := 0) (by decide)
  have c1 : w.cell? ⟨g, 1, none⟩ = some (.int .i64 er) := hr.cell (i := 1) (by decide)
  have f0 := hr.frozen 0
  have f1 := hr.frozen 1
  clear hr hb
  by_cases h : er = 0
  · subst h
    go_enter Tryd.func40, Tryd.ntmps40
    go_wp2
    go_end0
    refine ⟨rfl, ⟨.slice none 0 0, ((HR.out.set 1 _).set 0 _).congr (fun i hi => ?_), BytesIs.nil _⟩, fr1_set (fr1_set (Fr.refl _ _) 1 _) 0 _⟩
    match i, hi with
    | 0, _ => rfl
    | 1, _ => rfl
  · go_enter Tryd.func40, Tryd.ntmps40
    go_wp2
    go_end0
    refine ⟨rfl, ⟨.slice none 0 0, (HR.out.set 0 _).congr (fun i hi => ?_), BytesIs.nil _⟩, fr1_set (Fr.refl _ _) 0 _⟩
    match i, hi with
    | 0, _ => rfl
    | 1, _ => simp [failE, h]
set_option maxHeartbeats 1000000 in
theorem cut_any (g n : Nat) (l : List UInt8) (er : Int) (w : World) (hn : n ≤ 9223372036854775807) (hl : l.length ≤ 9223372036854775807) (hR : RdAt w g 56 l er) :
    Calls Tryd.prog 35 #[.pointer (some ⟨g, 0, none⟩), .int .i64 (n : Int)] w fun e w' => ∃ v, e = .returned v ∧ BytesIs w' v (cutOut n l) ∧ RdAt w' g 56 (cutRest n l) (cutErr n l er) ∧ Fr1 g w w' := by
  have HRD := Lib.hid hR
  have HNU := Lib.hid hR.noU8
  obtain ⟨sv, hr, hb⟩ := hR
  have HR := Lib.hid hr
  have HB := Lib.hid hb
  obtain ⟨a, n0, c, rfl⟩ := hb.slice
  obtain rfl : n0 = l.length := by obtain ⟨_, _, _, _, h, _⟩ := hb; simp only [Value.slice.injEq] at h; exact h.2.1
  have c0 : w.cell? ⟨g, 0, none⟩ = some (.slice a l.length c) := hr.cell (i := 0) (by decide)
  have f0 := hr.frozen 0
  clear hr hb
  by_cases h : l.length < n
  · go_enter Tryd.func35, Tryd.ntmps35
    go_wp2_with fail
    refine (fail_any g 3 l er w HRD.out).mono ?_
    rintro e w1 ⟨rfl, hR1, hF1⟩
    have HR1 := Lib.hid hR1
    have HF1 := Lib.hid hF1
    clear hR1 hF1
    go_wp2
    go_ret
    refine ⟨_, rfl, ?_, ?_, HF1.out⟩
    · unfold cutOut; rw [if_pos h]; exact BytesIs.nil _
    · unfold cutRest cutErr; rw [if_pos h, if_pos h]; exact HR1.out
  · obtain ⟨a2, c2, hb2, hs2⟩ := HB.out.cutLo (P := Tryd.prog) 23 5 Tryd.underlying23 (by kernel_rfl) n (by omega)
    have HB1 := Lib.hid (BytesIs.takeHi (n := n) (by omega) HB.out)
    have hcap : l.length ≤ c := by obtain ⟨_, _, _, _, he, h1, _⟩ := HB.out; simp only [Value.slice.injEq] at he; rw [he.2.2]; exact h1
    have hs1 := fun wx : World => cut_hi_at (P := Tryd.prog) 23 5 Tryd.underlying23 (by kernel_rfl) a l.length c n (by omega) wx
    have HB2 := Lib.hid hb2
    clear hb2
    go_enter Tryd.func35, Tryd.ntmps35
    go_wp2
    go_ret
    have hF : Fr1 g w (w.setCell ⟨g, 0, none⟩ (.slice a2 (l.length - n) c2)) := fr1_set (Fr.refl _ _) 0 _
    refine ⟨_, rfl, ?_, ?_, hF⟩
    · unfold cutOut; rw [if_neg h]; exact bytes_fr1 HB1.out hF HNU.out
    · unfold cutRest cutErr
      rw [if_neg h, if_neg h]
      refine ⟨_, (HR.out.set 0 _).congr (fun i hi => ?_), bytes_fr1 HB2.out hF HNU.out⟩
      match i, hi with
      | 0, _ => rfl
      | 1, _ => rfl
theorem or_low (a b : Nat) (hb : b < 256) (ha : a < 72057594037927936) : bits BinOp.or .u64 ((a : Int) * 256) (b : Int) = ((a * 256 + b : Nat) : Int) := by
  have h1 : ((a : Int) * 256) = ((a * 256 : Nat) : Int) := by omega
  rw [h1, u64_or_nat (a * 256) b (by omega) (by omega), nat_join 8 (a * 256) b (by omega) (by omega)]
set_option maxHeartbeats 1000000 in
theorem rnum_any (g k : Nat) (l : List UInt8) (er : Int) (w : World) (hk : k ≤ 8) (hl : l.length ≤ 9223372036854775807) (hR : RdAt w g 56 l er) :
    Calls Tryd.prog 29 #[.pointer (some ⟨g, 0, none⟩), .int .i64 (k : Int)] w fun e w' => e = .returned (.int .u64 (num (cutOut k l) : Int)) ∧ RdAt w' g 56 (cutRest k l) (cutErr k l er) ∧ Fr1 g w w' := by
  have HR := Lib.hid hR
  clear hR
  go_enter Tryd.func29, Tryd.ntmps29
  go_wp2_with fail
  refine (cut_any g k l er w (by omega) hl HR.out).mono ?_
  rintro e w1 ⟨v1, rfl, hB1, hR1, hF1⟩
  have HR1 := Lib.hid hR1
  have HF1 := Lib.hid hF1
  have hcl := cutOut_length k l
  generalize hC : cutOut k l = C at *
  obtain ⟨a1, c1, pb, po, rfl, _, ha1, hc1⟩ := hB1
  have HA := Lib.hid ha1
  have HC := Lib.hid hc1
  have HCE := Lib.hid hC
  clear hR1 hF1 ha1 hc1 hC
  go_wp2
  go_loop [5, 12] (fun x i => ∃ j : Nat, j ≤ C.length ∧ i = .int .i64 j ∧ x = .int .u64 ((num (C.take j) : Nat) : Int)) (fun _ i => C.length - (intOf i).toNat)
  case atStart => exact ⟨0, Nat.zero_le _, rfl, rfl⟩
  case round =>
    obtain ⟨j, hj, rfl, rfl⟩ := hrel
    by_cases hlt : j < C.length
    · obtain rfl := HA.out (by omega)
      have c0 := HC.out j hlt
      have hy := (C.getD j 0).toNat_lt
      have hx : num (C.take j) < 72057594037927936 := Nat.lt_of_lt_of_le (num_lt (C.take j)) (by
        have : (C.take j).length ≤ 7 := by simp; omega
        exact Nat.le_trans (Nat.pow_le_pow_right (by decide) this) (by decide))
      have HN : Hid (num (C.take j) * 256 + (C.getD j 0).toNat = num (C.take (j + 1))) := Lib.hid (num_next C j hlt).symm
      have e0 := or_low (num (C.take j)) (C.getD j 0).toNat hy hx
      generalize (C.getD j 0).toNat = y at *
      generalize num (C.take j) = x at *
      go_wp2
      go_round
      case rel => exact ⟨j + 1, by omega, by go_num, by rw [← HN.out]; simp⟩
      case measure => simp only [intOf]; omega
    · have hkl : j = C.length := by omega
      have HE : Hid (num (C.take j) = num C) := Lib.hid (by rw [hkl, List.take_length])
      clear hkl
      generalize num (C.take j) = x at *
      go_wp2
      go_ret
      exact ⟨by rw [HCE.out, ← HE.out]; rfl, HR1.out, HF1.out⟩
theorem ru16_any (g : Nat) (l : List UInt8) (er : Int) (w : World) (hl : l.length ≤ 9223372036854775807) (hR : RdAt w g 56 l er) :
    Calls Tryd.prog 21 #[.pointer (some ⟨g, 0, none⟩)] w fun e w' => e = .returned (.int .u16 (num (cutOut 2 l) : Int)) ∧ RdAt w' g 56 (cutRest 2 l) (cutErr 2 l er) ∧ Fr1 g w w' := by
  have HR := Lib.hid hR
  have hx := cutOut_num 2 l
  clear hR
  go_enter Tryd.func21, Tryd.ntmps21
  go_wp2_with fail
  refine (rnum_any g 2 l er w (by decide) hl HR.out).mono ?_
  rintro e w1 ⟨rfl, hR1, hF1⟩
  have HR1 := Lib.hid hR1
  have HF1 := Lib.hid hF1
  clear hR1 hF1
  have hx2 : num (cutOut 2 l) < 65536 := hx
  clear hx
  generalize hX : num (cutOut 2 l) = x at *
  have HX := Lib.hid hX
  clear hX
  go_wp2
  go_ret
  exact ⟨by rw [HX.out]; rfl, HR1.out, HF1.out⟩
end Go.Proofs.YteafnknghnhlgaaDoor.Pack
