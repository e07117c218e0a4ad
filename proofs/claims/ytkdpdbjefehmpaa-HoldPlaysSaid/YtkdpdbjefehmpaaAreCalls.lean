/-
  The walks of an arena's calls: Parts, Region, All, Read, Write, and what they call.
-/
import Derived.Test.YtkdpdbjefehmpaaProg
import Derived.Test.YtkdpdbjefehmpaaAreSpec
import Derived.BigQuiet
import Derived.OwnWalk
import Derived.Lib.SliceRun
namespace Go.Proofs.Ytkdpdbjefehmpaa.Arena
open Go.RowKit Base

abbrev AreP (w : World) (B g pb cb : Nat) (L : List Int) (bs : List UInt8) : Prop := AreAt w B 64 5 g pb cb L bs
theorem info8 : (Try.prog.info? 5).map (fun i => (i.zero, i.size, i.bytes)) = some (some (.int .u8 0), 1, 1) := by kernel_rfl
def ptr (p : Nat) : Value := .pointer (some ⟨p, 0, none⟩)
set_option maxHeartbeats 1000000 in
theorem clone_new (v : Value) (l : List UInt8) (hl : l.length ≤ 140737488355328) (w : World) (hB : BytesIs w v l) :
    Calls Try.prog 34 #[v] w fun e w' => ∃ v', e = .returned v' ∧ BytesIs w' v' l ∧ Fr0 w w' ∧ Fresh w v' := by
  have HB := Lib.hid hB
  obtain ⟨a, c, pb, po, rfl, _, h0, _⟩ := hB
  have q22 : ∀ (w : World) (a : Option Addr) (n c n' c' : Nat), (binOp .eql 32 (.slice a n c) (.slice none n' c')).run Try.prog w = .ok (.bool a.isNone) w := fun w a n c n' c' => Lib.run_eql_slice_nil w _ _ a n c n' c' Try.underlying32
  cases a with
  | none =>
    obtain rfl : l = [] := by
      by_cases h : 0 < l.length
      · exact absurd (h0 h) (by simp)
      · exact List.eq_nil_of_length_eq_zero (by omega)
    go_enter Try.func34, Try.ntmps34
    go_wp2
    go_ret
    exact ⟨_, rfl, BytesIs.nil w, Fr.refl _ _, Fresh.nil w⟩
  | some a =>
    clear h0
    go_enter Try.func34, Try.ntmps34
    go_wp2_with (refine wpList_append_bytes rfl (.tmp 5) (.tmp 6) 32 rfl w.heap.size 5 Try.underlying32 info8 _ _ 0 [] l rfl rfl (owns_empty w w.heap.size _ (Nat.le_refl _) _ rfl) (HB.out.fr0 ((Fr.refl _ _).alloc _)) (by omega) ((Fr.refl (fun _ => False) _).alloc _).size ?_; intro v1 w1 hO1 hG1)
    go_ret
    refine ⟨_, rfl, BytesIs.own hO1, ((Fr.refl _ _).alloc _).grown hG1 (fun k hk e => by cases e; exact absurd hk (Nat.lt_irrefl _)), Fresh.own hO1⟩
theorem clone_any (v : Value) (l : List UInt8) (hl : l.length ≤ 140737488355328) (w : World) (hB : BytesIs w v l) :
    Calls Try.prog 34 #[v] w fun e w' => ∃ v', e = .returned v' ∧ BytesIs w' v' l ∧ Fr0 w w' := (clone_new v l hl w hB).mono fun e w' ⟨v', h1, h2, h3, _⟩ => ⟨v', h1, h2, h3⟩

set_option maxHeartbeats 1000000 in
theorem parts_any (B g pb cb : Nat) (L : List Int) (bs : List UInt8) (w : World) (h : AreP w B g pb cb L bs) :
    Calls Try.prog 44 #[ptr g] w fun e w' => e = .returned (.int .i64 (L.length : Int)) ∧ w' = w := by
  obtain ⟨C, hC, c1⟩ := h.cell1
  have hn := h.fits.n
  clear h
  unfold ptr
  go_enter Try.func44, Try.ntmps44
  go_wp2
  go_ret
  exact ⟨by simp, rfl⟩
set_option maxHeartbeats 1000000 in
theorem all_new (B g pb cb : Nat) (L : List Int) (bs : List UInt8) (w : World) (h : AreP w B g pb cb L bs) :
    Calls Try.prog 13 #[ptr g] w fun e w' => ∃ v, e = .returned v ∧ BytesIs w' v bs ∧ Fr0 w w' ∧ Fresh w v := by
  have c0 := h.cell0
  have hl := h.fits.s1
  have HB := Lib.hid h.all
  clear h
  unfold ptr
  go_enter Try.func13, Try.ntmps13
  go_wp2_with fail
  refine (clone_new _ bs (by omega) w HB.out).mono ?_
  rintro e w1 ⟨v, rfl, hb, hf, hn⟩
  have HV := Lib.hid hb
  have HF := Lib.hid hf
  have HN := Lib.hid hn
  clear hb hf hn
  go_wp2
  go_ret
  exact ⟨v, rfl, HV.out, HF.out, HN.out⟩
theorem all_any (B g pb cb : Nat) (L : List Int) (bs : List UInt8) (w : World) (h : AreP w B g pb cb L bs) :
    Calls Try.prog 13 #[ptr g] w fun e w' => ∃ v, e = .returned v ∧ BytesIs w' v bs ∧ Fr0 w w' := (all_new B g pb cb L bs w h).mono fun e w' ⟨v', h1, h2, h3, _⟩ => ⟨v', h1, h2, h3⟩
set_option maxHeartbeats 1000000 in
theorem region_out (B g pb cb : Nat) (L : List Int) (bs : List UInt8) (i : Int) (w : World) (h : AreP w B g pb cb L bs) (hi : i < 0 ∨ (L.length : Int) ≤ i) :
    Calls Try.prog 26 #[ptr g, .int .i64 i] w fun e w' => e = .returned (.tuple #[.int .i64 0, .int .i64 0, .bool false]) ∧ Fr0 w w' := by
  have HA := Lib.hid h
  clear h
  by_cases h0 : i < 0
  · clear hi
    unfold ptr
    go_enter Try.func26, Try.ntmps26
    go_wp2
    go_ret3
    exact ⟨rfl, Fr.refl _ _⟩
  · have h1 : (L.length : Int) ≤ i := by omega
    clear hi
    have hp := parts_any B g pb cb L bs w HA.out
    unfold ptr at hp ⊢
    go_enter Try.func26, Try.ntmps26
    go_wp2_with fail
    refine hp.mono ?_
    rintro e w1 ⟨rfl, rfl⟩
    clear hp
    go_wp2
    go_ret3
    exact ⟨rfl, Fr.refl _ _⟩
set_option maxHeartbeats 1000000 in
theorem region_in (B g pb cb : Nat) (L : List Int) (bs : List UInt8) (k : Nat) (w : World) (h : AreP w B g pb cb L bs) (hk : k < L.length) :
    Calls Try.prog 26 #[ptr g, .int .i64 (k : Int)] w fun e w' => e = .returned (.tuple #[.int .i64 (cut L k), .int .i64 (cut L (k + 1)), .bool true]) ∧ Fr0 w w' := by
  have hp := parts_any B g pb cb L bs w h
  obtain ⟨C, hC, c1⟩ := h.cell1
  have d0 := h.cuts k (by omega)
  have d1 := h.cuts (k + 1) (by omega)
  have hn := h.fits.n
  have h0 : ¬ (k : Int) < 0 := by omega
  have h1 : ¬ (L.length : Int) ≤ (k : Int) := by omega
  have h2 : (k : Int) < ((L.length + 1 : Nat) : Int) := by omega
  have h3 : (k : Int) + 1 < ((L.length + 1 : Nat) : Int) := by omega
  clear h
  unfold ptr at hp ⊢
  go_enter Try.func26, Try.ntmps26
  go_wp2_with fail
  refine hp.mono ?_
  rintro e w1 ⟨rfl, rfl⟩
  clear hp
  go_wp2
  go_quiet (fail)
  go_wp2
  go_ret3
  exact ⟨rfl, (Fr.refl _ _).drewN _⟩
end Go.Proofs.Ytkdpdbjefehmpaa.Arena
