/-
  The walk of the reference's NewHold.
-/
import Derived.Test.YtkdpdbjefehmpaaHoldRef
namespace Go.Proofs.Ytkdpdbjefehmpaa.Hold
open Go.RowKit Base Go.Maps Arena
open Blocks (BlkR whole whole_le frees nints nvals)

def RNewPost (k ga : Nat) (n : Nat) (w : World) (e : Ending) (w' : World) : Prop :=
  ∃ g xg ob, e = .returned (.tuple #[ptr g, .int .i64 0]) ∧ HoldR w' (fun j => w.heap.size ≤ j) k ga g xg ob (.slice none 0 0) (List.replicate n false) 0 [] ∧ Fr0 w w'
set_option maxRecDepth 100000 in
set_option maxHeartbeats 4000000 in
theorem rnew_in (B ga pb cb : Nat) (L : List Int) (bs : List UInt8) (k : Nat) (w : World) (h : AreR w B ga pb cb L bs) (hk : k < L.length) :
    Calls Try.prog 19 #[ptr ga, .int .i64 (k : Int)] w (RNewPost k ga (whole (cut L (k + 1) - cut L k)) w) := by
  have hz := h.fits.zero (k := k) (by omega)
  have hy := h.fits.le (k := k + 1) hk
  have hs1 := h.fits.s1
  have hln := h.fits.n
  have hm := h.fits.mono (Nat.le_succ k) hk
  obtain ⟨C, hC, c1⟩ := h.cell1
  have d0 := h.cuts k (by omega)
  have d1 := h.cuts (k + 1) (by omega)
  clear h
  generalize cut L k = c at *
  generalize cut L (k + 1) = d at *
  unfold ptr
  go_enter Try.func19, Try.ntmps19
  go_wp2
  refine Mix.law (fun _ => True) [(.sure, 0), (.sure, 1), (.sure, 2), (.sure, 3), (.sure, 4), (.look, 5), (.sure, 6), (.sure, 7), (.sure, 8), (.look, 9), (.sure, 10), (.sure, 11), (.sure, 12), (.look, 13), (.sure, 14), (.sure, 15), (.look, 16), (.sure, 17), (.turn, 18), (.sure, 19), (.turn, 20), (.sure, 21), (.sure, 22)] (by kernel_rfl) (by kernel_rfl) trivial ?_
  simp only [List.map_cons, List.map_nil, Mix.nth_zero, Mix.nth_succ]
  repeat (first
    | (refine Mix.go_skipS (by exact Mix.wanted_no rfl rfl rfl rfl) ?_; go_frame)
    | (refine Mix.go_skipL (by exact Mix.wanted_no rfl rfl rfl rfl) ?_; go_frame)
    | (refine Mix.go_move (by first | exact Mix.wanted_none rfl | exact Mix.wanted_yes rfl rfl rfl) _ rfl _ (by first | (go_simp; done) | (go_simp; rfl)) ?_; go_frame)
    | (refine Mix.go_assign (by first | exact Mix.wanted_none rfl | exact Mix.wanted_yes rfl rfl rfl) _ rfl _ (by first | (go_simp; done) | (go_simp; rfl)) ?_; go_frame)
    | (refine Mix.go_sureW (by first | exact Mix.wanted_none rfl | exact Mix.wanted_yes rfl rfl rfl) _ (by rfl) (by rfl) _ (fun w' hC' => by go_wp2_with fail; refine Mix.stays ?_; go_frame; rfl) ?_; go_frame)
    | (refine Mix.go_lookW (by first | exact Mix.wanted_none rfl | exact Mix.wanted_yes rfl rfl rfl) _ (by rfl) (by rfl) _ (by go_wp2_with fail; refine Mix.stays ?_; go_frame; rfl) ?_; go_frame))
  refine Mix.go_turn ?_
  go_wp2_with fail
  refine (Blocks.refNew_any (d - c) (by omega) _).mono ?_
  rintro e w2 ⟨xg, ob, rfl, hb, hf2⟩
  have HF2 : Hid (Fr0 w w2) := Lib.hid ((Fr.refl _ _).drew.trans' hf2)
  have HE : Hid (RNewPost k ga (whole (d - c)) w (.returned (.tuple #[.pointer (some ⟨w2.heap.size, 0, none⟩), .int .i64 0])) (w2.alloc (.cells #[.pointer (some ⟨ga, 0, none⟩), .int .i64 (k : Int), .pointer (some ⟨xg, 0, none⟩), .slice none 0 0, .int .i64 0] 57))) := Lib.hid (by
    have hg := hb.g_lt
    have ho := hb.ob_lt
    have h2 := HF2.out.size
    have hgB : w.heap.size ≤ xg := hb.gB
    have hoB : w.heap.size ≤ ob := hb.oB
    have f2 : Fr0 w2 (w2.alloc (.cells #[.pointer (some ⟨ga, 0, none⟩), .int .i64 (k : Int), .pointer (some ⟨xg, 0, none⟩), .slice none 0 0, .int .i64 0] 57)) := (Fr.refl _ _).alloc _
    refine ⟨w2.heap.size, xg, ob, rfl, ⟨?_, (hb.base (Nat.zero_le _)).fr0 f2, World.ownsRow_nil _ _ _ _, (fun b hb => by cases hb), (fun e he => by cases he), ⟨by omega, by omega, by omega⟩, ⟨by omega, by omega⟩, List.Pairwise.nil, (fun e he => by cases he)⟩, HF2.out.trans' f2⟩
    exact rowIs_new w2 #[.pointer (some ⟨ga, 0, none⟩), .int .i64 (k : Int), .pointer (some ⟨xg, 0, none⟩), .slice none 0 0, .int .i64 0] 57 5 (fun i => if i = 0 then ptr ga else if i = 1 then .int .i64 (k : Int) else if i = 2 then ptr xg else if i = 3 then .slice none 0 0 else .int .i64 ((0 : Nat) : Int)) rfl (fun i hi => by
      match i, hi with
      | 0, _ => rfl
      | 1, _ => rfl
      | 2, _ => rfl
      | 3, _ => rfl
      | 4, _ => rfl))
  clear hb hf2 c1 d0 d1
  go_wp2
  refine Mix.then_go trivial ?_
  repeat (first
    | (refine Mix.go_skipS (by exact Mix.wanted_no rfl rfl rfl rfl) ?_; go_frame)
    | (refine Mix.go_skipL (by exact Mix.wanted_no rfl rfl rfl rfl) ?_; go_frame)
    | (refine Mix.go_move (by first | exact Mix.wanted_none rfl | exact Mix.wanted_yes rfl rfl rfl) _ rfl _ (by first | (go_simp; done) | (go_simp; rfl)) ?_; go_frame)
    | (refine Mix.go_assign (by first | exact Mix.wanted_none rfl | exact Mix.wanted_yes rfl rfl rfl) _ rfl _ (by first | (go_simp; done) | (go_simp; rfl)) ?_; go_frame)
    | (refine Mix.go_sureW (by first | exact Mix.wanted_none rfl | exact Mix.wanted_yes rfl rfl rfl) _ (by rfl) (by rfl) _ (fun w' hC' => by go_wp2_with fail; refine Mix.stays ?_; go_frame; rfl) ?_; go_frame)
    | (refine Mix.go_lookW (by first | exact Mix.wanted_none rfl | exact Mix.wanted_yes rfl rfl rfl) _ (by rfl) (by rfl) _ (by go_wp2_with fail; refine Mix.stays ?_; go_frame; rfl) ?_; go_frame))
  refine Mix.go_turn ?_
  go_wp2
  refine Mix.then_go trivial ?_
  repeat (first
    | (refine Mix.go_skipS (by exact Mix.wanted_no rfl rfl rfl rfl) ?_; go_frame)
    | (refine Mix.go_skipL (by exact Mix.wanted_no rfl rfl rfl rfl) ?_; go_frame)
    | (refine Mix.go_move (by first | exact Mix.wanted_none rfl | exact Mix.wanted_yes rfl rfl rfl) _ rfl _ (by first | (go_simp; done) | (go_simp; rfl)) ?_; go_frame)
    | (refine Mix.go_assign (by first | exact Mix.wanted_none rfl | exact Mix.wanted_yes rfl rfl rfl) _ rfl _ (by first | (go_simp; done) | (go_simp; rfl)) ?_; go_frame)
    | (refine Mix.go_sureW (by first | exact Mix.wanted_none rfl | exact Mix.wanted_yes rfl rfl rfl) _ (by rfl) (by rfl) _ (fun w' hC' => by go_wp2_with fail; refine Mix.stays ?_; go_frame; rfl) ?_; go_frame)
    | (refine Mix.go_lookW (by first | exact Mix.wanted_none rfl | exact Mix.wanted_yes rfl rfl rfl) _ (by rfl) (by rfl) _ (by go_wp2_with fail; refine Mix.stays ?_; go_frame; rfl) ?_; go_frame))
  refine Mix.go_end ?_
  go_wp2
  go_ret2
  exact HE.out
end Go.Proofs.Ytkdpdbjefehmpaa.Hold
