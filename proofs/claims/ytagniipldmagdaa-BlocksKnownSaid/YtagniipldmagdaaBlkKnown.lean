/-
  BlocksKnown: what chapter 8 says of room, of what was not given out: the walk (made by wip/tools/blkknown.py).
-/
import Derived.Test.YtagniipldmagdaaBlkAwake
namespace Go.Proofs.Ytagniipldmagdaa.Blocks
open Go.RowKit Base Arena

set_option maxHeartbeats 8000000 in
set_option maxRecDepth 100000 in
theorem blocksKnown_walk (w : World) : Calls Try.prog 3 #[] w fun e w' => e = .returned (.bool true) ∧ Fr0 w w' := by
  go_enter Try.func3, Try.ntmps3
  go_wp2_with fail
  refine (awake_any w).mono ?_
  rintro e w0 ⟨rfl, hF⟩
  have HF0 : Hid (Fr0 w w0) := Lib.hid hF
  clear hF
  go_wp2_with fail
  refine (new_any 100 (by decide) w0).mono ?_
  rintro e w1 ⟨g, ob, rfl, hB, hf⟩
  rw [show List.replicate (whole 100) false = [false, false, false] by decide] at hB
  have HB1 : Hid (BlkP w1 w.heap.size g ob [false, false, false]) := Lib.hid (hB.base HF0.out.size)
  have HF1 : Hid (Fr0 w w1) := Lib.hid (HF0.out.trans' hf)
  clear hB hf
  go_wp2_with fail
  refine (take_any w.heap.size g ob [false, false, false] (4) (by decide) w1 HB1.out).mono ?_
  rintro e w2 ⟨v2, rfl, hI, hfr, hB, hf⟩
  rw [show terr [false, false, false] (4) = 6 by decide]
  rw [show nints (tout [false, false, false] (4)) = [] by decide] at hI
  rw [show took [false, false, false] (4) = [false, false, false] by decide] at hB
  have HB2 : Hid (BlkP w2 w.heap.size g ob [false, false, false]) := Lib.hid hB
  have HF2 : Hid (Fr0 w w2) := Lib.hid (fr0_of_fr1 HF1.out hf hB.oB)
  clear hI hfr hB hf
  go_wp2_with fail
  refine (take_any w.heap.size g ob [false, false, false] (-1) (by decide) w2 HB2.out).mono ?_
  rintro e w3 ⟨v3, rfl, hI, hfr, hB, hf⟩
  rw [show terr [false, false, false] (-1) = 1 by decide]
  rw [show nints (tout [false, false, false] (-1)) = [] by decide] at hI
  rw [show took [false, false, false] (-1) = [false, false, false] by decide] at hB
  have HB3 : Hid (BlkP w3 w.heap.size g ob [false, false, false]) := Lib.hid hB
  have HF3 : Hid (Fr0 w w3) := Lib.hid (fr0_of_fr1 HF2.out hf hB.oB)
  clear hI hfr hB hf
  go_wp2_with fail
  refine (take_any w.heap.size g ob [false, false, false] (3) (by decide) w3 HB3.out).mono ?_
  rintro e w4 ⟨v4, rfl, hI, hfr, hB, hf⟩
  rw [show terr [false, false, false] (3) = 0 by decide]
  rw [show nints (tout [false, false, false] (3)) = [0, 1, 2] by decide] at hI
  rw [show took [false, false, false] (3) = [true, true, true] by decide] at hB
  have HB4 : Hid (BlkP w4 w.heap.size g ob [true, true, true]) := Lib.hid hB
  have HF4 : Hid (Fr0 w w4) := Lib.hid (fr0_of_fr1 HF3.out hf hB.oB)
  clear hI hfr hB hf
  go_wp2_with fail
  refine (give_any w.heap.size g ob [true, true, true] _ [0, 0] (by decide) (by decide) (w4.alloc (.cells #[.int .i64 0, .int .i64 0] 3)) (HB4.out.fr0 ((Fr.refl _ _).alloc _)) (ints_lit w4 _ [0, 0] rfl _ _ _ rfl rfl)).mono ?_
  rintro e w5 ⟨rfl, q5, hB, _, hf⟩
  rw [show gerr [true, true, true] [0, 0] = 1 by decide]
  rw [show gave [true, true, true] [0, 0] = [true, true, true] by decide] at hB
  have HB5 : Hid (BlkP w5 w.heap.size g q5 [true, true, true]) := Lib.hid hB
  have HF5 : Hid (Fr0 w w5) := Lib.hid (fr0_of_fr1 (HF4.out.alloc _) hf hB.gB)
  clear hB hf
  go_wp2_with fail
  refine (give_any w.heap.size g q5 [true, true, true] _ [3] (by decide) (by decide) (w5.alloc (.cells #[.int .i64 3] 3)) (HB5.out.fr0 ((Fr.refl _ _).alloc _)) (ints_lit w5 _ [3] rfl _ _ _ rfl rfl)).mono ?_
  rintro e w6 ⟨rfl, q6, hB, _, hf⟩
  rw [show gerr [true, true, true] [3] = 1 by decide]
  rw [show gave [true, true, true] [3] = [true, true, true] by decide] at hB
  have HB6 : Hid (BlkP w6 w.heap.size g q6 [true, true, true]) := Lib.hid hB
  have HF6 : Hid (Fr0 w w6) := Lib.hid (fr0_of_fr1 (HF5.out.alloc _) hf hB.gB)
  clear hB hf
  go_wp2_with fail
  refine (give_any w.heap.size g q6 [true, true, true] _ [-1] (by decide) (by decide) (w6.alloc (.cells #[.int .i64 (-1)] 3)) (HB6.out.fr0 ((Fr.refl _ _).alloc _)) (ints_lit w6 _ [-1] rfl _ _ _ rfl rfl)).mono ?_
  rintro e w7 ⟨rfl, q7, hB, _, hf⟩
  rw [show gerr [true, true, true] [-1] = 1 by decide]
  rw [show gave [true, true, true] [-1] = [true, true, true] by decide] at hB
  have HB7 : Hid (BlkP w7 w.heap.size g q7 [true, true, true]) := Lib.hid hB
  have HF7 : Hid (Fr0 w w7) := Lib.hid (fr0_of_fr1 (HF6.out.alloc _) hf hB.gB)
  clear hB hf
  go_wp2_with fail
  refine (give_any w.heap.size g q7 [true, true, true] _ [2, 0] (by decide) (by decide) (w7.alloc (.cells #[.int .i64 2, .int .i64 0] 3)) (HB7.out.fr0 ((Fr.refl _ _).alloc _)) (ints_lit w7 _ [2, 0] rfl _ _ _ rfl rfl)).mono ?_
  rintro e w8 ⟨rfl, q8, hB, _, hf⟩
  rw [show gerr [true, true, true] [2, 0] = 0 by decide]
  rw [show gave [true, true, true] [2, 0] = [false, true, false] by decide] at hB
  have HB8 : Hid (BlkP w8 w.heap.size g q8 [false, true, false]) := Lib.hid hB
  have HF8 : Hid (Fr0 w w8) := Lib.hid (fr0_of_fr1 (HF7.out.alloc _) hf hB.gB)
  clear hB hf
  go_wp2_with fail
  refine (give_any w.heap.size g q8 [false, true, false] _ [0] (by decide) (by decide) (w8.alloc (.cells #[.int .i64 0] 3)) (HB8.out.fr0 ((Fr.refl _ _).alloc _)) (ints_lit w8 _ [0] rfl _ _ _ rfl rfl)).mono ?_
  rintro e w9 ⟨rfl, q9, hB, _, hf⟩
  rw [show gerr [false, true, false] [0] = 1 by decide]
  rw [show gave [false, true, false] [0] = [false, true, false] by decide] at hB
  have HB9 : Hid (BlkP w9 w.heap.size g q9 [false, true, false]) := Lib.hid hB
  have HF9 : Hid (Fr0 w w9) := Lib.hid (fr0_of_fr1 (HF8.out.alloc _) hf hB.gB)
  clear hB hf
  go_wp2_with fail
  refine (take_any w.heap.size g q9 [false, true, false] (1) (by decide) w9 HB9.out).mono ?_
  rintro e w10 ⟨v10, rfl, hI, hfr, hB, hf⟩
  rw [show terr [false, true, false] (1) = 0 by decide]
  rw [show nints (tout [false, true, false] (1)) = [0] by decide] at hI
  rw [show took [false, true, false] (1) = [true, true, false] by decide] at hB
  have HB10 : Hid (BlkP w10 w.heap.size g q9 [true, true, false]) := Lib.hid hB
  have HF10 : Hid (Fr0 w w10) := Lib.hid (fr0_of_fr1 HF9.out hf hB.oB)
  have Hh := Lib.hid hI
  have HhN : Hid (∀ a n c, v10 = .slice (some a) n c → a.block ≠ q9) := Lib.hid (fun a n c hv e => by have h1 := hfr a n c hv; have h2 := HB9.out.ob_lt; omega)
  clear hI hfr hB hf
  go_wp2_with fail
  refine (take_any w.heap.size g q9 [true, true, false] (0) (by decide) w10 HB10.out).mono ?_
  rintro e w11 ⟨v11, rfl, hI, hfr, hB, hf⟩
  rw [show terr [true, true, false] (0) = 0 by decide]
  rw [show nints (tout [true, true, false] (0)) = [] by decide] at hI
  rw [show took [true, true, false] (0) = [true, true, false] by decide] at hB
  have HB11 : Hid (BlkP w11 w.heap.size g q9 [true, true, false]) := Lib.hid hB
  have HF11 : Hid (Fr0 w w11) := Lib.hid (fr0_of_fr1 HF10.out hf hB.oB)
  have Hj := Lib.hid hI
  have HjN : Hid (∀ a n c, v11 = .slice (some a) n c → a.block ≠ q9) := Lib.hid (fun a n c hv e => by have h1 := hfr a n c hv; have h2 := HB10.out.ob_lt; omega)
  have Hh := Lib.hid (ints_fr Hh.out hf HhN.out)
  clear hI hfr hB hf
  obtain ⟨jA, jC, _, _, rfl, _⟩ := Hj.out
  rw [show ([] : List Int).length = 0 from rfl]
  go_wp2_with fail
  refine (alike_any _ _ [0] [0] (by decide) (by decide) (w11.alloc (.cells #[.int .i64 0] 3)) (Hh.out.fr0 ((Fr.refl _ _).alloc _)) (ints_lit w11 _ [0] rfl _ _ _ rfl rfl)).mono ?_
  rintro e w12 ⟨rfl, hf⟩
  rw [show decide (([0] : List Int) = [0]) = true by decide]
  have hf2 : Fr0 w11 w12 := ((Fr.refl _ _).alloc _).trans' hf
  have HF12 : Hid (Fr0 w w12) := Lib.hid (HF11.out.trans' hf2)
  have HB12 : Hid (BlkP w12 w.heap.size g q9 [true, true, false]) := Lib.hid (HB11.out.fr0 hf2)
  clear hf hf2
  go_wp2_with fail
  refine (list_any w.heap.size g q9 [true, true, false] w12 HB12.out).mono ?_
  rintro e w13 ⟨vl, rfl, hI, hf, _⟩
  rw [show nints (outs [true, true, false]) = [0, 1] by decide] at hI
  have HL := Lib.hid hI
  have HF13 : Hid (Fr0 w w13) := Lib.hid (HF12.out.trans' hf)
  have HB13 : Hid (BlkP w13 w.heap.size g q9 [true, true, false]) := Lib.hid (HB12.out.fr0 hf)
  clear hI hf
  go_wp2_with fail
  refine (alike_any _ _ [0, 1] [0, 1] (by decide) (by decide) (w13.alloc (.cells #[.int .i64 0, .int .i64 1] 3)) (HL.out.fr0 ((Fr.refl _ _).alloc _)) (ints_lit w13 _ [0, 1] rfl _ _ _ rfl rfl)).mono ?_
  rintro e w14 ⟨rfl, hf⟩
  rw [show decide (([0, 1] : List Int) = [0, 1]) = true by decide]
  have hf2 : Fr0 w13 w14 := ((Fr.refl _ _).alloc _).trans' hf
  have HF14 : Hid (Fr0 w w14) := Lib.hid (HF13.out.trans' hf2)
  have HB14 : Hid (BlkP w14 w.heap.size g q9 [true, true, false]) := Lib.hid (HB13.out.fr0 hf2)
  clear hf hf2
  go_wp2_with fail
  refine (new_any (-5) (by decide) w14).mono ?_
  rintro e w15 ⟨g15, ob15, rfl, hB, hf⟩
  have HN := Lib.hid hB
  have HF15 : Hid (Fr0 w w15) := Lib.hid (HF14.out.trans' hf)
  clear hB hf
  go_wp2_with fail
  refine (all_any _ g15 ob15 _ w15 HN.out).mono ?_
  rintro e wz ⟨rfl, hz⟩
  obtain rfl : w15 = wz := hz.symm
  rw [List.length_replicate, show whole (-5) = 0 by decide, show ((0 : Nat) : Int) = 0 from rfl]
  clear HN
  go_wp2_with fail
  refine (new_any (31) (by decide) w15).mono ?_
  rintro e w16 ⟨g16, ob16, rfl, hB, hf⟩
  have HN := Lib.hid hB
  have HF16 : Hid (Fr0 w w16) := Lib.hid (HF15.out.trans' hf)
  clear hB hf
  go_wp2_with fail
  refine (all_any _ g16 ob16 _ w16 HN.out).mono ?_
  rintro e wz ⟨rfl, hz⟩
  obtain rfl : w16 = wz := hz.symm
  rw [List.length_replicate, show whole (31) = 0 by decide, show ((0 : Nat) : Int) = 0 from rfl]
  clear HN
  go_wp2_with fail
  refine (new_any (1099511627776) (by decide) w16).mono ?_
  rintro e w17 ⟨g17, ob17, rfl, hB, hf⟩
  have HN := Lib.hid hB
  have HF17 : Hid (Fr0 w w17) := Lib.hid (HF16.out.trans' hf)
  clear hB hf
  go_wp2_with fail
  refine (all_any _ g17 ob17 _ w17 HN.out).mono ?_
  rintro e wz ⟨rfl, hz⟩
  obtain rfl : w17 = wz := hz.symm
  rw [List.length_replicate, show whole (1099511627776) = 2048 by decide, show ((2048 : Nat) : Int) = 2048 from rfl]
  clear HN
  go_wp2_with fail
  refine (need_any (0) (by decide) w17).mono ?_
  rintro e wz ⟨rfl, hz⟩
  obtain rfl : w17 = wz := hz.symm
  rw [show needs (0) = 0 by decide]
  go_wp2_with fail
  refine (need_any (-7) (by decide) w17).mono ?_
  rintro e wz ⟨rfl, hz⟩
  obtain rfl : w17 = wz := hz.symm
  rw [show needs (-7) = 0 by decide]
  go_wp2_with fail
  refine (need_any (1) (by decide) w17).mono ?_
  rintro e wz ⟨rfl, hz⟩
  obtain rfl : w17 = wz := hz.symm
  rw [show needs (1) = 1 by decide]
  go_wp2_with fail
  refine (need_any (32) (by decide) w17).mono ?_
  rintro e wz ⟨rfl, hz⟩
  obtain rfl : w17 = wz := hz.symm
  rw [show needs (32) = 1 by decide]
  go_wp2_with fail
  refine (need_any (33) (by decide) w17).mono ?_
  rintro e wz ⟨rfl, hz⟩
  obtain rfl : w17 = wz := hz.symm
  rw [show needs (33) = 2 by decide]
  go_wp2
  go_ret
  exact ⟨rfl, HF17.out⟩
end Go.Proofs.Ytagniipldmagdaa.Blocks
