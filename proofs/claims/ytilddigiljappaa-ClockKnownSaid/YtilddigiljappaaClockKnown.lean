/-
  What the chapter says of none, of ends, of what may not be.
-/
import Derived.Test.YtilddigiljappaaClockGo
import Derived.Test.YtilddigiljappaaClockAlike
import Derived.Test.YtilddigiljappaaClockAwake
namespace Go.Proofs.Ytilddigiljappaa.Clock
open Go.RowKit Base


theorem order_lit (v : Value) (d : List Int) (h : Int) (m : List Int) (n : Nat) (ho : ((orderS d h).map fun i : Nat => (i : Int)) = m) (hn : m.length = n) (hl : d.length ≤ 100) (hd : ∀ x ∈ d, -100 ≤ x ∧ x ≤ 100) (hh : I64 h) (w : World) (hI : IntsIs w v d) :
    Calls Try.prog 10 #[v, .int .i64 h] w fun e w' => ∃ A C, e = .returned (.slice A n C) ∧ IntsIs w' (.slice A n C) m ∧ Fr0 w w' :=
  (porder_any v d h (by omega) (i64_list hd) hh w hI).mono fun e w' ⟨mv, he, hI, hF⟩ => by
    rw [ho] at hI
    obtain ⟨A, C, rfl⟩ := ints_form hI
    rw [hn] at he hI
    exact ⟨A, C, he, hI, hF⟩
theorem good_none (h : Int) (b : Bool) (hb : goodD [] h = b) (hh : I64 h) (w : World) :
    Calls Try.prog 11 #[.slice none 0 0, .int .i64 h] w fun e w' => e = .returned (.bool b) ∧ Fr0 w w' := by
  have := pgood_any (.slice none 0 0) [] h (by decide) (fun x hx => by cases hx) hh w (IntsIs.nil w)
  rwa [hb] at this
set_option maxRecDepth 100000 in
set_option maxHeartbeats 8000000 in
theorem clockKnown_walk (w : World) : Calls Try.prog 3 #[] w fun e w' => e = .returned (.bool true) ∧ Fr0 w w' := by
  go_enter Try.func3, Try.ntmps3
  go_wp2_with fail
  refine (awake_any w).mono ?_
  rintro e w0 ⟨rfl, hF⟩
  have HF0 := Lib.hid hF
  clear hF
  have HC1 := Lib.hid (next_lit (.slice none 0 0) [] 0 0 [] 0 0 false (by decide +kernel) (by decide +kernel) rfl (by decide) (by decide) (by decide) w0 (IntsIs.nil _))
  go_wp2_with fail
  refine HC1.out.mono ?_
  rintro e w1 ⟨A1, C1, rfl, hI, hF⟩
  have HF1 : Hid (Fr0 w w1) := Lib.hid (HF0.out.trans' hF)
  have HG1 : Hid (Fr0 w0 w1) := Lib.hid hF
  clear hI hF HC1
  have HC2 := Lib.hid (next_lit _ [0, 0] 1 0 [] 0 0 false (by decide +kernel) (by decide +kernel) rfl (by decide) (by decide) (by decide) (w1.alloc (.cells #[.int .i64 0, .int .i64 0] 3)) (ints_lit w1 #[.int .i64 0, .int .i64 0] [0, 0] rfl 3 _ 2 rfl rfl))
  go_wp2_with fail
  refine HC2.out.mono ?_
  rintro e w2 ⟨A2, C2, rfl, hI, hF⟩
  have HF2 : Hid (Fr0 w w2) := Lib.hid (HF1.out.trans' (((Fr.refl (fun _ => False) w1).alloc (.cells #[.int .i64 0, .int .i64 0] 3)).trans' hF))
  have HG2 : Hid (Fr0 w1 w2) := Lib.hid (((Fr.refl (fun _ => False) w1).alloc (.cells #[.int .i64 0, .int .i64 0] 3)).trans' hF)
  clear hI hF HC2
  have HC3 := Lib.hid (next_lit _ [3] 0 0 [] 0 0 false (by decide +kernel) (by decide +kernel) rfl (by decide) (by decide) (by decide) (w2.alloc (.cells #[.int .i64 3] 3)) (ints_lit w2 #[.int .i64 3] [3] rfl 3 _ 1 rfl rfl))
  go_wp2_with fail
  refine HC3.out.mono ?_
  rintro e w3 ⟨A3, C3, rfl, hI, hF⟩
  have HF3 : Hid (Fr0 w w3) := Lib.hid (HF2.out.trans' (((Fr.refl (fun _ => False) w2).alloc (.cells #[.int .i64 3] 3)).trans' hF))
  have HG3 : Hid (Fr0 w2 w3) := Lib.hid (((Fr.refl (fun _ => False) w2).alloc (.cells #[.int .i64 3] 3)).trans' hF)
  clear hI hF HC3
  have HC4 := Lib.hid (next_lit _ [1] 2 0 [] 0 0 false (by decide +kernel) (by decide +kernel) rfl (by decide) (by decide) (by decide) (w3.alloc (.cells #[.int .i64 1] 3)) (ints_lit w3 #[.int .i64 1] [1] rfl 3 _ 1 rfl rfl))
  go_wp2_with fail
  refine HC4.out.mono ?_
  rintro e w4 ⟨A4, C4, rfl, hI, hF⟩
  have HF4 : Hid (Fr0 w w4) := Lib.hid (HF3.out.trans' (((Fr.refl (fun _ => False) w3).alloc (.cells #[.int .i64 1] 3)).trans' hF))
  have HG4 : Hid (Fr0 w3 w4) := Lib.hid (((Fr.refl (fun _ => False) w3).alloc (.cells #[.int .i64 1] 3)).trans' hF)
  clear hI hF HC4
  have HC5 := Lib.hid (next_lit _ [1] (-1) 0 [] 0 0 false (by decide +kernel) (by decide +kernel) rfl (by decide) (by decide) (by decide) (w4.alloc (.cells #[.int .i64 1] 3)) (ints_lit w4 #[.int .i64 1] [1] rfl 3 _ 1 rfl rfl))
  go_wp2_with fail
  refine HC5.out.mono ?_
  rintro e w5 ⟨A5, C5, rfl, hI, hF⟩
  have HF5 : Hid (Fr0 w w5) := Lib.hid (HF4.out.trans' (((Fr.refl (fun _ => False) w4).alloc (.cells #[.int .i64 1] 3)).trans' hF))
  have HG5 : Hid (Fr0 w4 w5) := Lib.hid (((Fr.refl (fun _ => False) w4).alloc (.cells #[.int .i64 1] 3)).trans' hF)
  clear hI hF HC5
  have HC6 := Lib.hid (next_lit _ [1, 2] 2 0 [0, 2] 2 1 true (by decide +kernel) (by decide +kernel) rfl (by decide) (by decide) (by decide) (w5.alloc (.cells #[.int .i64 1, .int .i64 2] 3)) (ints_lit w5 #[.int .i64 1, .int .i64 2] [1, 2] rfl 3 _ 2 rfl rfl))
  go_wp2_with fail
  refine HC6.out.mono ?_
  rintro e w6 ⟨A6, C6, rfl, hI, hF⟩
  have HF6 : Hid (Fr0 w w6) := Lib.hid (HF5.out.trans' (((Fr.refl (fun _ => False) w5).alloc (.cells #[.int .i64 1, .int .i64 2] 3)).trans' hF))
  have HG6 : Hid (Fr0 w5 w6) := Lib.hid (((Fr.refl (fun _ => False) w5).alloc (.cells #[.int .i64 1, .int .i64 2] 3)).trans' hF)
  have HI6 := Lib.hid hI
  clear hI hF HC6
  have HC7 := Lib.hid (next_lit _ [2, 2] 1 1 [1, 0] 2 0 true (by decide +kernel) (by decide +kernel) rfl (by decide) (by decide) (by decide) (w6.alloc (.cells #[.int .i64 2, .int .i64 2] 3)) (ints_lit w6 #[.int .i64 2, .int .i64 2] [2, 2] rfl 3 _ 2 rfl rfl))
  go_wp2_with fail
  refine HC7.out.mono ?_
  rintro e w7 ⟨A7, C7, rfl, hI, hF⟩
  have HF7 : Hid (Fr0 w w7) := Lib.hid (HF6.out.trans' (((Fr.refl (fun _ => False) w6).alloc (.cells #[.int .i64 2, .int .i64 2] 3)).trans' hF))
  have HG7 : Hid (Fr0 w6 w7) := Lib.hid (((Fr.refl (fun _ => False) w6).alloc (.cells #[.int .i64 2, .int .i64 2] 3)).trans' hF)
  have HI6 := Lib.hid (HI6.out.fr0 HG7.out)
  have HI7 := Lib.hid hI
  clear hI hF HC7
  have HC8 := Lib.hid (next_lit _ [1, 0, 1] 1 2 [1, 0, 0] 3 0 true (by decide +kernel) (by decide +kernel) rfl (by decide) (by decide) (by decide) (w7.alloc (.cells #[.int .i64 1, .int .i64 0, .int .i64 1] 3)) (ints_lit w7 #[.int .i64 1, .int .i64 0, .int .i64 1] [1, 0, 1] rfl 3 _ 3 rfl rfl))
  go_wp2_with fail
  refine HC8.out.mono ?_
  rintro e w8 ⟨A8, C8, rfl, hI, hF⟩
  have HF8 : Hid (Fr0 w w8) := Lib.hid (HF7.out.trans' (((Fr.refl (fun _ => False) w7).alloc (.cells #[.int .i64 1, .int .i64 0, .int .i64 1] 3)).trans' hF))
  have HG8 : Hid (Fr0 w7 w8) := Lib.hid (((Fr.refl (fun _ => False) w7).alloc (.cells #[.int .i64 1, .int .i64 0, .int .i64 1] 3)).trans' hF)
  have HI6 := Lib.hid (HI6.out.fr0 HG8.out)
  have HI7 := Lib.hid (HI7.out.fr0 HG8.out)
  have HI8 := Lib.hid hI
  clear hI hF HC8
  have HC9 := Lib.hid (alike_any (.slice A6 2 C6) _ [0, 2] [0, 2] (by decide) (i64_list (by decide)) _ (HI6.out.fr0 ((Fr.refl _ _).alloc _)) (ints_lit w8 #[.int .i64 0, .int .i64 2] [0, 2] rfl 3 _ 2 rfl rfl))
  go_wp2_with fail
  refine HC9.out.mono ?_
  rintro e w9 ⟨rfl, hF⟩
  have HF9 : Hid (Fr0 w w9) := Lib.hid (HF8.out.trans' (((Fr.refl (fun _ => False) w8).alloc (.cells #[.int .i64 0, .int .i64 2] 3)).trans' hF))
  have HG9 : Hid (Fr0 w8 w9) := Lib.hid (((Fr.refl (fun _ => False) w8).alloc (.cells #[.int .i64 0, .int .i64 2] 3)).trans' hF)
  have HI6 := Lib.hid (HI6.out.fr0 HG9.out)
  have HI7 := Lib.hid (HI7.out.fr0 HG9.out)
  have HI8 := Lib.hid (HI8.out.fr0 HG9.out)
  clear hF HC9
  have HC10 := Lib.hid (alike_any (.slice A7 2 C7) _ [1, 0] [1, 0] (by decide) (i64_list (by decide)) _ (HI7.out.fr0 ((Fr.refl _ _).alloc _)) (ints_lit w9 #[.int .i64 1, .int .i64 0] [1, 0] rfl 3 _ 2 rfl rfl))
  go_wp2_with fail
  refine HC10.out.mono ?_
  rintro e w10 ⟨rfl, hF⟩
  have HF10 : Hid (Fr0 w w10) := Lib.hid (HF9.out.trans' (((Fr.refl (fun _ => False) w9).alloc (.cells #[.int .i64 1, .int .i64 0] 3)).trans' hF))
  have HG10 : Hid (Fr0 w9 w10) := Lib.hid (((Fr.refl (fun _ => False) w9).alloc (.cells #[.int .i64 1, .int .i64 0] 3)).trans' hF)
  have HI6 := Lib.hid (HI6.out.fr0 HG10.out)
  have HI7 := Lib.hid (HI7.out.fr0 HG10.out)
  have HI8 := Lib.hid (HI8.out.fr0 HG10.out)
  clear hF HC10
  have HC11 := Lib.hid (alike_any (.slice A8 3 C8) _ [1, 0, 0] [1, 0, 0] (by decide) (i64_list (by decide)) _ (HI8.out.fr0 ((Fr.refl _ _).alloc _)) (ints_lit w10 #[.int .i64 1, .int .i64 0, .int .i64 0] [1, 0, 0] rfl 3 _ 3 rfl rfl))
  go_wp2_with fail
  refine HC11.out.mono ?_
  rintro e w11 ⟨rfl, hF⟩
  have HF11 : Hid (Fr0 w w11) := Lib.hid (HF10.out.trans' (((Fr.refl (fun _ => False) w10).alloc (.cells #[.int .i64 1, .int .i64 0, .int .i64 0] 3)).trans' hF))
  have HG11 : Hid (Fr0 w10 w11) := Lib.hid (((Fr.refl (fun _ => False) w10).alloc (.cells #[.int .i64 1, .int .i64 0, .int .i64 0] 3)).trans' hF)
  have HI6 := Lib.hid (HI6.out.fr0 HG11.out)
  have HI7 := Lib.hid (HI7.out.fr0 HG11.out)
  have HI8 := Lib.hid (HI8.out.fr0 HG11.out)
  clear hF HC11
  have HC12 := Lib.hid (order_lit _ [2, 1, 0, 1] 0 [1, 3, 0] 3 (by decide +kernel) rfl (by decide) (by decide) (by decide) _ (ints_lit w11 #[.int .i64 2, .int .i64 1, .int .i64 0, .int .i64 1] [2, 1, 0, 1] rfl 3 _ 4 rfl rfl))
  go_wp2_with fail
  refine HC12.out.mono ?_
  rintro e w12 ⟨A12, C12, rfl, hI, hF⟩
  have HF12 : Hid (Fr0 w w12) := Lib.hid (HF11.out.trans' (((Fr.refl (fun _ => False) w11).alloc (.cells #[.int .i64 2, .int .i64 1, .int .i64 0, .int .i64 1] 3)).trans' hF))
  have HI12 := Lib.hid hI
  clear hI hF HC12
  have HC13 := Lib.hid (alike_any (.slice A12 3 C12) _ [1, 3, 0] [1, 3, 0] (by decide) (i64_list (by decide)) _ (HI12.out.fr0 ((Fr.refl _ _).alloc _)) (ints_lit w12 #[.int .i64 1, .int .i64 3, .int .i64 0] [1, 3, 0] rfl 3 _ 3 rfl rfl))
  go_wp2_with fail
  refine HC13.out.mono ?_
  rintro e w13 ⟨rfl, hF⟩
  have HF13 : Hid (Fr0 w w13) := Lib.hid (HF12.out.trans' (((Fr.refl (fun _ => False) w12).alloc (.cells #[.int .i64 1, .int .i64 3, .int .i64 0] 3)).trans' hF))
  have HG13 : Hid (Fr0 w12 w13) := Lib.hid (((Fr.refl (fun _ => False) w12).alloc (.cells #[.int .i64 1, .int .i64 3, .int .i64 0] 3)).trans' hF)
  have HI12 := Lib.hid (HI12.out.fr0 HG13.out)
  clear hF HC13
  have HC14 := Lib.hid (order_lit _ [5] 0 [] 0 (by decide +kernel) rfl (by decide) (by decide) (by decide) _ (ints_lit w13 #[.int .i64 5] [5] rfl 3 _ 1 rfl rfl))
  go_wp2_with fail
  refine HC14.out.mono ?_
  rintro e w14 ⟨A14, C14, rfl, hI, hF⟩
  have HF14 : Hid (Fr0 w w14) := Lib.hid (HF13.out.trans' (((Fr.refl (fun _ => False) w13).alloc (.cells #[.int .i64 5] 3)).trans' hF))
  have HI14 := Lib.hid hI
  clear hI hF HC14
  have HC15 := Lib.hid (good_none 0 true (by decide +kernel) (by decide) w14)
  go_wp2_with fail
  refine HC15.out.mono ?_
  rintro e w15 ⟨rfl, hF⟩
  have HF15 : Hid (Fr0 w w15) := Lib.hid (HF14.out.trans' hF)
  clear hF HC15
  have HC16 := Lib.hid (good_none 1 false (by decide +kernel) (by decide) w15)
  go_wp2_with fail
  refine HC16.out.mono ?_
  rintro e w16 ⟨rfl, hF⟩
  have HF16 : Hid (Fr0 w w16) := Lib.hid (HF15.out.trans' hF)
  clear hF HC16
  go_wp2
  go_ret
  exact ⟨rfl, HF16.out⟩
end Go.Proofs.Ytilddigiljappaa.Clock
