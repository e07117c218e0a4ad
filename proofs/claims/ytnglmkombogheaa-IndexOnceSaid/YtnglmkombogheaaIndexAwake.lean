/-
  What the document tells of a row that comes again.
-/
import Derived.Test.YtnglmkombogheaaIndexB
namespace Go.Proofs.Ytnglmkombogheaa.Index
open Go.RowKit Base
open _root_.Go.Proofs.Ytnglmkombogheaa.Ord (Grown ptr)

section
variable {B : Nat} {w w0 : World} {g : Nat} {L : List En}
theorem add_lit (x : En) (r : Int) (L' : List En) (h1 : addErr L x = r) (h2 : addSt L x = L') (h : IxB B w g L) (h0 : Fr0 w0 w) (hB : w0.heap.size = B) (hk : x.k.size ≤ 140737488351232) (hs : x.s.size ≤ 140737488351232) :
    Calls Try.prog 8 #[.pointer (some ⟨g, 0, none⟩), .agg (e5 x)] w fun e w' => e = .returned (.int .i64 r) ∧ IxB B w' g L' ∧ Fr0 w0 w' := by
  have := add_B x h h0 hB hk hs
  rwa [h1, h2] at this
theorem drop_lit (r : Int) (hr : inI64 r) (x : En) (b : Bool) (L' : List En) (h1 : atX L r = x) (h2 : isRow L r = b) (h3 : dropSt L r = L') (h : IxB B w g L) (h0 : Fr0 w0 w) (hB : w0.heap.size = B) :
    Calls Try.prog 14 #[.pointer (some ⟨g, 0, none⟩), .int .i64 r] w fun e w' => e = .returned (.tuple #[.agg (e5 x), .bool b]) ∧ IxB B w' g L' ∧ Fr0 w0 w' := by
  have := drop_B r hr h h0 hB
  rwa [h1, h2, h3] at this
theorem set_lit (r : Int) (hr : inI64 r) (u b : Bool) (L' : List En) (h2 : isRow L r = b) (h3 : setSt L r u = L') (h : IxB B w g L) (h0 : Fr0 w0 w) (hB : w0.heap.size = B) :
    Calls Try.prog 11 #[.pointer (some ⟨g, 0, none⟩), .int .i64 r, .bool u] w fun e w' => e = .returned (.bool b) ∧ IxB B w' g L' ∧ Fr0 w0 w' := by
  have := set_B r hr u h h0 hB
  rwa [h2, h3] at this
theorem touch_lit (k : ByteArray) (b : Bool) (L' : List En) (h2 : hasX k L = b) (h3 : touchSt L k = L') (h : IxB B w g L) (h0 : Fr0 w0 w) (hB : w0.heap.size = B) :
    Calls Try.prog 10 #[.pointer (some ⟨g, 0, none⟩), .string k] w fun e w' => e = .returned (.bool b) ∧ IxB B w' g L' ∧ Fr0 w0 w' := by
  have := touch_B k h h0 hB
  rwa [h2, h3] at this
theorem find_lit (k : ByteArray) (r : Nat) (b : Bool) (h1 : findX k L = r) (h2 : hasX k L = b) (h : IxB B w g L) (h0 : Fr0 w0 w) :
    Calls Try.prog 17 #[.pointer (some ⟨g, 0, none⟩), .string k] w fun e w' => e = .returned (.tuple #[.int .i64 (r : Int), .bool b]) ∧ IxB B w' g L ∧ Fr0 w0 w' := by
  have := find_B k h h0
  rwa [h1, h2] at this
theorem at_lit (r : Int) (hr : inI64 r) (x : En) (b : Bool) (h1 : atX L r = x) (h2 : isRow L r = b) (h : IxB B w g L) (h0 : Fr0 w0 w) :
    Calls Try.prog 12 #[.pointer (some ⟨g, 0, none⟩), .int .i64 r] w fun e w' => e = .returned (.tuple #[.agg (e5 x), .bool b]) ∧ IxB B w' g L ∧ Fr0 w0 w' := by
  have := at_B r hr h h0
  rw [h1, h2] at this
  exact this.mono fun e w' ⟨h1, h2, h3, _⟩ => ⟨h1, h2, h3⟩
end
set_option maxHeartbeats 4000000 in
theorem awake_any (w : World) : Calls Try.prog 6 #[] w fun e w' => e = .returned (.bool true) ∧ Fr0 w w' := by
  go_enter Try.func6, Try.ntmps6
  have HC1 := Lib.hid (new_B w.heap.size w w (Fr.refl _ _) rfl)
  go_wp2_with fail
  refine HC1.out.mono ?_
  rintro e w1 ⟨g, rfl, hI, hF⟩
  have HI1 : Hid (IxB w.heap.size w1 g []) := Lib.hid hI
  have HF1 := Lib.hid hF
  clear hI hF HC1
  have HC2 := Lib.hid (add_lit (L := []) (⟨⟨#[97]⟩, ⟨#[]⟩, 0, 0, false⟩ : En) 0 [(⟨⟨#[97]⟩, ⟨#[]⟩, 0, 0, false⟩ : En)] rfl rfl HI1.out HF1.out rfl (by decide) (by decide))
  go_wp2_with fail
  refine HC2.out.mono ?_
  rintro e w2 ⟨rfl, hI, hF⟩
  have HI2 : Hid (IxB w.heap.size w2 g [(⟨⟨#[97]⟩, ⟨#[]⟩, 0, 0, false⟩ : En)]) := Lib.hid hI
  have HF2 := Lib.hid hF
  clear hI hF HC2
  clear HI1 HF1
  have HC3 := Lib.hid (add_lit (L := [(⟨⟨#[97]⟩, ⟨#[]⟩, 0, 0, false⟩ : En)]) (⟨⟨#[98]⟩, ⟨#[]⟩, 0, 0, false⟩ : En) 0 [(⟨⟨#[97]⟩, ⟨#[]⟩, 0, 0, false⟩ : En), (⟨⟨#[98]⟩, ⟨#[]⟩, 0, 0, false⟩ : En)] rfl rfl HI2.out HF2.out rfl (by decide) (by decide))
  go_wp2_with fail
  refine HC3.out.mono ?_
  rintro e w3 ⟨rfl, hI, hF⟩
  have HI3 : Hid (IxB w.heap.size w3 g [(⟨⟨#[97]⟩, ⟨#[]⟩, 0, 0, false⟩ : En), (⟨⟨#[98]⟩, ⟨#[]⟩, 0, 0, false⟩ : En)]) := Lib.hid hI
  have HF3 := Lib.hid hF
  clear hI hF HC3
  clear HI2 HF2
  have HC4 := Lib.hid (drop_lit (L := [(⟨⟨#[97]⟩, ⟨#[]⟩, 0, 0, false⟩ : En), (⟨⟨#[98]⟩, ⟨#[]⟩, 0, 0, false⟩ : En)]) 0 (by unfold inI64; omega) (⟨⟨#[97]⟩, ⟨#[]⟩, 0, 0, false⟩ : En) true [zeroE, (⟨⟨#[98]⟩, ⟨#[]⟩, 0, 0, false⟩ : En)] rfl rfl rfl HI3.out HF3.out rfl)
  go_wp2_with fail
  refine HC4.out.mono ?_
  rintro e w4 ⟨rfl, hI, hF⟩
  have HI4 : Hid (IxB w.heap.size w4 g [zeroE, (⟨⟨#[98]⟩, ⟨#[]⟩, 0, 0, false⟩ : En)]) := Lib.hid hI
  have HF4 := Lib.hid hF
  clear hI hF HC4
  clear HI3 HF3
  have HC5 := Lib.hid (add_lit (L := [zeroE, (⟨⟨#[98]⟩, ⟨#[]⟩, 0, 0, false⟩ : En)]) (⟨⟨#[99]⟩, ⟨#[]⟩, 0, 0, false⟩ : En) 0 [(⟨⟨#[99]⟩, ⟨#[]⟩, 0, 0, false⟩ : En), (⟨⟨#[98]⟩, ⟨#[]⟩, 0, 0, false⟩ : En)] rfl rfl HI4.out HF4.out rfl (by decide) (by decide))
  go_wp2_with fail
  refine HC5.out.mono ?_
  rintro e w5 ⟨rfl, hI, hF⟩
  have HI5 : Hid (IxB w.heap.size w5 g [(⟨⟨#[99]⟩, ⟨#[]⟩, 0, 0, false⟩ : En), (⟨⟨#[98]⟩, ⟨#[]⟩, 0, 0, false⟩ : En)]) := Lib.hid hI
  have HF5 := Lib.hid hF
  clear hI hF HC5
  clear HI4 HF4
  have HC6 := Lib.hid (find_lit (L := [(⟨⟨#[99]⟩, ⟨#[]⟩, 0, 0, false⟩ : En), (⟨⟨#[98]⟩, ⟨#[]⟩, 0, 0, false⟩ : En)]) ⟨#[99]⟩ 0 true rfl rfl HI5.out HF5.out)
  go_wp2_with fail
  refine HC6.out.mono ?_
  rintro e w6 ⟨rfl, hI, hF⟩
  have HI6 : Hid (IxB w.heap.size w6 g [(⟨⟨#[99]⟩, ⟨#[]⟩, 0, 0, false⟩ : En), (⟨⟨#[98]⟩, ⟨#[]⟩, 0, 0, false⟩ : En)]) := Lib.hid hI
  have HF6 := Lib.hid hF
  clear hI hF HC6
  clear HI5 HF5
  have HC7 := Lib.hid (rows_B HI6.out)
  go_wp2_with fail
  refine HC7.out.mono ?_
  rintro e w7 ⟨rfl, rfl⟩
  have HI7 := HI6
  have HF7 := HF6
  clear HC7 HI6 HF6
  have HF := HF7
  clear HI7
  go_wp2
  go_ret
  exact ⟨rfl, HF.out⟩
end Go.Proofs.Ytnglmkombogheaa.Index
