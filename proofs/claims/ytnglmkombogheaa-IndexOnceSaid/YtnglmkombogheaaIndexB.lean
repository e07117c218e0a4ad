/-
  The contracts in a law's hands: all of the index's blocks are from B on.
-/
import Derived.Test.YtnglmkombogheaaIndexGoD
namespace Go.Proofs.Ytnglmkombogheaa.Index
open Go.RowKit Base
open _root_.Go.Proofs.Ytnglmkombogheaa.Ord (Grown ptr)

abbrev IxE (B E : Nat) (w : World) (g : Nat) (L : List En) : Prop := IxAt (fun k => B ≤ k ∧ k < E) w g L
abbrev IxB (B : Nat) (w : World) (g : Nat) (L : List En) : Prop := IxE B w.heap.size w g L
section
variable {B : Nat} {w w0 : World} {g : Nat} {L : List En}
theorem IxE.fr0 {E : Nat} {w' : World} (h : IxE B E w g L) (hf : Fr0 w w') : IxE B E w' g L := IxAt.fr h hf fun _ _ _ f => f
theorem IxE.turn {E mb : Nat} {w' : World} (h : IxE B E w g L) (hf : Fr (fun k => k = mb) w w') (hm : E ≤ mb) : IxE B E w' g L := IxAt.fr h hf fun k _ hk e => by
  have e' : k = mb := e
  omega
theorem IxB.fr0 {w' : World} (h : IxB B w g L) (hf : Fr0 w w') : IxB B w' g L := (IxE.fr0 h hf).mono fun k hk => ⟨hk.1, Nat.lt_of_lt_of_le hk.2 hf.size⟩
theorem grown_B {w' : World} {k : Nat} (h : Grown (fun k => B ≤ k ∧ k < w.heap.size) w w' k) (hB : B ≤ w.heap.size) (hs : w.heap.size ≤ w'.heap.size) : B ≤ k ∧ k < w'.heap.size := by
  rcases h with h | h
  · exact ⟨h.1, by omega⟩
  · exact ⟨by omega, h.2⟩
theorem fr0_B {E : Nat} {w' : World} (h0 : Fr0 w0 w) (h : Fr (fun k => B ≤ k ∧ k < E) w w') (hB : w0.heap.size ≤ B) : Fr0 w0 w' := Fr.trans h0 h (fun i hi e => by
  have e' : B ≤ i ∧ i < E := e
  omega)
theorem new_B (B : Nat) (w w0 : World) (h0 : Fr0 w0 w) (hB : w0.heap.size = B) :
    Calls Try.prog 7 #[] w fun e w' => ∃ g, e = .returned (.pointer (some ⟨g, 0, none⟩)) ∧ IxB B w' g [] ∧ Fr0 w0 w' :=
  (inew_any w).mono fun e w' ⟨g, he, hI, hF⟩ => ⟨g, he, hI.mono (fun k hk => ⟨by have := h0.size; omega, hk.2⟩), h0.trans' hF⟩
theorem add_B (x : En) (h : IxB B w g L) (h0 : Fr0 w0 w) (hB : w0.heap.size = B) (hk : x.k.size ≤ 140737488351232) (hs : x.s.size ≤ 140737488351232) :
    Calls Try.prog 8 #[.pointer (some ⟨g, 0, none⟩), .agg (e5 x)] w fun e w' => e = .returned (.int .i64 (addErr L x)) ∧ IxB B w' g (addSt L x) ∧ Fr0 w0 w' :=
  (iadd_any _ g L x w h hk hs).mono fun e w' ⟨he, hF, hI⟩ => ⟨he, hI.mono (fun k hk => grown_B hk (by have := h0.size; omega) hF.size), fr0_B h0 hF (by omega)⟩
theorem drop_B (r : Int) (hr : inI64 r) (h : IxB B w g L) (h0 : Fr0 w0 w) (hB : w0.heap.size = B) :
    Calls Try.prog 14 #[.pointer (some ⟨g, 0, none⟩), .int .i64 r] w fun e w' => e = .returned (.tuple #[.agg (e5 (atX L r)), .bool (isRow L r)]) ∧ IxB B w' g (dropSt L r) ∧ Fr0 w0 w' :=
  (idrop_any _ g L r hr w h).mono fun e w' ⟨he, hF, hI⟩ => ⟨he, hI.mono (fun k hk => grown_B hk (by have := h0.size; omega) hF.size), fr0_B h0 hF (by omega)⟩
theorem set_B (r : Int) (hr : inI64 r) (b : Bool) (h : IxB B w g L) (h0 : Fr0 w0 w) (hB : w0.heap.size = B) :
    Calls Try.prog 11 #[.pointer (some ⟨g, 0, none⟩), .int .i64 r, .bool b] w fun e w' => e = .returned (.bool (isRow L r)) ∧ IxB B w' g (setSt L r b) ∧ Fr0 w0 w' :=
  (iset_any _ g L r hr b w h).mono fun e w' ⟨he, hF, hI⟩ => ⟨he, hI.mono (fun k hk => grown_B hk (by have := h0.size; omega) hF.size), fr0_B h0 hF (by omega)⟩
theorem touch_B (k : ByteArray) (h : IxB B w g L) (h0 : Fr0 w0 w) (hB : w0.heap.size = B) :
    Calls Try.prog 10 #[.pointer (some ⟨g, 0, none⟩), .string k] w fun e w' => e = .returned (.bool (hasX k L)) ∧ IxB B w' g (touchSt L k) ∧ Fr0 w0 w' :=
  (itouch_any _ g L k w h).mono fun e w' ⟨he, hF, hI⟩ => ⟨he, hI.mono (fun k hk => grown_B hk (by have := h0.size; omega) hF.size), fr0_B h0 hF (by omega)⟩
theorem find_B (k : ByteArray) (h : IxB B w g L) (h0 : Fr0 w0 w) :
    Calls Try.prog 17 #[.pointer (some ⟨g, 0, none⟩), .string k] w fun e w' => e = .returned (.tuple #[.int .i64 (findX k L : Int), .bool (hasX k L)]) ∧ IxB B w' g L ∧ Fr0 w0 w' :=
  (ifind_any _ g L k w h).mono fun e w' ⟨he, hF⟩ => ⟨he, IxB.fr0 h hF, h0.trans' hF⟩
theorem at_B (r : Int) (hr : inI64 r) (h : IxB B w g L) (h0 : Fr0 w0 w) :
    Calls Try.prog 12 #[.pointer (some ⟨g, 0, none⟩), .int .i64 r] w fun e w' => e = .returned (.tuple #[.agg (e5 (atX L r)), .bool (isRow L r)]) ∧ IxB B w' g L ∧ Fr0 w0 w' ∧ Fr0 w w' :=
  (iat_any _ g L r hr w h).mono fun e w' ⟨he, hF⟩ => ⟨he, IxB.fr0 h hF, h0.trans' hF, hF⟩
theorem rows_B (h : IxB B w g L) :
    Calls Try.prog 15 #[.pointer (some ⟨g, 0, none⟩)] w fun e w' => e = .returned (.int .i64 (L.length : Int)) ∧ w' = w := irows_any _ g L w h
theorem live_B (hs : ∀ x ∈ L, 0 ≤ x.sz ∧ x.sz ≤ 1099511627776) (h : IxB B w g L) (h0 : Fr0 w0 w) :
    Calls Try.prog 13 #[.pointer (some ⟨g, 0, none⟩)] w fun e w' => e = .returned (.int .i64 (liveX L)) ∧ IxB B w' g L ∧ Fr0 w0 w' ∧ Fr0 w w' :=
  (ilive_any _ g L hs w h).mono fun e w' ⟨he, hF⟩ => ⟨he, IxB.fr0 h hF, h0.trans' hF, hF⟩
theorem of_B (s : ByteArray) (h : IxB B w g L) (h0 : Fr0 w0 w) :
    Calls Try.prog 9 #[.pointer (some ⟨g, 0, none⟩), .string s] w fun e w' => ∃ A C, e = .returned (.slice A (ofX s L).length C) ∧ IntsIs w' (.slice A (ofX s L).length C) ((ofX s L).map fun i : Nat => (i : Int)) ∧ IxB B w' g L ∧ Fr0 w0 w' ∧ Fr0 w w' :=
  (iof_any _ g L s w h).mono fun e w' ⟨v, he, hv, hF, _⟩ => by
    obtain ⟨a, cap, pb, po, hv2, hr⟩ := hv
    rw [List.length_map] at hv2
    subst hv2
    exact ⟨a, cap, he, ⟨a, cap, pb, po, by rw [List.length_map], hr⟩, IxB.fr0 h hF, h0.trans' hF, hF⟩
theorem find_E {E : Nat} (k : ByteArray) (h : IxE B E w g L) :
    Calls Try.prog 17 #[.pointer (some ⟨g, 0, none⟩), .string k] w fun e w' => e = .returned (.tuple #[.int .i64 (findX k L : Int), .bool (hasX k L)]) ∧ Fr0 w w' := ifind_any _ g L k w h
theorem at_E {E : Nat} (r : Int) (hr : inI64 r) (h : IxE B E w g L) :
    Calls Try.prog 12 #[.pointer (some ⟨g, 0, none⟩), .int .i64 r] w fun e w' => e = .returned (.tuple #[.agg (e5 (atX L r)), .bool (isRow L r)]) ∧ Fr0 w w' := iat_any _ g L r hr w h
theorem rows_E {E : Nat} (h : IxE B E w g L) :
    Calls Try.prog 15 #[.pointer (some ⟨g, 0, none⟩)] w fun e w' => e = .returned (.int .i64 (L.length : Int)) ∧ w' = w := irows_any _ g L w h
theorem live_E {E : Nat} (hs : ∀ x ∈ L, 0 ≤ x.sz ∧ x.sz ≤ 1099511627776) (h : IxE B E w g L) :
    Calls Try.prog 13 #[.pointer (some ⟨g, 0, none⟩)] w fun e w' => e = .returned (.int .i64 (liveX L)) ∧ Fr0 w w' := ilive_any _ g L hs w h
theorem of_E {E : Nat} (s : ByteArray) (h : IxE B E w g L) :
    Calls Try.prog 9 #[.pointer (some ⟨g, 0, none⟩), .string s] w fun e w' => ∃ A C, e = .returned (.slice A (ofX s L).length C) ∧ Fr0 w w' :=
  (iof_any _ g L s w h).mono fun e w' ⟨v, he, hv, hF, _⟩ => by
    obtain ⟨a, cap, pb, po, hv2, hr⟩ := hv
    rw [List.length_map] at hv2
    subst hv2
    exact ⟨a, cap, he, hF⟩
end
end Go.Proofs.Ytnglmkombogheaa.Index
