/-
  What the laws of ord ask first.
-/
import Derived.Test.YtefebimnebpodaaOrdInt
namespace Go.Proofs.Ytefebimnebpodaa.Ord
open Go.RowKit Base

/-- an own row of strings, to be read -/
theorem own_names {w : World} {base b n c : Nat} {es : List Ent} (h : w.ownsRow base 9 1 (.slice (some ⟨b, 0, none⟩) n c) n (es.map fun e => .string e.1)) (i : Nat) (e : Ent) (he : es[i]? = some e) : w.cell? ⟨b, i, none⟩ = some (.string e.1) := by
  have hl := h.1
  rw [List.length_map, Nat.mul_one] at hl
  rcases h.2 with ⟨h0, _⟩ | ⟨g, cap, cur, hv, hb, hg, hc, _, hcs, hcur⟩
  · cases h0
  · cases hv
    rw [cell_of_row _ _ _ _ _ _ hg]
    have := congrArg (fun l => l[i]?) hcur
    simp only [List.getElem?_map, he, List.getElem?_take] at this
    split at this
    · simpa using this
    · simp at this

set_option maxHeartbeats 1000000 in
set_option maxRecDepth 100000 in
theorem awake_any (w : World) : Calls Try.prog 4 #[] w fun e w' => e = .returned (.bool true) ∧ Fr0 w w' := by
  have e1 : put ⟨#[98]⟩ (.int .i64 2) [] = [(⟨#[98]⟩, .int .i64 2)] := by kernel_rfl
  have e2 : put ⟨#[97]⟩ (.int .i64 1) [(⟨#[98]⟩, .int .i64 2)] = [(⟨#[97]⟩, .int .i64 1), (⟨#[98]⟩, .int .i64 2)] := by kernel_rfl
  have h2 : has ⟨#[97]⟩ [(⟨#[98]⟩, .int .i64 2)] = false := by kernel_rfl
  go_enter Try.func4, Try.ntmps4
  go_wp2_with fail
  refine (new_int 4 w.heap.size w (Nat.le_refl _)).mono ?_
  rintro e w1 ⟨g, rfl, hg, hO, hF⟩
  have HO := Lib.hid hO
  have HF := Lib.hid hF
  clear hO hF
  unfold ptr
  go_wp2_with fail
  refine (put_int_new _ g _ _ ⟨#[98]⟩ 2 w1 HO.out rfl (by decide) (by decide)).mono ?_
  rintro e w2 ⟨rfl, hO2, hF2⟩
  rw [e1] at hO2
  have HO2 := Lib.hid hO2
  have HF2 := Lib.hid (FrO.fr0 HF.out hF2 (Nat.le_refl _))
  clear hO2 hF2 HO HF
  go_wp2_with fail
  refine (put_int_new _ g _ _ ⟨#[97]⟩ 1 w2 HO2.out h2 (by decide) (by decide)).mono ?_
  rintro e w3 ⟨rfl, hO3, hF3⟩
  rw [e2] at hO3
  have HO3 := Lib.hid hO3
  have HF3 := Lib.hid (FrO.fr0 HF2.out hF3 (Nat.le_refl _))
  clear hO3 hF3 HO2 HF2
  go_wp2_with fail
  refine (names_int _ g _ _ w3 HO3.out).mono ?_
  rintro e w4 ⟨b, rfl, _, hN, hF4⟩
  have HF4 := Lib.hid (HF3.out.trans' hF4)
  have c0 := own_names hN 0 _ rfl
  have c1 := own_names hN 1 _ rfl
  clear hN hF4 HO3 HF3 e1 e2 h2
  go_wp2
  go_ret
  exact ⟨rfl, HF4.out⟩
end Go.Proofs.Ytefebimnebpodaa.Ord
