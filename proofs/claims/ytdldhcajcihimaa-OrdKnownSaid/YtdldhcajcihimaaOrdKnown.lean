/-
  What chapter 6 says of what is there, of room, of places: a closed law, call by call (made by wip/tools/ordknown.py).
-/
import Derived.Test.YtdldhcajcihimaaOrdAwake
import Derived.Test.YtdldhcajcihimaaOrdStr
namespace Go.Proofs.Ytdldhcajcihimaa.Ord
open Go.RowKit Base

/-- an ord of another kind stands -/
theorem OrdAt.apart {w w' : World} {B B' : Nat} {T E N T' E' N' : TypeId} {g most : Nat} {es : List Ent} (h : OrdAt w B T E N g most es) (hf : FrO B' T' E' N' w w') (ht : (T ≠ T' ∧ T ≠ E' ∧ T ≠ N') ∧ (E ≠ T' ∧ E ≠ E' ∧ E ≠ N') ∧ (N ≠ T' ∧ N ≠ E' ∧ N ≠ N')) : OrdAt w' B T E N g most es :=
  h.fr hf fun k ⟨_, cs, t, fr, hx, hk⟩ ⟨_, cs', t', fr', hx', hk'⟩ => by
    rw [hx] at hx'
    cases hx'
    obtain ⟨h1, h2, h3⟩ := ht
    rcases hk with rfl | rfl | rfl
    · rcases hk' with e | e | e
      · exact h1.1 e
      · exact h1.2.1 e
      · exact h1.2.2 e
    · rcases hk' with e | e | e
      · exact h2.1 e
      · exact h2.2.1 e
      · exact h2.2.2 e
    · rcases hk' with e | e | e
      · exact h3.1 e
      · exact h3.2.1 e
      · exact h3.2.2 e

set_option maxHeartbeats 8000000 in
set_option maxRecDepth 100000 in
theorem ordKnown_walk (w : World) : Calls Try.prog 3 #[] w fun e w' => e = .returned (.bool true) ∧ Fr0 w w' := by
  have e2 : put ⟨#[120]⟩ (.string ⟨#[49]⟩) [] = [(⟨#[120]⟩, .string ⟨#[49]⟩)] := by kernel_rfl
  have h2 : has ⟨#[120]⟩ [] = false := by kernel_rfl
  have e3 : put ⟨#[120]⟩ (.string ⟨#[50]⟩) [(⟨#[120]⟩, .string ⟨#[49]⟩)] = [(⟨#[120]⟩, .string ⟨#[50]⟩)] := by kernel_rfl
  have h3 : has ⟨#[120]⟩ [(⟨#[120]⟩, .string ⟨#[49]⟩)] = true := by kernel_rfl
  have e4 : put ⟨#[]⟩ (.string ⟨#[51]⟩) [(⟨#[120]⟩, .string ⟨#[50]⟩)] = [(⟨#[]⟩, .string ⟨#[51]⟩), (⟨#[120]⟩, .string ⟨#[50]⟩)] := by kernel_rfl
  have h4 : has ⟨#[]⟩ [(⟨#[120]⟩, .string ⟨#[50]⟩)] = false := by kernel_rfl
  have h5 : has ⟨#[121]⟩ [(⟨#[]⟩, .string ⟨#[51]⟩), (⟨#[120]⟩, .string ⟨#[50]⟩)] = false := by kernel_rfl
  have e6 : put ⟨#[120]⟩ (.string ⟨#[53]⟩) [(⟨#[]⟩, .string ⟨#[51]⟩), (⟨#[120]⟩, .string ⟨#[50]⟩)] = [(⟨#[]⟩, .string ⟨#[51]⟩), (⟨#[120]⟩, .string ⟨#[53]⟩)] := by kernel_rfl
  have h6 : has ⟨#[120]⟩ [(⟨#[]⟩, .string ⟨#[51]⟩), (⟨#[120]⟩, .string ⟨#[50]⟩)] = true := by kernel_rfl
  have h7 : ([(⟨#[]⟩, .string ⟨#[51]⟩), (⟨#[120]⟩, .string ⟨#[53]⟩)] : List Ent)[place ⟨#[120]⟩ [(⟨#[]⟩, .string ⟨#[51]⟩), (⟨#[120]⟩, .string ⟨#[53]⟩)]]? = some (⟨#[120]⟩, .string ⟨#[53]⟩) := by kernel_rfl
  have h8 : has ⟨#[122]⟩ [(⟨#[]⟩, .string ⟨#[51]⟩), (⟨#[120]⟩, .string ⟨#[53]⟩)] = false := by kernel_rfl
  have e12 : drop ⟨#[]⟩ [(⟨#[]⟩, .string ⟨#[51]⟩), (⟨#[120]⟩, .string ⟨#[53]⟩)] = [(⟨#[120]⟩, .string ⟨#[53]⟩)] := by kernel_rfl
  have h12 : has ⟨#[]⟩ [(⟨#[]⟩, .string ⟨#[51]⟩), (⟨#[120]⟩, .string ⟨#[53]⟩)] = true := by kernel_rfl
  have h13 : has ⟨#[]⟩ [(⟨#[120]⟩, .string ⟨#[53]⟩)] = false := by kernel_rfl
  have e15 : put ⟨#[97]⟩ (.int .i64 1) [] = [(⟨#[97]⟩, .int .i64 1)] := by kernel_rfl
  have h15 : has ⟨#[97]⟩ [] = false := by kernel_rfl
  have h16 : has ⟨#[98]⟩ [(⟨#[97]⟩, .int .i64 1)] = false := by kernel_rfl
  go_enter Try.func3, Try.ntmps3
  go_wp2_with fail
  refine (awake_any w).mono ?_
  rintro e w0 ⟨rfl, hF0⟩
  have HF0 := Lib.hid hF0
  clear hF0
  go_wp2_with fail
  refine (new_str 2 w.heap.size w0 HF0.out.size).mono ?_
  rintro e w1 ⟨g, rfl, _, hO, hF⟩
  rw [show held 2 = 2 from by decide] at hO
  have HO1str := Lib.hid hO
  have HF1 := Lib.hid (HF0.out.trans' hF)
  clear hO hF
  unfold ptr
  go_wp2_with fail
  refine (put_str_new _ g _ _ ⟨#[120]⟩ ⟨#[49]⟩ w1 HO1str.out h2 (by decide) (by decide)).mono ?_
  rintro e w2 ⟨rfl, hO, hF⟩
  rw [e2] at hO
  have HO2str := Lib.hid hO
  have HF2 := Lib.hid (FrO.fr0 HF1.out hF (Nat.le_refl _))
  clear hO hF e2 h2
  go_wp2_with fail
  refine (put_str_there _ g _ _ ⟨#[120]⟩ ⟨#[50]⟩ w2 HO2str.out h3).mono ?_
  rintro e w3 ⟨rfl, hO, hF⟩
  rw [e3] at hO
  have HO3str := Lib.hid hO
  have HF3 := Lib.hid (FrO.fr0 HF2.out hF (Nat.le_refl _))
  clear hO hF e3 h3
  go_wp2_with fail
  refine (put_str_new _ g _ _ ⟨#[]⟩ ⟨#[51]⟩ w3 HO3str.out h4 (by decide) (by decide)).mono ?_
  rintro e w4 ⟨rfl, hO, hF⟩
  rw [e4] at hO
  have HO4str := Lib.hid hO
  have HF4 := Lib.hid (FrO.fr0 HF3.out hF (Nat.le_refl _))
  clear hO hF e4 h4
  go_wp2_with fail
  refine (put_str_full _ g _ _ ⟨#[121]⟩ ⟨#[52]⟩ w4 HO4str.out h5 (by decide)).mono ?_
  rintro e w5 ⟨rfl, hF⟩
  have HO5str := Lib.hid (HO4str.out.fr0 hF)
  have HF5 := Lib.hid (HF4.out.trans' hF)
  clear hF
  go_wp2_with fail
  refine (put_str_there _ g _ _ ⟨#[120]⟩ ⟨#[53]⟩ w5 HO5str.out h6).mono ?_
  rintro e w6 ⟨rfl, hO, hF⟩
  rw [e6] at hO
  have HO6str := Lib.hid hO
  have HF6 := Lib.hid (FrO.fr0 HF5.out hF (Nat.le_refl _))
  clear hO hF e6 h6
  go_wp2_with fail
  refine (get_str_some _ g _ _ ⟨#[120]⟩ _ w6 HO6str.out h7).mono ?_
  rintro e w' ⟨rfl, rfl⟩
  go_wp2_with fail
  refine (get_str_none _ g _ _ ⟨#[122]⟩ w' HO6str.out h8).mono ?_
  rintro e w' ⟨rfl, rfl⟩
  go_wp2_with fail
  refine (at_str_some _ g _ _ 0 _ _ w' HO6str.out rfl).mono ?_
  rintro e w9 ⟨rfl, hF⟩
  have HO9str := Lib.hid (HO6str.out.fr0 hF)
  have HF9 := Lib.hid (HF6.out.trans' hF)
  clear hF
  go_wp2_with fail
  refine (at_str_none _ g _ _ (2) w9 HO9str.out (by decide)).mono ?_
  rintro e w' ⟨rfl, rfl⟩
  go_wp2_with fail
  refine (at_str_none _ g _ _ (-1) w' HO9str.out (by decide)).mono ?_
  rintro e w' ⟨rfl, rfl⟩
  go_wp2_with fail
  refine (drop_str_some _ g _ _ ⟨#[]⟩ w' HO9str.out h12).mono ?_
  rintro e w12 ⟨rfl, hO, hF⟩
  rw [e12] at hO
  have HO12str := Lib.hid hO
  have HF12 := Lib.hid (FrO.fr0 HF9.out hF (Nat.le_refl _))
  clear hO hF e12 h12
  go_wp2_with fail
  refine (drop_str_none _ g _ _ ⟨#[]⟩ w12 HO12str.out h13).mono ?_
  rintro e w' ⟨rfl, rfl⟩
  go_wp2_with fail
  refine (new_int 0 w.heap.size w' HF12.out.size).mono ?_
  rintro e w14 ⟨g2, rfl, _, hO, hF⟩
  rw [show held 0 = 1 from by decide] at hO
  have HO14str := Lib.hid (HO12str.out.fr0 hF)
  have HO14int := Lib.hid hO
  have HF14 := Lib.hid (HF12.out.trans' hF)
  clear hO hF
  unfold ptr
  go_wp2_with fail
  refine (put_int_new _ g2 _ _ ⟨#[97]⟩ 1 w14 HO14int.out h15 (by decide) (by decide)).mono ?_
  rintro e w15 ⟨rfl, hO, hF⟩
  rw [e15] at hO
  have HO15str := Lib.hid (OrdAt.apart HO14str.out hF (by decide))
  have HO15int := Lib.hid hO
  have HF15 := Lib.hid (FrO.fr0 HF14.out hF (Nat.le_refl _))
  clear hO hF e15 h15
  go_wp2_with fail
  refine (put_int_full _ g2 _ _ ⟨#[98]⟩ 1 w15 HO15int.out h16 (by decide)).mono ?_
  rintro e w16 ⟨rfl, hF⟩
  have HO16str := Lib.hid (HO15str.out.fr0 hF)
  have HO16int := Lib.hid (HO15int.out.fr0 hF)
  have HF16 := Lib.hid (HF15.out.trans' hF)
  clear hF
  go_wp2_with fail
  refine (len_str _ g _ _ w16 HO16str.out).mono ?_
  rintro e w' ⟨rfl, rfl⟩
  go_wp2
  go_ret
  exact ⟨rfl, HF16.out⟩
end Go.Proofs.Ytdldhcajcihimaa.Ord
