/-
  What the laws share: awake; rows that are literals.
-/
import Derived.Test.YtjhnijcefpnldaaTenantGo
import Derived.Test.YtjhnijcefpnldaaTenantOwn
namespace Go.Proofs.Ytjhnijcefpnldaa.TenantL
open Go.RowKit Base _root_.Go.Proofs.Ytjhnijcefpnldaa.Tenant

theorem tens_lit (w : World) (X : List At) (c : Array Value) (hc : c = (tcells X).toArray) (hk : Keys w X) (n : Nat) (hn : n = X.length) (ty : TypeId) : Tens (w.alloc (.cells c ty)) (.slice (some ⟨w.heap.size, 0, none⟩) n n) (X.map (·.2)) := by
  subst hc hn
  refine ⟨X, rfl, hk.fr0 ((Fr.refl _ _).alloc _), _, X.length, w.heap.size, 0, rfl, Nat.le_refl _, fun _ => rfl, fun j hj => ?_⟩
  rw [cell_of_row _ _ _ _ _ _ (heap_alloc_new w _), Nat.zero_add, List.getElem?_toArray, List.getD_eq_getElem?_getD, List.getElem?_eq_getElem hj]
  rfl
theorem two_11 : allErr [someT 1, someT 1] 1000 = 1 := all_no (fun h => h.2.2.1.2 1 (by decide) 0 (by decide) rfl)
theorem two_12 : allErr [someT 1, someT 2] 128 = 0 := all_yes ⟨by decide, by decide, ⟨fun j hj => by
  match j, hj with
  | 0, _ => exact some_good 1 (by decide)
  | 1, _ => exact some_good 2 (by decide), fun j hj k hk => by
  match j, hj, k, hk with
  | 1, _, 0, _ => exact (by decide : (1 : Int) ≠ 2)⟩, by decide⟩
set_option maxRecDepth 100000 in
set_option maxHeartbeats 4000000 in
theorem awake_any (w : World) : Calls Try.prog 7 #[] w fun e w' => e = .returned (.bool true) ∧ Fr0 w w' := by
  have HF0 : Hid (Fr0 w w) := Lib.hid (Fr.refl _ _)
  go_enter Try.func7, Try.ntmps7
  go_wp2_with fail
  refine (some_any 1 _).mono ?_
  rintro e w1 ⟨g1, rfl, hB1, _, hF1⟩
  have HF1 := Lib.hid (HF0.out.trans' hF1)
  have hgd := pgoodT_any (some ⟨g1, 0, none⟩) 1 (someT 1) (by decide) w1
  rw [some_good 1 (by decide)] at hgd
  clear hF1 hB1
  go_wp2_with fail
  refine hgd.mono ?_
  clear hgd
  rintro e w2 ⟨rfl, hF2⟩
  have HF2 := Lib.hid (HF1.out.trans' hF2)
  clear hF2
  go_wp2_with fail
  refine (some_any 1 _).mono ?_
  rintro e x1 ⟨gx1, rfl, hB1, _, hF1⟩
  have HFX1 := Lib.hid (HF2.out.trans' hF1)
  have HB1 := Lib.hid hB1
  clear hF1 hB1
  rw [show (t9 (.slice (some ⟨gx1, 0, none⟩) 1 1) (someT 1)) = #[.int .i64 1, .slice (some ⟨gx1, 0, none⟩) 1 1, .int .i64 3, .int .i64 64, .int .i64 5, .int .i64 2, .int .i64 4, .int .i64 3, .int .i64 9] from rfl]
  go_wp2_with fail
  refine (some_any 1 _).mono ?_
  rintro e x2 ⟨gx2, rfl, hB2, _, hF2⟩
  have HFX2 := Lib.hid (HFX1.out.trans' hF2)
  have HB2 := Lib.hid hB2
  have HB1 := Lib.hid (HB1.out.fr0 hF2)
  clear hF2 hB2
  rw [show (t9 (.slice (some ⟨gx2, 0, none⟩) 1 1) (someT 1)) = #[.int .i64 1, .slice (some ⟨gx2, 0, none⟩) 1 1, .int .i64 3, .int .i64 64, .int .i64 5, .int .i64 2, .int .i64 4, .int .i64 3, .int .i64 9] from rfl]
  have hT := tens_lit x2 [(.slice (some ⟨gx1, 0, none⟩) 1 1, someT 1), (.slice (some ⟨gx2, 0, none⟩) 1 1, someT 1)] #[.int .i64 1, .slice (some ⟨gx1, 0, none⟩) 1 1, .int .i64 3, .int .i64 64, .int .i64 5, .int .i64 2, .int .i64 4, .int .i64 3, .int .i64 9, .int .i64 1, .slice (some ⟨gx2, 0, none⟩) 1 1, .int .i64 3, .int .i64 64, .int .i64 5, .int .i64 2, .int .i64 4, .int .i64 3, .int .i64 9] rfl (fun p hp => by
    simp only [List.mem_cons, List.not_mem_nil, or_false] at hp
    rcases hp with rfl | rfl
    · exact ⟨HB1.out, rfl⟩
    · exact ⟨HB2.out, rfl⟩) 2 rfl 26
  have hal := pall_any _ [someT 1, someT 1] 1000 (by decide) (by decide) (fun i hi => by
    match i, hi with
    | 0, _ => exact (by decide : (1 : Nat) ≤ 9223372036854775807)
    | 1, _ => exact (by decide : (1 : Nat) ≤ 9223372036854775807)) _ hT
  rw [two_11] at hal
  have HFX3 := Lib.hid (HFX2.out.alloc (.cells #[.int .i64 1, .slice (some ⟨gx1, 0, none⟩) 1 1, .int .i64 3, .int .i64 64, .int .i64 5, .int .i64 2, .int .i64 4, .int .i64 3, .int .i64 9, .int .i64 1, .slice (some ⟨gx2, 0, none⟩) 1 1, .int .i64 3, .int .i64 64, .int .i64 5, .int .i64 2, .int .i64 4, .int .i64 3, .int .i64 9] 26))
  clear hT
  go_wp2_with fail
  refine hal.mono ?_
  clear hal
  rintro e x3 ⟨rfl, hF3⟩
  have HFX := Lib.hid (HFX3.out.trans' hF3)
  clear hF3
  go_wp2_with fail
  refine (some_any 1 _).mono ?_
  rintro e y1 ⟨gy1, rfl, hB1, _, hF1⟩
  have HFY1 := Lib.hid (HFX.out.trans' hF1)
  have HB1 := Lib.hid hB1
  clear hF1 hB1
  rw [show (t9 (.slice (some ⟨gy1, 0, none⟩) 1 1) (someT 1)) = #[.int .i64 1, .slice (some ⟨gy1, 0, none⟩) 1 1, .int .i64 3, .int .i64 64, .int .i64 5, .int .i64 2, .int .i64 4, .int .i64 3, .int .i64 9] from rfl]
  go_wp2_with fail
  refine (some_any 2 _).mono ?_
  rintro e y2 ⟨gy2, rfl, hB2, _, hF2⟩
  have HFY2 := Lib.hid (HFY1.out.trans' hF2)
  have HB2 := Lib.hid hB2
  have HB1 := Lib.hid (HB1.out.fr0 hF2)
  clear hF2 hB2
  rw [show (t9 (.slice (some ⟨gy2, 0, none⟩) 1 1) (someT 2)) = #[.int .i64 2, .slice (some ⟨gy2, 0, none⟩) 1 1, .int .i64 3, .int .i64 64, .int .i64 5, .int .i64 2, .int .i64 4, .int .i64 3, .int .i64 9] from rfl]
  have hT := tens_lit y2 [(.slice (some ⟨gy1, 0, none⟩) 1 1, someT 1), (.slice (some ⟨gy2, 0, none⟩) 1 1, someT 2)] #[.int .i64 1, .slice (some ⟨gy1, 0, none⟩) 1 1, .int .i64 3, .int .i64 64, .int .i64 5, .int .i64 2, .int .i64 4, .int .i64 3, .int .i64 9, .int .i64 2, .slice (some ⟨gy2, 0, none⟩) 1 1, .int .i64 3, .int .i64 64, .int .i64 5, .int .i64 2, .int .i64 4, .int .i64 3, .int .i64 9] rfl (fun p hp => by
    simp only [List.mem_cons, List.not_mem_nil, or_false] at hp
    rcases hp with rfl | rfl
    · exact ⟨HB1.out, rfl⟩
    · exact ⟨HB2.out, rfl⟩) 2 rfl 26
  have hal := pall_any _ [someT 1, someT 2] 128 (by decide) (by decide) (fun i hi => by
    match i, hi with
    | 0, _ => exact (by decide : (1 : Nat) ≤ 9223372036854775807)
    | 1, _ => exact (by decide : (1 : Nat) ≤ 9223372036854775807)) _ hT
  rw [two_12] at hal
  have HFY3 := Lib.hid (HFY2.out.alloc (.cells #[.int .i64 1, .slice (some ⟨gy1, 0, none⟩) 1 1, .int .i64 3, .int .i64 64, .int .i64 5, .int .i64 2, .int .i64 4, .int .i64 3, .int .i64 9, .int .i64 2, .slice (some ⟨gy2, 0, none⟩) 1 1, .int .i64 3, .int .i64 64, .int .i64 5, .int .i64 2, .int .i64 4, .int .i64 3, .int .i64 9] 26))
  clear hT
  go_wp2_with fail
  refine hal.mono ?_
  clear hal
  rintro e y3 ⟨rfl, hF3⟩
  have HFY := Lib.hid (HFY3.out.trans' hF3)
  clear hF3
  go_wp2
  go_ret
  exact ⟨rfl, HFY.out⟩
end Go.Proofs.Ytjhnijcefpnldaa.TenantL
