/-
  What the document tells of a dial of three.
-/
import Derived.Test.YtilddigiljappaaClockGo
import Derived.Test.YtilddigiljappaaClockAlike
namespace Go.Proofs.Ytilddigiljappaa.Clock
open Go.RowKit Base

theorem ints_lit (w : World) (cs : Array Value) (l : List Int) (h : cs.toList = l.map fun n => .int .i64 n) (t : TypeId) (N k : Nat) (hN : N = w.heap.size) (hk : k = l.length) : IntsIs (w.alloc (.cells cs t)) (.slice (some ⟨N, 0, none⟩) k k) l := by
  subst hN hk
  refine ⟨_, l.length, w.heap.size, 0, rfl, Nat.le_refl _, fun _ => rfl, fun j hj => ?_⟩
  rw [Nat.zero_add, cell_of_row _ _ _ _ _ _ (heap_alloc_new w _), ← Array.getElem?_toList, h]
  simp [hj]
theorem i64_list {l : List Int} (h : ∀ x ∈ l, -100 ≤ x ∧ x ≤ 100) : ∀ x ∈ l, I64 x := fun x hx => by have := h x hx; unfold I64; omega
/-- Next at what is known -/
theorem next_lit (v : Value) (d : List Int) (h : Int) (r : Nat) (m : List Int) (k tz : Nat) (b : Bool) (hn : nextS d h = (r, m, tz)) (ho : okD d h = b) (hk : m.length = k) (hl : d.length ≤ 100) (hd : ∀ x ∈ d, -100 ≤ x ∧ x ≤ 100) (hh : I64 h) (w : World) (hI : IntsIs w v d) :
    Calls Try.prog 8 #[v, .int .i64 h] w fun e w' => ∃ A C, e = .returned (.tuple #[.int .i64 (r : Int), .slice A k C, .int .i64 (tz : Int), .bool b]) ∧ IntsIs w' (.slice A k C) m ∧ Fr0 w w' :=
  (pnext_any v d h (by omega) (i64_list hd) hh w hI).mono fun e w' ⟨mv, he, hI, hF, _⟩ => by
    rw [hn] at he hI
    rw [ho] at he
    obtain ⟨A, C, rfl⟩ := ints_form hI
    rw [hk] at he hI
    exact ⟨A, C, he, hI, hF⟩
set_option maxHeartbeats 2000000 in
theorem awake_any (w : World) : Calls Try.prog 7 #[] w fun e w' => e = .returned (.bool true) ∧ Fr0 w w' := by
  have HF0 := Lib.hid ((Fr.refl (fun _ => False) w).alloc (.cells #[.int .i64 2, .int .i64 1, .int .i64 1] 3))
  have HNX := Lib.hid (next_lit _ [2, 1, 1] 0 1 [1, 0, 1] 3 2 true (by decide +kernel) (by decide +kernel) rfl (by decide) (by decide) (by decide) _ (ints_lit w #[.int .i64 2, .int .i64 1, .int .i64 1] [2, 1, 1] rfl 3 _ 3 rfl rfl))
  go_enter Try.func7, Try.ntmps7
  go_wp2_with fail
  refine HNX.out.mono ?_
  rintro e w1 ⟨A, C, rfl, hI, hF⟩
  have HF1 := Lib.hid (HF0.out.trans' hF)
  have HF2 := Lib.hid (HF1.out.alloc (.cells #[.int .i64 1, .int .i64 0, .int .i64 1] 3))
  have HAL := Lib.hid (alike_any (.slice A 3 C) _ [1, 0, 1] [1, 0, 1] (by decide) (i64_list (by decide)) _ (hI.fr0 ((Fr.refl _ _).alloc _)) (ints_lit w1 #[.int .i64 1, .int .i64 0, .int .i64 1] [1, 0, 1] rfl 3 _ 3 rfl rfl))
  clear hI hF HNX HF0
  go_wp2_with fail
  refine HAL.out.mono ?_
  rintro e w2 ⟨rfl, hF⟩
  have HF3 := Lib.hid (HF2.out.trans' hF)
  clear hF HAL
  go_wp2
  go_ret
  exact ⟨rfl, HF3.out⟩
end Go.Proofs.Ytilddigiljappaa.Clock
