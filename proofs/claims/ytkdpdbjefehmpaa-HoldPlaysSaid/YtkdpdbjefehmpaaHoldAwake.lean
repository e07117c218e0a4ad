/-
  What the laws of hold ask first.
-/
import Derived.Test.YtkdpdbjefehmpaaHoldOne
import Derived.Test.YtkdpdbjefehmpaaCutB
import Derived.Lib.SlBytesConst
namespace Go.Proofs.Ytkdpdbjefehmpaa.Hold
open Go.RowKit Base Go.Maps Arena
open Blocks (whole whole_le frees nints tout took terr give gave gerr)

/-- a literal of ints -/
theorem ints_lit (w : World) (cs : Array Value) (l : List Int) (h : cs.toList = l.map fun n => .int .i64 n) (t : TypeId) (N k : Nat) (hN : N = w.heap.size) (hk : k = l.length) : IntsIs (w.alloc (.cells cs t)) (.slice (some ⟨N, 0, none⟩) k k) l := by
  subst hN hk
  refine ⟨_, l.length, w.heap.size, 0, rfl, Nat.le_refl _, fun _ => rfl, fun j hj => ?_⟩
  rw [Nat.zero_add, cell_of_row _ _ _ _ _ _ (heap_alloc_new w _), ← Array.getElem?_toList, h]
  simp [hj]
/-- a literal of bytes, or a constant text turned into bytes -/
theorem bytes_mark (w : World) (l : List UInt8) (c : Array Value) (t : TypeId) (fr : Nat × Nat) (n : Nat) (hn : n = l.length) (cap : Nat) (hcap : n ≤ cap) (hc : bvals l = c.toList) (N : Nat) (hN : N = w.heap.size) :
    BytesIs (w.alloc (.cells c t fr)) (.slice (some ⟨N, 0, none⟩) n cap) l := by
  subst hn hN
  refine ⟨_, cap, w.heap.size, 0, rfl, hcap, fun _ => rfl, fun j hj => ?_⟩
  rw [cell_of_row _ _ _ _ _ _ (heap_alloc_new w _), Nat.zero_add]
  have := bvals_get l j hj
  rw [hc] at this
  simpa using this
def hello : List UInt8 := [104, 101, 108, 108, 111]
theorem fits96 : Fits 96 [96] := ⟨by decide, by decide, by decide, fun k hk => by
  match k, hk with
  | 0, _ => decide, by decide⟩
set_option maxRecDepth 100000 in
set_option maxHeartbeats 4000000 in
theorem awake_any (w : World) : Calls Try.prog 7 #[] w fun e w' => e = .returned (.bool true) ∧ Fr0 w w' := by
  have HB : Hid (∀ w' w'' : World, Fr0 w w' → Fr (fun j => (w.heap.size ≤ j ∧ j < w'.heap.size) ∧ j ∉ ([] : List Nat)) w' w'' → Fr0 w w'') := Lib.hid (fun w' w'' h1 h2 => h1.trans h2 (fun i hi h => by omega))
  have kc := fun (w : World) (C : Array Value) (n c : Nat) => Lib.run_convert_bytes_const (P := Try.prog) w 32 5 C n c Try.underlying32 Try.underlying5
  go_enter Try.func7, Try.ntmps7
  go_wp2_with fail
  refine (Arena.new_any 96 _ [96] (by decide) (by decide) (by decide) _ (ints_lit w _ [96] rfl _ _ _ rfl rfl)).mono ?_
  rintro e w1 ⟨h1, _, hf⟩
  obtain ⟨ga, pb, cb, rfl, hA⟩ := h1 fits96
  have HF1 : Hid (Fr0 w w1) := Lib.hid (((Fr.refl _ _).alloc _).trans' hf)
  have HA1 := Lib.hid (hA.base (B' := w.heap.size) (by simp))
  clear hA hf h1
  unfold ptr
  go_wp2_with fail
  refine (one_new w.heap.size ga pb cb [96] _ 0 w1 HA1.out (by decide) HF1.out.size).mono ?_
  rintro e w2 ⟨hf, g, xg, mb, rfl, ho⟩
  rw [show whole (([96] : List Int).getD 0 0) = 3 by decide] at ho
  have HO2 := Lib.hid ho
  have HF2 := Lib.hid (HF1.out.trans' hf)
  have hsz2 := hf.size
  clear hf ho HA1
  unfold ptr
  go_wp2_with fail
  have hbl := bytes_mark w2 hello #[.int .u8 104, .int .u8 101, .int .u8 108, .int .u8 108, .int .u8 111] 5 (5, 6) 5 rfl 5 (Nat.le_refl _) rfl w2.heap.size rfl
  refine (one_put w.heap.size w2.heap.size [] ga pb cb [96] 0 g xg mb _ _ 0 [] hello _ _ (by decide) (by decide) (HO2.out.fr0 ((Fr.refl _ _).alloc _)) hbl (fun _ a n c h => by cases h; exact .inr (Nat.le_refl _))).mono ?_
  rintro e w3 ⟨hf3, hc⟩
  rcases hc with ⟨_, d, bs', rfl, hid, hx, ho⟩ | ⟨hn, _⟩
  · have hfr : (frees (took (List.replicate 3 false) (need hello.length : Nat))).length = 2 := by decide
    generalize took (List.replicate 3 false) (need hello.length : Nat) = O3 at *
    have HO3 := Lib.hid ho
    have HF3 : Hid (Fr0 w w3) := Lib.hid (HB.out w2 w3 HF2.out (((Fr.refl _ _).alloc _).trans' hf3))
    have HX := Lib.hid hx
    have hfd : find 1 ([] ++ [d]) = some d := by
      have : d.id = 1 := hid
      simp [find, this]
    have hlv : live ([] ++ [d]) = 5 := by
      show (d.x.length + 0 : Nat) = 5
      rw [hx]
      rfl
    clear hf3 ho hid hx
    go_wp2_with fail
    refine (one_get _ _ _ ga pb cb [96] 0 g xg mb _ _ _ _ 1 (by decide) d hfd w3 HO3.out).mono ?_
    rintro e w4 ⟨v, rfl, hb, hf4, _⟩
    rw [HX.out] at hb
    have HO4 := Lib.hid (HO3.out.fr0 hf4)
    have HF4 := Lib.hid (HF3.out.trans' hf4)
    have hcv := hb.convert (P := Try.prog) 32 9 5 Try.underlying32 Try.underlying5 Try.underlying9
    clear hb hf4
    go_wp2_with fail
    refine (one_live _ _ _ ga pb cb [96] 0 g xg mb _ _ _ _ w4 HO4.out).mono ?_
    rintro e w5 ⟨rfl, hf5⟩
    rw [hlv]
    have HO5 := Lib.hid (HO4.out.fr0 hf5)
    have HF5 := Lib.hid (HF4.out.trans' hf5)
    clear hf5
    go_wp2_with fail
    refine (one_room _ _ _ ga pb cb [96] 0 g xg mb _ _ _ _ w5 HO5.out).mono ?_
    rintro e w6 ⟨rfl, hf6⟩
    rw [hfr]
    have HF6 := Lib.hid (HF5.out.trans' hf6)
    clear hf6
    go_wp2
    go_ret
    exact ⟨rfl, HF6.out⟩
  · exact absurd (by decide) hn
end Go.Proofs.Ytkdpdbjefehmpaa.Hold
