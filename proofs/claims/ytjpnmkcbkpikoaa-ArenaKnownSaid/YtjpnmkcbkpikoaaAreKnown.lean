/-
  ArenaKnown: what chapter 7 says of sizes, of ends: the walk (made by wip/tools/arenaknown.py).
-/
import Derived.Test.YtjpnmkcbkpikoaaAreAwake
import Derived.Lib.SlBytesConst
namespace Go.Proofs.Ytjpnmkcbkpikoaa.Arena
open Go.RowKit Base

theorem bytes_mark (w : World) (l : List UInt8) (c : Array Value) (t : TypeId) (fr : Nat × Nat) (n : Nat) (hn : n = l.length) (cap : Nat) (hcap : n ≤ cap) (hc : bvals l = c.toList) (N : Nat) (hN : N = w.heap.size) :
    BytesIs (w.alloc (.cells c t fr)) (.slice (some ⟨N, 0, none⟩) n cap) l := by
  subst hn hN
  refine ⟨_, cap, w.heap.size, 0, rfl, hcap, fun _ => rfl, fun j hj => ?_⟩
  rw [cell_of_row _ _ _ _ _ _ (heap_alloc_new w _), Nat.zero_add]
  have := bvals_get l j hj
  rw [hc] at this
  simpa using this
theorem ints_zeros (w : World) (n : Nat) (t : TypeId) (N : Nat) (hN : N = w.heap.size) : IntsIs (w.alloc (.cells (madeCells #[.int .i64 0] n) t)) (.slice (some ⟨N, 0, none⟩) n n) (List.replicate n 0) := by
  subst hN
  refine ⟨_, n, w.heap.size, 0, by rw [List.length_replicate], by rw [List.length_replicate]; exact Nat.le_refl _, fun _ => rfl, fun j hj => ?_⟩
  rw [List.length_replicate] at hj
  rw [Nat.zero_add, (World.rowIs_made w (.int .i64 0) n t).cell (i := j) hj]
  simp [hj]
theorem fits403 : Fits 10 [4, 0, 3] := ⟨by decide, by decide, by decide, fun k hk => by
  match k, hk with
  | 0, _ => decide
  | 1, _ => decide
  | 2, _ => decide, by decide⟩
def b0 : List UInt8 := List.replicate (Int.toNat 10) 0
def b1 : List UInt8 := [0, 97, 98, 99, 0, 0, 0, 0, 0, 0]
abbrev LK : List Int := [4, 0, 3]
set_option maxHeartbeats 8000000 in
set_option maxRecDepth 100000 in
theorem arenaKnown_walk (w : World) : Calls Try.prog 3 #[] w fun e w' => e = .returned (.bool true) ∧ Fr0 w w' := by
  have kc := fun (w : World) (C : Array Value) (n c : Nat) => Lib.run_convert_bytes_const (P := Try.prog) w 29 5 C n c Try.underlying29 Try.underlying5
  have hmk := fun wx : World => make_ints 65 (by decide) 65 rfl wx
  go_enter Try.func3, Try.ntmps3
  go_wp2_with fail
  refine (awake_any w).mono ?_
  rintro e w0 ⟨rfl, hF⟩
  have HF0 : Hid (Fr0 w w0) := Lib.hid hF
  clear hF

  go_wp2_with fail
  refine (new_any (-1) _ [] (by decide) (by decide) (by decide) w0 (IntsIs.nil w0)).mono ?_
  rintro e w1 ⟨_, hb, hf⟩
  obtain rfl := hb (fun h => absurd h.s0 (by decide))
  have HF1 : Hid (Fr0 w w1) := Lib.hid (HF0.out.trans' hf)
  clear hf hb

  go_wp2_with fail
  refine (new_any (65537) _ [] (by decide) (by decide) (by decide) w1 (IntsIs.nil w1)).mono ?_
  rintro e w2 ⟨_, hb, hf⟩
  obtain rfl := hb (fun h => absurd h.s1 (by decide))
  have HF2 : Hid (Fr0 w w2) := Lib.hid (HF1.out.trans' hf)
  clear hf hb

  go_wp2_with fail
  refine (new_any (10) _ [4, 7] (by decide) (by decide) (by decide) (w2.alloc (.cells #[.int .i64 4, .int .i64 7] 3)) (ints_lit w2 _ [4, 7] rfl _ _ _ rfl rfl)).mono ?_
  rintro e w3 ⟨_, hb, hf⟩
  obtain rfl := hb (fun h => absurd h.sum (by decide))
  have HF3 : Hid (Fr0 w w3) := Lib.hid (HF2.out.trans' (((Fr.refl _ _).alloc _).trans' hf))
  clear hf hb

  go_wp2_with fail
  refine (new_any (10) _ [-1] (by decide) (by decide) (by decide) (w3.alloc (.cells #[.int .i64 (-1)] 3)) (ints_lit w3 _ [-1] rfl _ _ _ rfl rfl)).mono ?_
  rintro e w4 ⟨_, hb, hf⟩
  obtain rfl := hb (fun h => absurd (h.pos 0 (by decide)) (by decide))
  have HF4 : Hid (Fr0 w w4) := Lib.hid (HF3.out.trans' (((Fr.refl _ _).alloc _).trans' hf))
  clear hf hb

  go_wp2_with fail
  refine (new_any (10) _ (List.replicate 65 0) (by rw [List.length_replicate]; decide) (fun m hm => by rw [List.eq_of_mem_replicate hm]; decide) (by decide) (w4.alloc (.cells (madeCells #[.int .i64 0] 65) 3)) (ints_zeros w4 65 _ _ rfl)).mono ?_
  rintro e w5 ⟨_, hb, hf⟩
  obtain rfl := hb (fun h => absurd h.n (by rw [List.length_replicate]; decide))
  have HF5 : Hid (Fr0 w w5) := Lib.hid (HF4.out.trans' (((Fr.refl _ _).alloc _).trans' hf))
  clear hf hb

  clear hmk
  go_wp2_with fail
  refine (new_any 10 _ LK (by decide) (by decide) (by decide) (w5.alloc (.cells #[.int .i64 4, .int .i64 0, .int .i64 3] 3)) (ints_lit w5 _ LK rfl _ _ _ rfl rfl)).mono ?_
  rintro e w6 ⟨h1, _, hf⟩
  obtain ⟨g, pb, cb, rfl, hA⟩ := h1 fits403
  have HA6 : Hid (AreP w6 w.heap.size g pb cb LK b0) := Lib.hid (hA.base (HF5.out.alloc _).size)
  have HF6 : Hid (Fr0 w w6) := Lib.hid ((HF5.out.alloc _).trans' hf)
  clear hA hf h1
  unfold ptr

  go_wp2_with fail
  refine (write_any w.heap.size g pb cb LK b0 [97, 98, 99] 0 1 _ (by decide) (by decide) (by decide) (w6.alloc (.cells #[.int .u8 97, .int .u8 98, .int .u8 99] 5 (3, 4))) (HA6.out.fr0 ((Fr.refl _ _).alloc _)) (bytes_mark w6 [97, 98, 99] _ _ _ 3 rfl 3 (by omega) rfl _ rfl)).mono ?_
  rintro e w7 ⟨rfl, hA, hf⟩
  rw [show perr LK 0 1 (([97, 98, 99] : List UInt8).length : Int) = 0 by decide]
  rw [show wrote LK b0 0 1 [97, 98, 99] = b1 by decide] at hA
  have hf1 : Fr1 pb w6 w7 := (Fr.zero ((Fr.refl _ _).alloc _)).trans' hf
  have HA7 : Hid (AreP w7 w.heap.size g pb cb LK b1) := Lib.hid hA
  have HF7 : Hid (Fr0 w w7) := Lib.hid (fr0_of_fr1 HF6.out hf1 hA.pB)
  clear hA hf hf1

  go_wp2_with fail
  refine (write_any w.heap.size g pb cb LK b1 [97, 98, 99] 0 2 _ (by decide) (by decide) (by decide) (w7.alloc (.cells #[.int .u8 97, .int .u8 98, .int .u8 99] 5 (3, 4))) (HA7.out.fr0 ((Fr.refl _ _).alloc _)) (bytes_mark w7 [97, 98, 99] _ _ _ 3 rfl 3 (by omega) rfl _ rfl)).mono ?_
  rintro e w8 ⟨rfl, hA, hf⟩
  rw [show perr LK 0 2 (([97, 98, 99] : List UInt8).length : Int) = 9 by decide]
  rw [show wrote LK b1 0 2 [97, 98, 99] = b1 by decide] at hA
  have hf1 : Fr1 pb w7 w8 := (Fr.zero ((Fr.refl _ _).alloc _)).trans' hf
  have HA8 : Hid (AreP w8 w.heap.size g pb cb LK b1) := Lib.hid hA
  have HF8 : Hid (Fr0 w w8) := Lib.hid (fr0_of_fr1 HF7.out hf1 hA.pB)
  clear hA hf hf1

  go_wp2_with fail
  refine (write_any w.heap.size g pb cb LK b1 [] 1 0 (.slice none 0 0) (by decide) (by decide) (by decide) w8 HA8.out (BytesIs.nil w8)).mono ?_
  rintro e w9 ⟨rfl, hA, hf⟩
  rw [show perr LK 1 0 (([] : List UInt8).length : Int) = 0 by decide]
  rw [show wrote LK b1 1 0 [] = b1 by decide] at hA
  have hf1 : Fr1 pb w8 w9 := hf
  have HA9 : Hid (AreP w9 w.heap.size g pb cb LK b1) := Lib.hid hA
  have HF9 : Hid (Fr0 w w9) := Lib.hid (fr0_of_fr1 HF8.out hf1 hA.pB)
  clear hA hf hf1

  go_wp2_with fail
  refine (write_any w.heap.size g pb cb LK b1 [] 3 0 (.slice none 0 0) (by decide) (by decide) (by decide) w9 HA9.out (BytesIs.nil w9)).mono ?_
  rintro e w10 ⟨rfl, hA, hf⟩
  rw [show perr LK 3 0 (([] : List UInt8).length : Int) = 1 by decide]
  rw [show wrote LK b1 3 0 [] = b1 by decide] at hA
  have hf1 : Fr1 pb w9 w10 := hf
  have HA10 : Hid (AreP w10 w.heap.size g pb cb LK b1) := Lib.hid hA
  have HF10 : Hid (Fr0 w w10) := Lib.hid (fr0_of_fr1 HF9.out hf1 hA.pB)
  clear hA hf hf1

  go_wp2_with fail
  refine (read_any w.heap.size g pb cb LK b1 0 0 4 (by decide) (by decide) (by decide) w10 HA10.out).mono ?_
  rintro e w11 ⟨v11, rfl, hb, hf⟩
  rw [show perr LK 0 0 4 = 0 by decide]
  have HA11 : Hid (AreP w11 w.heap.size g pb cb LK b1) := Lib.hid (HA10.out.fr0 hf)
  have HF11 : Hid (Fr0 w w11) := Lib.hid (HF10.out.trans' hf)
  rw [show readOut LK b1 0 0 4 = [0, 97, 98, 99] by decide] at hb
  have HK11 := Lib.hid hb
  clear hf hb
  go_wp2_with fail
  refine (read_any w.heap.size g pb cb LK b1 0 0 5 (by decide) (by decide) (by decide) w11 HA11.out).mono ?_
  rintro e w12 ⟨v12, rfl, hb, hf⟩
  rw [show perr LK 0 0 5 = 9 by decide]
  have HA12 : Hid (AreP w12 w.heap.size g pb cb LK b1) := Lib.hid (HA11.out.fr0 hf)
  have HF12 : Hid (Fr0 w w12) := Lib.hid (HF11.out.trans' hf)
  have HK12 := Lib.hid (HK11.out.fr0 hf)
  clear hf hb
  go_wp2_with fail
  refine (read_any w.heap.size g pb cb LK b1 2 3 1 (by decide) (by decide) (by decide) w12 HA12.out).mono ?_
  rintro e w13 ⟨v13, rfl, hb, hf⟩
  rw [show perr LK 2 3 1 = 9 by decide]
  have HA13 : Hid (AreP w13 w.heap.size g pb cb LK b1) := Lib.hid (HA12.out.fr0 hf)
  have HF13 : Hid (Fr0 w w13) := Lib.hid (HF12.out.trans' hf)
  have HK13 := Lib.hid (HK12.out.fr0 hf)
  clear hf hb
  go_wp2_with fail
  refine (read_any w.heap.size g pb cb LK b1 2 (-1) 1 (by decide) (by decide) (by decide) w13 HA13.out).mono ?_
  rintro e w14 ⟨v14, rfl, hb, hf⟩
  rw [show perr LK 2 (-1) 1 = 9 by decide]
  have HA14 : Hid (AreP w14 w.heap.size g pb cb LK b1) := Lib.hid (HA13.out.fr0 hf)
  have HF14 : Hid (Fr0 w w14) := Lib.hid (HF13.out.trans' hf)
  have HK14 := Lib.hid (HK13.out.fr0 hf)
  clear hf hb
  go_wp2_with fail
  refine (read_any w.heap.size g pb cb LK b1 2 1 (-1) (by decide) (by decide) (by decide) w14 HA14.out).mono ?_
  rintro e w15 ⟨v15, rfl, hb, hf⟩
  rw [show perr LK 2 1 (-1) = 9 by decide]
  have HA15 : Hid (AreP w15 w.heap.size g pb cb LK b1) := Lib.hid (HA14.out.fr0 hf)
  have HF15 : Hid (Fr0 w w15) := Lib.hid (HF14.out.trans' hf)
  have HK15 := Lib.hid (HK14.out.fr0 hf)
  clear hf hb
  go_wp2_with fail
  refine (read_any w.heap.size g pb cb LK b1 (-1) 0 0 (by decide) (by decide) (by decide) w15 HA15.out).mono ?_
  rintro e w16 ⟨v16, rfl, hb, hf⟩
  rw [show perr LK (-1) 0 0 = 1 by decide]
  have HA16 : Hid (AreP w16 w.heap.size g pb cb LK b1) := Lib.hid (HA15.out.fr0 hf)
  have HF16 : Hid (Fr0 w w16) := Lib.hid (HF15.out.trans' hf)
  have HK16 := Lib.hid (HK15.out.fr0 hf)
  clear hf hb
  go_wp2_with fail
  refine (region_in w.heap.size g pb cb LK b1 1 w16 HA16.out (by decide)).mono ?_
  rintro e w17 ⟨rfl, hf⟩
  rw [show cut LK 1 = 4 by decide, show cut LK (1 + 1) = 4 by decide]
  have HA17 : Hid (AreP w17 w.heap.size g pb cb LK b1) := Lib.hid (HA16.out.fr0 hf)
  have HF17 : Hid (Fr0 w w17) := Lib.hid (HF16.out.trans' hf)
  have HK17 := Lib.hid (HK16.out.fr0 hf)
  clear hf
  go_wp2_with fail
  refine (region_out w.heap.size g pb cb LK b1 3 w17 HA17.out (by decide)).mono ?_
  rintro e w18 ⟨rfl, hf⟩
  have HA18 : Hid (AreP w18 w.heap.size g pb cb LK b1) := Lib.hid (HA17.out.fr0 hf)
  have HF18 : Hid (Fr0 w w18) := Lib.hid (HF17.out.trans' hf)
  have HK18 := Lib.hid (HK17.out.fr0 hf)
  have hcc := HK18.out.convert (P := Try.prog) 29 9 5 Try.underlying29 Try.underlying5 Try.underlying9
  clear hf
  go_wp2_with fail
  refine (all_any w.heap.size g pb cb LK b1 w18 HA18.out).mono ?_
  rintro e w19 ⟨va, rfl, hb, hf⟩
  have HF19 : Hid (Fr0 w w19) := Lib.hid (HF18.out.trans' hf)
  have hcd := hb.convert (P := Try.prog) 29 9 5 Try.underlying29 Try.underlying5 Try.underlying9
  unfold b1 at hcd
  clear hf hb hcc
  go_wp2
  go_ret
  exact ⟨rfl, HF19.out⟩
end Go.Proofs.Ytjpnmkcbkpikoaa.Arena
