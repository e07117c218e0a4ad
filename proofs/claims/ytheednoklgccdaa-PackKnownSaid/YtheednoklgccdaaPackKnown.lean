/-
  PackKnown: what chapter 4 says of errors that stay, of too many: the walk (made by wip/tools/packknown.py).
-/
import Derived.Test.YtheednoklgccdaaPackAwake
import Derived.Lib.SlBytesConst
namespace Go.Proofs.Ytheednoklgccdaa.Pack
open Go.RowKit Base

theorem RdAt.other {w w' : World} {g g' : Nat} {t t' : TypeId} {l l' : List UInt8} {e e' : Int} (h : RdAt w g t l e) (h' : RdAt w g' t' l' e') (hne : g ≠ g') (hf : Fr1 g' w w') : RdAt w' g t l e := h.fr1 hf hne h'.noU8
theorem bytes_mark (w : World) (l : List UInt8) (c : Array Value) (t : TypeId) (fr : Nat × Nat) (n : Nat) (hn : n = l.length) (cap : Nat) (hcap : n ≤ cap) (hc : bvals l = c.toList) (N : Nat) (hN : N = w.heap.size) :
    BytesIs (w.alloc (.cells c t fr)) (.slice (some ⟨N, 0, none⟩) n cap) l := by
  subst hn hN
  refine ⟨_, cap, w.heap.size, 0, rfl, hcap, fun _ => rfl, fun j hj => ?_⟩
  rw [cell_of_row _ _ _ _ _ _ (heap_alloc_new w _), Nat.zero_add]
  have := bvals_get l j hj
  rw [hc] at this
  simpa using this
theorem make_all (n : Nat) (hn : n ≤ 281474976710656) (x : Int) (hx : x = (n : Int)) (w : World) : (Instr.makeSlice 23 (.int .i64 x) (.int .i64 x)).run Try.prog w = .ok (.slice (some ⟨w.heap.size, 0, none⟩) n n) (w.alloc (.cells (bvals (List.replicate n 0)).toArray 5)) := by
  subst hx
  have := run_make_row' (P := Try.prog) 23 5 (.int .u8 0) 1 Try.underlying23 info8 rfl .i64 .i64 n (by omega) (by omega) w
  rw [this, ← zerosB]
  congr 2
  congr 1
  apply Array.ext
  · simp [madeCells]
  · intro j h1 h2
    simp [madeCells, Nat.mod_one]
set_option maxHeartbeats 4000000 in
set_option maxRecDepth 100000 in
theorem packKnown_walk (w : World) : Calls Try.prog 3 #[] w fun e w' => e = .returned (.bool true) ∧ Fr0 w w' := by
  have kc := fun (w : World) (C : Array Value) (n c : Nat) => Lib.run_convert_bytes_const (P := Try.prog) w 23 5 C n c Try.underlying23 Try.underlying5
  have hmk := fun wx : World => make_all 65536 (by decide) 65536 rfl wx
  generalize hZ : (bvals (List.replicate 65536 0)).toArray = Z at hmk
  have HZ := Lib.hid hZ
  clear hZ
  go_enter Try.func3, Try.ntmps3
  go_wp2_with fail
  refine (awake_any w).mono ?_
  rintro e w0 ⟨rfl, hF⟩
  have HF0 : Hid (Fr0 w w0) := Lib.hid hF
  clear hF

  go_wp2_with fail
  refine (u8_any (.slice none 0 0) [] 9 (by decide) (by decide) w0 (BytesIs.nil w0)).mono ?_
  rintro e w1 ⟨v1, rfl, hB, hF⟩
  rw [show [] ++ be 1 9 = [9] by decide] at hB
  have HF1 : Hid (Fr0 w w1) := Lib.hid (HF0.out.trans' hF)
  have HB_v1 := Lib.hid hB
  clear hB hF
  go_wp2_with fail
  refine (bytes_any v1 _ [9] [97, 98, 99] (by decide) (by decide) (w1.alloc (.cells #[.int .u8 97, .int .u8 98, .int .u8 99] 5 (3, 4))) (HB_v1.out.fr0 ((Fr.refl _ _).alloc _)) (bytes_mark w1 [97, 98, 99] _ _ _ 3 rfl 3 (by omega) rfl _ rfl)).mono ?_
  rintro e w2 ⟨v_b, rfl, hB, hF⟩
  rw [show bytesW [9] [97, 98, 99] = [9, 0, 3, 97, 98, 99] by decide] at hB
  rw [show bytesOk [97, 98, 99] = true by decide]
  have hF2 : Fr0 w1 w2 := Fr.trans' ((Fr.refl _ _).alloc _) hF
  have HF2 : Hid (Fr0 w w2) := Lib.hid (HF1.out.trans' hF2)
  obtain ⟨a_b, c_b, rfl⟩ := hB.form
  have HB_b := Lib.hid hB
  clear hB hF hF2 HB_v1
  go_wp2_with fail
  refine (bytes_any (.slice none 0 0) _ [] (List.replicate 65536 0) (by decide) (by rw [List.length_replicate]; decide) (w2.alloc (.cells Z 5)) (BytesIs.nil _) (BytesIs.block (fr := (0, 0)) (by rw [← HZ.out]; exact heap_alloc_new w2 _) 65536 65536 (by rw [List.length_replicate]) (Nat.le_refl _))).mono ?_
  rintro e w3 ⟨v_z, rfl, hB, hF⟩
  rw [show bytesOk (List.replicate 65536 0) = false by unfold bytesOk; rw [List.length_replicate]; decide]
  have hF2 : Fr0 w2 w3 := Fr.trans' ((Fr.refl _ _).alloc _) hF
  have HF3 : Hid (Fr0 w w3) := Lib.hid (HF2.out.trans' hF2)
  have HB_b' := Lib.hid (HB_b.out.fr0 hF2)
  clear HB_b
  have HB_b := HB_b'
  clear HB_b'
  clear hB hF hF2 HZ hmk
  go_wp2_with fail
  refine (new_any _ [9, 0, 3, 97, 98, 99] (by decide) w3 HB_b.out).mono ?_
  rintro e w4 ⟨g_r, rfl, hg, hR, hF⟩
  have hF2 : Fr0 w3 w4 := hF
  have HG_r : Hid (w.heap.size ≤ g_r) := Lib.hid (Nat.le_trans HF3.out.size (Nat.le_trans (Nat.le_refl _) hg))
  have HF4 : Hid (Fr0 w w4) := Lib.hid (HF3.out.trans' hF2)
  have HB_b' := Lib.hid (HB_b.out.fr0 hF2)
  clear HB_b
  have HB_b := HB_b'
  clear HB_b'
  have HR_r := Lib.hid hR
  clear hR hF hF2 hg
  go_wp2_with fail
  refine (ru8_any g_r [9, 0, 3, 97, 98, 99] 0 w4 (by decide) HR_r.out).mono ?_
  rintro e w5 ⟨rfl, hR, hF⟩
  rw [show num (cutOut 1 [9, 0, 3, 97, 98, 99]) = 9 by decide]
  rw [show cutRest 1 [9, 0, 3, 97, 98, 99] = [0, 3, 97, 98, 99] by decide, show cutErr 1 [9, 0, 3, 97, 98, 99] 0 = 0 by decide] at hR
  have HF5 : Hid (Fr0 w w5) := Lib.hid (fr0_of_fr1 HF4.out hF HG_r.out)
  have HB_b' := Lib.hid (bytes_fr1 HB_b.out hF HR_r.out.noU8)
  clear HB_b
  have HB_b := HB_b'
  clear HB_b'
  clear HR_r
  have HR_r := Lib.hid hR
  clear hR hF
  go_wp2_with fail
  refine (rbytes_any g_r 3 [0, 3, 97, 98, 99] 0 w5 (by decide) (by decide) HR_r.out).mono ?_
  rintro e w6 ⟨v_c, rfl, hB, hR, hF⟩
  rw [show bytesOut 3 [0, 3, 97, 98, 99] = [97, 98, 99] by decide] at hB
  rw [show bytesRest 3 [0, 3, 97, 98, 99] = [] by decide, show bytesErr 3 [0, 3, 97, 98, 99] 0 = 0 by decide] at hR
  obtain ⟨a_c, c_c, rfl⟩ := hB.form
  have HB_c := Lib.hid hB
  have HF6 : Hid (Fr0 w w6) := Lib.hid (fr0_of_fr1 HF5.out hF HG_r.out)
  have HB_b' := Lib.hid (bytes_fr1 HB_b.out hF HR_r.out.noU8)
  clear HB_b
  have HB_b := HB_b'
  clear HB_b'
  clear HR_r
  have HR_r := Lib.hid hR
  clear hR hF
  clear hB
  go_wp2_with fail
  refine (err_any g_r [] 0 w6 HR_r.out).mono ?_
  rintro e wx ⟨rfl, rfl⟩
  go_wp2_with fail
  refine (ru8_any g_r [] 0 w6 (by decide) HR_r.out).mono ?_
  rintro e w7 ⟨rfl, hR, hF⟩
  rw [show num (cutOut 1 []) = 0 by decide]
  rw [show cutRest 1 [] = [] by decide, show cutErr 1 [] 0 = 3 by decide] at hR
  have HF7 : Hid (Fr0 w w7) := Lib.hid (fr0_of_fr1 HF6.out hF HG_r.out)
  have HB_b' := Lib.hid (bytes_fr1 HB_b.out hF HR_r.out.noU8)
  clear HB_b
  have HB_b := HB_b'
  clear HB_b'
  have HB_c' := Lib.hid (bytes_fr1 HB_c.out hF HR_r.out.noU8)
  clear HB_c
  have HB_c := HB_c'
  clear HB_c'
  clear HR_r
  have HR_r := Lib.hid hR
  clear hR hF
  go_wp2_with fail
  refine (err_any g_r [] 3 w7 HR_r.out).mono ?_
  rintro e wx ⟨rfl, rfl⟩
  go_wp2_with fail
  refine (ru64_any g_r [] 3 w7 (by decide) HR_r.out).mono ?_
  rintro e w8 ⟨rfl, hR, hF⟩
  rw [show num (cutOut 8 []) = 0 by decide]
  rw [show cutRest 8 [] = [] by decide, show cutErr 8 [] 3 = 3 by decide] at hR
  have HF8 : Hid (Fr0 w w8) := Lib.hid (fr0_of_fr1 HF7.out hF HG_r.out)
  have HB_b' := Lib.hid (bytes_fr1 HB_b.out hF HR_r.out.noU8)
  clear HB_b
  have HB_b := HB_b'
  clear HB_b'
  have HB_c' := Lib.hid (bytes_fr1 HB_c.out hF HR_r.out.noU8)
  clear HB_c
  have HB_c := HB_c'
  clear HB_c'
  clear HR_r
  have HR_r := Lib.hid hR
  clear hR hF
  clear HR_r HG_r
  obtain ⟨a_b1, c_b1, hb1, hs1⟩ := HB_b.out.cutLo (P := Try.prog) 23 5 Try.underlying23 (by kernel_rfl) 1 (by decide)
  have HB1 : Hid (BytesIs _ _ [0, 3, 97, 98, 99]) := Lib.hid hb1
  have hs1 : ∀ wx : World, (Instr.sliceAt 23 (.slice a_b 6 c_b) (some (.int .i64 1)) none none).run Try.prog wx = .ok (.slice a_b1 5 c_b1) wx := hs1
  clear hb1
  go_wp2_with fail
  refine (new_any _ [0, 3, 97, 98, 99] (by decide) w8 HB1.out).mono ?_
  rintro e w9 ⟨g_s, rfl, hg, hR, hF⟩
  have hF2 : Fr0 w8 w9 := hF
  have HG_s : Hid (w.heap.size ≤ g_s) := Lib.hid (Nat.le_trans HF8.out.size (Nat.le_trans (Nat.le_refl _) hg))
  have HF9 : Hid (Fr0 w w9) := Lib.hid (HF8.out.trans' hF2)
  have HB_b' := Lib.hid (HB_b.out.fr0 hF2)
  have HB_c' := Lib.hid (HB_c.out.fr0 hF2)
  clear HB_b
  have HB_b := HB_b'
  clear HB_b'
  clear HB_c
  have HB_c := HB_c'
  clear HB_c'
  have HR_s := Lib.hid hR
  clear hR hF hF2 hg
  clear HB_b HB1 hs1
  go_wp2_with fail
  refine (rbytes_any g_s 2 [0, 3, 97, 98, 99] 0 w9 (by decide) (by decide) HR_s.out).mono ?_
  rintro e w10 ⟨v_h, rfl, hB, hR, hF⟩
  rw [show bytesOut 2 [0, 3, 97, 98, 99] = [] by decide] at hB
  rw [show bytesRest 2 [0, 3, 97, 98, 99] = [] by decide, show bytesErr 2 [0, 3, 97, 98, 99] 0 = 2 by decide] at hR
  obtain ⟨a_h, c_h, rfl⟩ := hB.form
  have HF10 : Hid (Fr0 w w10) := Lib.hid (fr0_of_fr1 HF9.out hF HG_s.out)
  have HB_c' := Lib.hid (bytes_fr1 HB_c.out hF HR_s.out.noU8)
  clear HB_c
  have HB_c := HB_c'
  clear HB_c'
  clear HR_s
  have HR_s := Lib.hid hR
  clear hR hF
  clear hB
  go_wp2_with fail
  refine (left_any g_s [] 2 w10 HR_s.out).mono ?_
  rintro e wx ⟨rfl, rfl⟩
  go_wp2_with fail
  refine (take_any g_s (0) [] 2 w10 (by decide) (by decide) HR_s.out).mono ?_
  rintro e w11 ⟨v_j, rfl, hB, hR, hF⟩
  rw [show takeOut (0) [] = [] by decide] at hB
  rw [show takeRest (0) [] = [] by decide, show takeErr (0) [] 2 = 2 by decide] at hR
  obtain ⟨a_j, c_j, rfl⟩ := hB.form
  have HF11 : Hid (Fr0 w w11) := Lib.hid (fr0_of_fr1 HF10.out hF HG_s.out)
  have HB_c' := Lib.hid (bytes_fr1 HB_c.out hF HR_s.out.noU8)
  clear HB_c
  have HB_c := HB_c'
  clear HB_c'
  clear HR_s
  have HR_s := Lib.hid hR
  clear hR hF
  clear hB
  go_wp2_with fail
  refine (new_any _ [1, 2, 3] (by decide) (w11.alloc (.cells #[.int .u8 1, .int .u8 2, .int .u8 3] 5)) (BytesIs.block (fr := (0, 0)) (heap_alloc_new w11 _) 3 3 rfl (Nat.le_refl _))).mono ?_
  rintro e w12 ⟨g_t, rfl, hg, hR, hF⟩
  have hF2 : Fr0 w11 w12 := Fr.trans' ((Fr.refl _ _).alloc _) hF
  have HN_s_t : Hid (g_s ≠ g_t) := Lib.hid (by have h1 := HR_s.out.lt; have h2 : w11.heap.size ≤ g_t := Nat.le_trans ((Fr.refl (fun _ => False) _).alloc _).size hg; omega)
  have HN_t_s : Hid (g_t ≠ g_s) := Lib.hid (fun h => HN_s_t.out h.symm)
  have HG_t : Hid (w.heap.size ≤ g_t) := Lib.hid (Nat.le_trans HF11.out.size (Nat.le_trans ((Fr.refl (fun _ => False) _).alloc _).size hg))
  have HF12 : Hid (Fr0 w w12) := Lib.hid (HF11.out.trans' hF2)
  have HR_s' := Lib.hid (HR_s.out.fr0 hF2)
  have HB_c' := Lib.hid (HB_c.out.fr0 hF2)
  clear HR_s
  have HR_s := HR_s'
  clear HR_s'
  clear HB_c
  have HB_c := HB_c'
  clear HB_c'
  have HR_t := Lib.hid hR
  clear hR hF hF2 hg
  go_wp2_with fail
  refine (take_any g_t (-1) [1, 2, 3] 0 w12 (by decide) (by decide) HR_t.out).mono ?_
  rintro e w13 ⟨v_k, rfl, hB, hR, hF⟩
  rw [show takeOut (-1) [1, 2, 3] = [] by decide] at hB
  rw [show takeRest (-1) [1, 2, 3] = [] by decide, show takeErr (-1) [1, 2, 3] 0 = 1 by decide] at hR
  obtain ⟨a_k, c_k, rfl⟩ := hB.form
  have HF13 : Hid (Fr0 w w13) := Lib.hid (fr0_of_fr1 HF12.out hF HG_t.out)
  have HR_s' := Lib.hid (HR_s.out.other HR_t.out HN_s_t.out hF)
  clear HR_s
  have HR_s := HR_s'
  clear HR_s'
  have HB_c' := Lib.hid (bytes_fr1 HB_c.out hF HR_t.out.noU8)
  clear HB_c
  have HB_c := HB_c'
  clear HB_c'
  clear HR_t
  have HR_t := Lib.hid hR
  clear hR hF
  clear hB
  go_wp2_with fail
  refine (ru8_any g_t [] 1 w13 (by decide) HR_t.out).mono ?_
  rintro e w14 ⟨rfl, hR, hF⟩
  rw [show num (cutOut 1 []) = 0 by decide]
  rw [show cutRest 1 [] = [] by decide, show cutErr 1 [] 1 = 1 by decide] at hR
  have HF14 : Hid (Fr0 w w14) := Lib.hid (fr0_of_fr1 HF13.out hF HG_t.out)
  have HR_s' := Lib.hid (HR_s.out.other HR_t.out HN_s_t.out hF)
  clear HR_s
  have HR_s := HR_s'
  clear HR_s'
  have HB_c' := Lib.hid (bytes_fr1 HB_c.out hF HR_t.out.noU8)
  clear HB_c
  have HB_c := HB_c'
  clear HB_c'
  clear HR_t
  have HR_t := Lib.hid hR
  clear hR hF
  go_wp2_with fail
  refine (new_any _ [0, 5, 1] (by decide) (w14.alloc (.cells #[.int .u8 0, .int .u8 5, .int .u8 1] 5)) (BytesIs.block (fr := (0, 0)) (heap_alloc_new w14 _) 3 3 rfl (Nat.le_refl _))).mono ?_
  rintro e w15 ⟨g_u, rfl, hg, hR, hF⟩
  have hF2 : Fr0 w14 w15 := Fr.trans' ((Fr.refl _ _).alloc _) hF
  have HN_s_u : Hid (g_s ≠ g_u) := Lib.hid (by have h1 := HR_s.out.lt; have h2 : w14.heap.size ≤ g_u := Nat.le_trans ((Fr.refl (fun _ => False) _).alloc _).size hg; omega)
  have HN_u_s : Hid (g_u ≠ g_s) := Lib.hid (fun h => HN_s_u.out h.symm)
  have HN_t_u : Hid (g_t ≠ g_u) := Lib.hid (by have h1 := HR_t.out.lt; have h2 : w14.heap.size ≤ g_u := Nat.le_trans ((Fr.refl (fun _ => False) _).alloc _).size hg; omega)
  have HN_u_t : Hid (g_u ≠ g_t) := Lib.hid (fun h => HN_t_u.out h.symm)
  have HG_u : Hid (w.heap.size ≤ g_u) := Lib.hid (Nat.le_trans HF14.out.size (Nat.le_trans ((Fr.refl (fun _ => False) _).alloc _).size hg))
  have HF15 : Hid (Fr0 w w15) := Lib.hid (HF14.out.trans' hF2)
  have HR_s' := Lib.hid (HR_s.out.fr0 hF2)
  have HR_t' := Lib.hid (HR_t.out.fr0 hF2)
  have HB_c' := Lib.hid (HB_c.out.fr0 hF2)
  clear HR_s
  have HR_s := HR_s'
  clear HR_s'
  clear HR_t
  have HR_t := HR_t'
  clear HR_t'
  clear HB_c
  have HB_c := HB_c'
  clear HB_c'
  have HR_u := Lib.hid hR
  clear hR hF hF2 hg
  go_wp2_with fail
  refine (rbytes_any g_u 9 [0, 5, 1] 0 w15 (by decide) (by decide) HR_u.out).mono ?_
  rintro e w16 ⟨v_m, rfl, hB, hR, hF⟩
  rw [show bytesOut 9 [0, 5, 1] = [] by decide] at hB
  rw [show bytesRest 9 [0, 5, 1] = [] by decide, show bytesErr 9 [0, 5, 1] 0 = 3 by decide] at hR
  obtain ⟨a_m, c_m, rfl⟩ := hB.form
  have HF16 : Hid (Fr0 w w16) := Lib.hid (fr0_of_fr1 HF15.out hF HG_u.out)
  have HR_s' := Lib.hid (HR_s.out.other HR_u.out HN_s_u.out hF)
  clear HR_s
  have HR_s := HR_s'
  clear HR_s'
  have HR_t' := Lib.hid (HR_t.out.other HR_u.out HN_t_u.out hF)
  clear HR_t
  have HR_t := HR_t'
  clear HR_t'
  have HB_c' := Lib.hid (bytes_fr1 HB_c.out hF HR_u.out.noU8)
  clear HB_c
  have HB_c := HB_c'
  clear HB_c'
  clear HR_u
  have HR_u := Lib.hid hR
  clear hR hF
  clear hB
  go_wp2_with fail
  refine (new_any _ [1, 2, 3, 4] (by decide) (w16.alloc (.cells #[.int .u8 1, .int .u8 2, .int .u8 3, .int .u8 4] 5)) (BytesIs.block (fr := (0, 0)) (heap_alloc_new w16 _) 4 4 rfl (Nat.le_refl _))).mono ?_
  rintro e w17 ⟨g_v, rfl, hg, hR, hF⟩
  have hF2 : Fr0 w16 w17 := Fr.trans' ((Fr.refl _ _).alloc _) hF
  have HN_s_v : Hid (g_s ≠ g_v) := Lib.hid (by have h1 := HR_s.out.lt; have h2 : w16.heap.size ≤ g_v := Nat.le_trans ((Fr.refl (fun _ => False) _).alloc _).size hg; omega)
  have HN_v_s : Hid (g_v ≠ g_s) := Lib.hid (fun h => HN_s_v.out h.symm)
  have HN_t_v : Hid (g_t ≠ g_v) := Lib.hid (by have h1 := HR_t.out.lt; have h2 : w16.heap.size ≤ g_v := Nat.le_trans ((Fr.refl (fun _ => False) _).alloc _).size hg; omega)
  have HN_v_t : Hid (g_v ≠ g_t) := Lib.hid (fun h => HN_t_v.out h.symm)
  have HN_u_v : Hid (g_u ≠ g_v) := Lib.hid (by have h1 := HR_u.out.lt; have h2 : w16.heap.size ≤ g_v := Nat.le_trans ((Fr.refl (fun _ => False) _).alloc _).size hg; omega)
  have HN_v_u : Hid (g_v ≠ g_u) := Lib.hid (fun h => HN_u_v.out h.symm)
  have HG_v : Hid (w.heap.size ≤ g_v) := Lib.hid (Nat.le_trans HF16.out.size (Nat.le_trans ((Fr.refl (fun _ => False) _).alloc _).size hg))
  have HF17 : Hid (Fr0 w w17) := Lib.hid (HF16.out.trans' hF2)
  have HR_s' := Lib.hid (HR_s.out.fr0 hF2)
  have HR_t' := Lib.hid (HR_t.out.fr0 hF2)
  have HR_u' := Lib.hid (HR_u.out.fr0 hF2)
  have HB_c' := Lib.hid (HB_c.out.fr0 hF2)
  clear HR_s
  have HR_s := HR_s'
  clear HR_s'
  clear HR_t
  have HR_t := HR_t'
  clear HR_t'
  clear HR_u
  have HR_u := HR_u'
  clear HR_u'
  clear HB_c
  have HB_c := HB_c'
  clear HB_c'
  have HR_v := Lib.hid hR
  clear hR hF hF2 hg
  go_wp2_with fail
  refine (take_any g_v (0) [1, 2, 3, 4] 0 w17 (by decide) (by decide) HR_v.out).mono ?_
  rintro e w18 ⟨v_n, rfl, hB, hR, hF⟩
  rw [show takeOut (0) [1, 2, 3, 4] = [] by decide] at hB
  rw [show takeRest (0) [1, 2, 3, 4] = [1, 2, 3, 4] by decide, show takeErr (0) [1, 2, 3, 4] 0 = 0 by decide] at hR
  obtain ⟨a_n, c_n, rfl⟩ := hB.form
  have HF18 : Hid (Fr0 w w18) := Lib.hid (fr0_of_fr1 HF17.out hF HG_v.out)
  have HR_s' := Lib.hid (HR_s.out.other HR_v.out HN_s_v.out hF)
  clear HR_s
  have HR_s := HR_s'
  clear HR_s'
  have HR_t' := Lib.hid (HR_t.out.other HR_v.out HN_t_v.out hF)
  clear HR_t
  have HR_t := HR_t'
  clear HR_t'
  have HR_u' := Lib.hid (HR_u.out.other HR_v.out HN_u_v.out hF)
  clear HR_u
  have HR_u := HR_u'
  clear HR_u'
  have HB_c' := Lib.hid (bytes_fr1 HB_c.out hF HR_v.out.noU8)
  clear HB_c
  have HB_c := HB_c'
  clear HB_c'
  clear HR_v
  have HR_v := Lib.hid hR
  clear hR hF
  clear hB
  have hcc : (Go.convert 23 9 (.slice a_c 3 c_c)).run Try.prog w18 = .ok (.string ⟨#[97, 98, 99]⟩) w18 := HB_c.out.convert (P := Try.prog) 23 9 5 Try.underlying23 Try.underlying5 Try.underlying9
  go_wp2_with fail
  refine (err_any g_s [] 2 w18 HR_s.out).mono ?_
  rintro e wx ⟨rfl, rfl⟩
  clear hcc
  go_wp2_with fail
  refine (err_any g_t [] 1 w18 HR_t.out).mono ?_
  rintro e wx ⟨rfl, rfl⟩
  go_wp2_with fail
  refine (err_any g_u [] 3 w18 HR_u.out).mono ?_
  rintro e wx ⟨rfl, rfl⟩
  go_wp2_with fail
  refine (err_any g_v [1, 2, 3, 4] 0 w18 HR_v.out).mono ?_
  rintro e wx ⟨rfl, rfl⟩
  go_wp2_with fail
  refine (ru32_any g_v [1, 2, 3, 4] 0 w18 (by decide) HR_v.out).mono ?_
  rintro e w19 ⟨rfl, hR, hF⟩
  rw [show num (cutOut 4 [1, 2, 3, 4]) = 16909060 by decide]
  rw [show cutRest 4 [1, 2, 3, 4] = [] by decide, show cutErr 4 [1, 2, 3, 4] 0 = 0 by decide] at hR
  have HF19 : Hid (Fr0 w w19) := Lib.hid (fr0_of_fr1 HF18.out hF HG_v.out)
  clear HR_v
  have HR_v := Lib.hid hR
  clear hR hF
  go_wp2_with fail
  refine (u64_any (.slice none 0 0) [] 9223372036854775808 (by decide) (by decide) w19 (BytesIs.nil w19)).mono ?_
  rintro e w20 ⟨v1, rfl, hB, hF⟩
  rw [show [] ++ be 8 9223372036854775808 = [128, 0, 0, 0, 0, 0, 0, 0] by decide] at hB
  have HF20 : Hid (Fr0 w w20) := Lib.hid (HF19.out.trans' hF)
  have hcc := hB.convert (P := Try.prog) 23 9 5 Try.underlying23 Try.underlying5 Try.underlying9
  clear hB hF
  go_wp2_with fail
  refine (u32_any _ [7] 5 (by decide) (by decide) (w20.alloc (.cells #[.int .u8 7] 5)) (BytesIs.block (fr := (0, 0)) (heap_alloc_new w20 _) 1 1 rfl (Nat.le_refl _))).mono ?_
  rintro e w21 ⟨v2, rfl, hB, hF⟩
  rw [show [7] ++ be 4 5 = [7, 0, 0, 0, 5] by decide] at hB
  have hF2 : Fr0 w20 w21 := Fr.trans' ((Fr.refl _ _).alloc _) hF
  have HF21 : Hid (Fr0 w w21) := Lib.hid (HF20.out.trans' hF2)
  have hcc2 := hB.convert (P := Try.prog) 23 9 5 Try.underlying23 Try.underlying5 Try.underlying9
  clear hB hF hF2 hcc
  go_wp2
  go_ret
  exact ⟨rfl, HF21.out⟩
end Go.Proofs.Ytheednoklgccdaa.Pack
