/-
  RingKnown: what chapter 5 says of none, of bounds, of other kinds: the walk.
-/
import Derived.Test.YtgmfheofhpdcfaaRingAwake
import Derived.Test.YtgmfheofhpdcfaaRingStr
import Derived.Test.YtgmfheofhpdcfaaRingBytes
import Derived.Test.YtgmfheofhpdcfaaLaw
import Derived.Lib.SlBytesConst
namespace Go.Proofs.Ytgmfheofhpdcfaa.Ring
open Go.RowKit Go.Conc Base

theorem Keeps.fr0 {w0 w w' : World} (h : Keeps w0 w) (hf : Fr0 w w') : Keeps w0 w' := h.trans (Keeps.of_fr0 hf)
theorem Keeps.fr1 {w0 w w' : World} {c : Nat} (h : Keeps w0 w) (hf : Fr1 c w w') (hc : IsChan w c) : Keeps w0 w' := h.trans (Keeps.of_fr1 hf hc)
set_option maxHeartbeats 4000000 in
set_option maxRecDepth 100000 in
theorem ringKnown_walk (w : World) : Calls Try.prog 3 #[] w fun e w' => e = .returned (.bool true) ∧ Fr0 w w' := by
  have kc := fun (w : World) (C : Array Value) (n c : Nat) => Lib.run_convert_bytes_const (P := Try.prog) w 32 5 C n c Try.underlying32 Try.underlying5
  go_enter Try.func3, Try.ntmps3
  go_wp2_with fail
  refine (awake_any w).mono ?_
  rintro e w1 ⟨rfl, hF⟩
  have HF1 : Hid (Fr0 w w1) := Lib.hid hF
  clear hF
  go_wp2_with fail
  refine (new_str (-3) w1).mono ?_
  rintro e w2 ⟨g, rfl, _, c, hc, hR, hF⟩
  have HC : Hid (w.heap.size ≤ c) := Lib.hid (Nat.le_trans HF1.out.size hc)
  have HR2 := Lib.hid hR
  have HF2 := Lib.hid (HF1.out.trans' hF)
  clear hR hF hc HF1
  go_wp2_with fail
  refine (take_str_none g c _ _ w2 HR2.out).mono ?_
  rintro e w3 ⟨rfl, rfl⟩
  go_wp2_with fail
  refine (put_str_room g c ⟨#[120]⟩ _ _ _ w3 HR2.out (by decide)).mono ?_
  rintro e w4 ⟨rfl, hR, hF⟩
  have HR4 := Lib.hid hR
  have HF4 := Lib.hid (fr0_of_fr1 HF2.out hF HC.out)
  clear hR hF HR2 HF2
  go_wp2_with fail
  refine (put_str_full g c ⟨#[121]⟩ _ _ _ w4 HR4.out (by decide)).mono ?_
  rintro e w5 ⟨rfl, hR, hF⟩
  have HR5 := Lib.hid hR
  have HF5 := Lib.hid (HF4.out.trans' hF)
  clear hR hF HR4 HF4
  go_wp2_with fail
  refine (list_str g c _ _ _ (fun x hx => ⟨_, by simpa using hx⟩) w5 HR5.out).mono ?_
  rintro e w6 ⟨b, ps, rfl, hO, hR, _, hF⟩
  have HL6 : Hid (w6.cell? ⟨b, 0, none⟩ = some (.string ⟨#[120]⟩)) := Lib.hid (by have := hO.cells (g := b) rfl 0 _ rfl; simpa [Addr.add] using this)
  have HR6 := Lib.hid hR
  have HF6 := Lib.hid (fr0_of_fr1 HF5.out hF HC.out)
  clear hR hF hO HR5 HF5
  go_wp2_with fail
  refine (new_bytes 3 w6).mono ?_
  rintro e w7 ⟨g2, rfl, _, c2, hc2, hR, hF⟩
  have HC2 : Hid (w.heap.size ≤ c2) := Lib.hid (Nat.le_trans HF6.out.size hc2)
  have HNE : Hid (c ≠ c2) := Lib.hid (by have := HR6.out.lt; omega)
  have HQ7 : Hid (RowAt w7 g2 c2 61 32 3 [] []) := Lib.hid hR
  have HF7 := Lib.hid (HF6.out.trans' hF)
  have HR7 := Lib.hid (HR6.out.fr0 hF)
  have HK7 : Hid (Keeps w6 w7) := Lib.hid (Keeps.of_fr0 hF)
  clear hR hF hc2 HR6 HF6
  go_wp2_with fail
  have HP8 : Hid ((w7.alloc (.cells #[.int .u8 112] 5 (1, 2))).heap[w7.heap.size]? = some (.cells #[.int .u8 112] 5 (1, 2))) := Lib.hid (heap_alloc_new w7 _)
  have HF8 := Lib.hid (HF7.out.alloc (.cells #[.int .u8 112] 5 (1, 2)))
  have HQ8 := Lib.hid (HQ7.out.fr0 ((Fr.refl _ _).alloc (.cells #[.int .u8 112] 5 (1, 2))))
  have HR8 := Lib.hid (HR7.out.fr0 ((Fr.refl _ _).alloc (.cells #[.int .u8 112] 5 (1, 2))))
  have HK8 := Lib.hid (HK7.out.fr0 ((Fr.refl _ _).alloc (.cells #[.int .u8 112] 5 (1, 2))))
  clear HF7 HQ7 HR7 HK7
  generalize w7.alloc (.cells #[.int .u8 112] 5 (1, 2)) = w8 at *
  generalize w7.heap.size = P at *
  refine (put_bytes_room g2 c2 (some ⟨P, 0, none⟩) 1 1 _ _ _ w8 HQ8.out (by simp)).mono ?_
  rintro e w9 ⟨rfl, hR, hF⟩
  have HQ9 : Hid (RowAt w9 g2 c2 61 32 3 _ [.slice (some ⟨P, 0, none⟩) 1 1]) := Lib.hid hR
  have HR9 := Lib.hid (HR8.out.fr1 hF HQ8.out.chan HNE.out)
  have HF9 := Lib.hid (fr0_of_fr1 HF8.out hF HC2.out)
  have HK9 := Lib.hid (HK8.out.fr1 hF HQ8.out.chan)
  have HP9 := Lib.hid (Keeps.of_fr1 hF HQ8.out.chan _ _ _ _ HP8.out)
  clear hR hF HQ8 HR8 HF8 HK8 HP8
  go_wp2_with fail
  refine (put_bytes_room g2 c2 none 0 0 _ _ _ w9 HQ9.out (by simp)).mono ?_
  rintro e w10 ⟨rfl, hR, hF⟩
  have HQ10 : Hid (RowAt w10 g2 c2 61 32 3 _ [.slice (some ⟨P, 0, none⟩) 1 1, .slice none 0 0]) := Lib.hid hR
  have HR10 := Lib.hid (HR9.out.fr1 hF HQ9.out.chan HNE.out)
  have HF10 := Lib.hid (fr0_of_fr1 HF9.out hF HC2.out)
  have HK10 := Lib.hid (HK9.out.fr1 hF HQ9.out.chan)
  have HP10 := Lib.hid (Keeps.of_fr1 hF HQ9.out.chan _ _ _ _ HP9.out)
  clear hR hF HQ9 HR9 HF9 HK9 HP9
  go_wp2_with fail
  have HF11 := Lib.hid (HF10.out.alloc (.cells #[.int .u8 113] 5 (1, 2)))
  have HQ11 := Lib.hid (HQ10.out.fr0 ((Fr.refl _ _).alloc (.cells #[.int .u8 113] 5 (1, 2))))
  have HR11 := Lib.hid (HR10.out.fr0 ((Fr.refl _ _).alloc (.cells #[.int .u8 113] 5 (1, 2))))
  have HK11 := Lib.hid (HK10.out.fr0 ((Fr.refl _ _).alloc (.cells #[.int .u8 113] 5 (1, 2))))
  have HP11 := Lib.hid (Keeps.of_fr0 ((Fr.refl (fun _ => False) w10).alloc (.cells #[.int .u8 113] 5 (1, 2))) _ _ _ _ HP10.out)
  clear HF10 HQ10 HR10 HK10 HP10
  generalize w10.alloc (.cells #[.int .u8 113] 5 (1, 2)) = w11 at *
  generalize w10.heap.size = Q at *
  refine (put_bytes_room g2 c2 (some ⟨Q, 0, none⟩) 1 1 _ _ _ w11 HQ11.out (by simp)).mono ?_
  rintro e w12 ⟨rfl, hR, hF⟩
  have HQ12 : Hid (RowAt w12 g2 c2 61 32 3 _ [.slice (some ⟨P, 0, none⟩) 1 1, .slice none 0 0, .slice (some ⟨Q, 0, none⟩) 1 1]) := Lib.hid hR
  have HR12 := Lib.hid (HR11.out.fr1 hF HQ11.out.chan HNE.out)
  have HF12 := Lib.hid (fr0_of_fr1 HF11.out hF HC2.out)
  have HK12 := Lib.hid (HK11.out.fr1 hF HQ11.out.chan)
  have HP12 := Lib.hid (Keeps.of_fr1 hF HQ11.out.chan _ _ _ _ HP11.out)
  clear hR hF HQ11 HR11 HF11 HK11 HP11
  go_wp2_with fail
  refine (take_bytes_some g2 c2 (some ⟨P, 0, none⟩) 1 1 _ _ _ w12 HQ12.out).mono ?_
  rintro e w13 ⟨rfl, hR, hF⟩
  have HQ13 : Hid (RowAt w13 g2 c2 61 32 3 _ [.slice none 0 0, .slice (some ⟨Q, 0, none⟩) 1 1]) := Lib.hid hR
  have HR13 := Lib.hid (HR12.out.fr1 hF HQ12.out.chan HNE.out)
  have HF13 := Lib.hid (fr0_of_fr1 HF12.out hF HC2.out)
  have HK13 := Lib.hid (HK12.out.fr1 hF HQ12.out.chan)
  have HP13 := Lib.hid (Keeps.of_fr1 hF HQ12.out.chan _ _ _ _ HP12.out)
  clear hR hF HQ12 HR12 HF12 HK12 HP12
  go_wp2_with fail
  have HS14 : Hid ((w13.alloc (.cells #[.int .u8 114] 5 (1, 2))).heap[w13.heap.size]? = some (.cells #[.int .u8 114] 5 (1, 2))) := Lib.hid (heap_alloc_new w13 _)
  have HF14 := Lib.hid (HF13.out.alloc (.cells #[.int .u8 114] 5 (1, 2)))
  have HQ14 := Lib.hid (HQ13.out.fr0 ((Fr.refl _ _).alloc (.cells #[.int .u8 114] 5 (1, 2))))
  have HR14 := Lib.hid (HR13.out.fr0 ((Fr.refl _ _).alloc (.cells #[.int .u8 114] 5 (1, 2))))
  have HK14 := Lib.hid (HK13.out.fr0 ((Fr.refl _ _).alloc (.cells #[.int .u8 114] 5 (1, 2))))
  have HP14 := Lib.hid (Keeps.of_fr0 ((Fr.refl (fun _ => False) w13).alloc (.cells #[.int .u8 114] 5 (1, 2))) _ _ _ _ HP13.out)
  clear HF13 HQ13 HR13 HK13 HP13
  generalize w13.alloc (.cells #[.int .u8 114] 5 (1, 2)) = w14 at *
  generalize w13.heap.size = S at *
  refine (put_bytes_room g2 c2 (some ⟨S, 0, none⟩) 1 1 _ _ _ w14 HQ14.out (by simp)).mono ?_
  rintro e w15 ⟨rfl, hR, hF⟩
  have HQ15 : Hid (RowAt w15 g2 c2 61 32 3 _ [.slice none 0 0, .slice (some ⟨Q, 0, none⟩) 1 1, .slice (some ⟨S, 0, none⟩) 1 1]) := Lib.hid hR
  have HR15 := Lib.hid (HR14.out.fr1 hF HQ14.out.chan HNE.out)
  have HF15 := Lib.hid (fr0_of_fr1 HF14.out hF HC2.out)
  have HK15 := Lib.hid (HK14.out.fr1 hF HQ14.out.chan)
  have HP15 := Lib.hid (Keeps.of_fr1 hF HQ14.out.chan _ _ _ _ HP14.out)
  have HS15 := Lib.hid (Keeps.of_fr1 hF HQ14.out.chan _ _ _ _ HS14.out)
  clear hR hF HQ14 HR14 HF14 HK14 HP14 HS14
  go_wp2_with fail
  refine (list_bytes g2 c2 _ _ _ (fun x hx => by
    simp only [List.mem_cons, List.not_mem_nil, or_false] at hx
    rcases hx with rfl | rfl | rfl
    all_goals exact ⟨_, _, _, rfl⟩) w15 HQ15.out).mono ?_
  rintro e w16 ⟨b2, ps2, rfl, hO, hR, _, hF⟩
  have m0 := hO.cells (g := b2) rfl 0 _ rfl
  have m2 := hO.cells (g := b2) rfl 2 _ rfl
  have HM0 : Hid (w16.cell? ⟨b2, 0, none⟩ = some (.slice none 0 0)) := Lib.hid (by simpa [Addr.add] using m0)
  have HM2 : Hid (w16.cell? ⟨b2, 2, none⟩ = some (.slice (some ⟨S, 0, none⟩) 1 1)) := Lib.hid (by simpa [Addr.add] using m2)
  have HQ16 := Lib.hid hR
  have HR16 := Lib.hid (HR15.out.fr1 hF HQ15.out.chan HNE.out)
  have HF16 := Lib.hid (fr0_of_fr1 HF15.out hF HC2.out)
  have HK16 := Lib.hid (HK15.out.fr1 hF HQ15.out.chan)
  have HP16 := Lib.hid (Keeps.of_fr1 hF HQ15.out.chan _ _ _ _ HP15.out)
  have HS16 := Lib.hid (Keeps.of_fr1 hF HQ15.out.chan _ _ _ _ HS15.out)
  clear hR hF hO m0 m2 HQ15 HR15 HF15 HK15 HP15 HS15
  have l0 : w16.cell? ⟨b, 0, none⟩ = some (.string ⟨#[120]⟩) := HK16.out.gr.cell HL6.out
  have m0 := HM0.out
  have m2 := HM2.out
  have k1 := (BytesIs.block (l := [112]) HP16.out 1 1 rfl (Nat.le_refl _)).convert (P := Try.prog) 32 9 5 Try.underlying32 Try.underlying5 Try.underlying9
  have k2 := (BytesIs.block (l := [114]) HS16.out 1 1 rfl (Nat.le_refl _)).convert (P := Try.prog) 32 9 5 Try.underlying32 Try.underlying5 Try.underlying9
  clear HK16 HL6 HM0 HM2 HP16 HS16
  go_wp2_with fail
  refine (most_str g c _ _ _ w16 HR16.out).mono ?_
  rintro e w17 ⟨rfl, rfl⟩
  go_wp2_with fail
  refine (len_str g c _ _ _ w16 HR16.out).mono ?_
  rintro e w17 ⟨rfl, rfl⟩
  go_wp2_with fail
  refine (new_int 9999 w16).mono ?_
  rintro e w17 ⟨g3, rfl, _, c3, _, hR, hF⟩
  have HT17 := Lib.hid hR
  have HQ17 := Lib.hid (HQ16.out.fr0 hF)
  have HF17 := Lib.hid (HF16.out.trans' hF)
  clear hR hF HQ16 HF16 l0 m0 m2 k1 k2
  go_wp2_with fail
  refine (most_int g3 c3 _ _ _ w17 HT17.out).mono ?_
  rintro e w18 ⟨rfl, rfl⟩
  go_wp2_with fail
  refine (len_bytes g2 c2 _ _ _ w17 HQ17.out).mono ?_
  rintro e w18 ⟨rfl, rfl⟩
  go_wp2
  go_ret
  exact ⟨rfl, HF17.out⟩
end Go.Proofs.Ytgmfheofhpdcfaa.Ring
