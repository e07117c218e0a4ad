/-
  HoldKnown: what chapter 9 says of room, of handles, of what is dropped, of other parts: the walk (made by wip/tools/holdknown.py).
-/
import Derived.Test.YtkdpdbjefehmpaaHoldOneX
import Derived.Test.YtkdpdbjefehmpaaHoldAlike
import Derived.Test.YtkdpdbjefehmpaaHoldAwake
import Derived.Test.YtkdpdbjefehmpaaCutB
namespace Go.Proofs.Ytkdpdbjefehmpaa.Hold
open Go.RowKit Base Go.Maps Arena
open Blocks (whole whole_le frees nints tout took terr give gave gerr)

abbrev LK : List Int := [40, 96]
def sFirst : List UInt8 := [102, 105, 114, 115, 116]
def sSecond : List UInt8 := [115, 101, 99, 111, 110, 100]
def sX : List UInt8 := [120]
def B0 : List UInt8 := List.replicate 200 0
def B1 : List UInt8 := List.replicate 40 0 ++ sFirst ++ List.replicate 155 0
def B2 : List UInt8 := List.replicate 40 0 ++ sSecond ++ List.replicate 154 0
theorem fitsK : Fits 200 LK := ⟨by decide, by decide, by decide, fun k hk => by
  match k, hk with
  | 0, _ => decide
  | 1, _ => decide, by decide⟩
theorem One.are {base top ga pb cb k g xg mb p : Nat} {ex : List Nat} {L : List Int} {bs : List UInt8} {O : List Bool} {es : List Ent} {w : World} (h : One base top ex w ga pb cb L k g xg mb bs O p es) : AreP w base ga pb cb L bs := by
  obtain ⟨Own, ob, h1, h2, _⟩ := h
  exact h2
theorem bytes_sub {w : World} {qb qo n C : Nat} {l : List UInt8} (h : BytesIs w (.slice (some ⟨qb, qo, none⟩) n C) l) (lo m : Nat) (hl : 0 < l.length) (hm : lo + m ≤ l.length) : BytesIs w (.slice (some ⟨qb, qo + lo, none⟩) m (C - lo)) ((l.drop lo).take m) := by
  obtain ⟨a, cap, pb, po, hv, hle, ha, hc⟩ := h
  simp only [Value.slice.injEq] at hv
  obtain ⟨rfl, rfl, rfl⟩ := hv
  have h1 := ha hl
  simp only [Option.some.injEq, Addr.mk.injEq, and_true] at h1
  obtain ⟨rfl, rfl⟩ := h1
  have hlen : ((l.drop lo).take m).length = m := by rw [List.length_take, List.length_drop]; omega
  refine ⟨_, C - lo, qb, qo + lo, by rw [hlen], by rw [hlen]; omega, fun _ => rfl, fun j hj => ?_⟩
  rw [hlen] at hj
  rw [show qo + lo + j = qo + (lo + j) by omega, hc (lo + j) (by omega)]
  simp only [List.getD_eq_getElem?_getD, List.getElem?_take, List.getElem?_drop, if_pos hj]
theorem b1_is : puts LK 1 [0] sFirst 1 B0 = B1 := by kernel_rfl
theorem b1_still : puts LK 1 [1, 2] (List.replicate 40 0) 2 B1 = B1 := by kernel_rfl
theorem b2_is : puts LK 1 [0] sSecond 1 B1 = B2 := by kernel_rfl
set_option maxHeartbeats 16000000 in
set_option maxRecDepth 100000 in
theorem holdKnown_walk (w : World) : Calls Try.prog 3 #[] w fun e w' => e = .returned (.bool true) ∧ Fr0 w w' := by
  have HB : Hid (∀ (top : Nat) (w' w'' : World), Fr0 w w' → Fr (fun j => (w.heap.size ≤ j ∧ j < top) ∧ j ∉ ([] : List Nat)) w' w'' → Fr0 w w'') := Lib.hid (fun top w' w'' h1 h2 => h1.trans h2 (fun i hi h => by have := h.1.1; omega))
  have kc := fun (w : World) (C : Array Value) (n c : Nat) => Lib.run_convert_bytes_const (P := Try.prog) w 32 5 C n c Try.underlying32 Try.underlying5
  have hm97 : ∀ wx : World, (Instr.makeSlice 32 (.int .i64 97) (.int .i64 97)).run Try.prog wx = .ok (.slice (some ⟨wx.heap.size, 0, none⟩) 97 97) (wx.alloc (.cells (madeCells #[.int .u8 0] 97) 5)) := fun wx => make_bytes 97 (by decide) wx
  have hm40 : ∀ wx : World, (Instr.makeSlice 32 (.int .i64 40) (.int .i64 40)).run Try.prog wx = .ok (.slice (some ⟨wx.heap.size, 0, none⟩) 40 40) (wx.alloc (.cells (madeCells #[.int .u8 0] 40) 5)) := fun wx => make_bytes 40 (by decide) wx
  go_enter Try.func3, Try.ntmps3
  go_wp2_with fail
  refine (awake_any w).mono ?_
  rintro e w0 ⟨rfl, hf⟩
  have HF0 := Lib.hid hf
  clear hf
  go_wp2_with fail
  refine (Arena.new_any 200 _ LK (by decide) (by decide) (by decide) _ (ints_lit w0 _ LK rfl _ _ _ rfl rfl)).mono ?_
  rintro e wA ⟨h1, _, hf⟩
  obtain ⟨ga, pb, cb, rfl, hA⟩ := h1 fitsK
  have HFA : Hid (Fr0 w wA) := Lib.hid (HF0.out.trans' (((Fr.refl _ _).alloc _).trans' hf))
  have HAA : Hid (AreP wA w.heap.size ga pb cb LK B0) := Lib.hid (hA.base (B' := w.heap.size) (by have := HF0.out.size; simp; omega))
  clear hA hf h1
  unfold ptr
  go_wp2_with fail
  refine (new_nil 0 wA).mono ?_
  rintro e wn ⟨rfl, hz⟩
  obtain rfl : wA = wn := hz.symm
  clear hz
  go_wp2_with fail
  refine (new_out w.heap.size ga pb cb LK B0 2 wA HAA.out (.inr (by decide))).mono ?_
  rintro e wo ⟨rfl, hf⟩
  have HFO := Lib.hid (HFA.out.trans' hf)
  have HAO := Lib.hid (HAA.out.fr0 hf)
  clear hf HAA HFA
  go_wp2_with fail
  refine (one_new w.heap.size ga pb cb LK B0 1 wo HAO.out (by decide) HFO.out.size).mono ?_
  rintro e w1 ⟨hf, g, xg, mb, rfl, ho⟩
  rw [show List.replicate (whole (LK.getD 1 0)) false = [false, false, false] from rfl] at ho
  have HO1 := Lib.hid ho
  have HF1 := Lib.hid (HFO.out.trans' hf)
  clear hf ho HAO HFO
  unfold ptr
  go_wp2_with fail
  refine (one_putX w.heap.size _ [] ga pb cb LK 1 g xg mb B0 [false, false, false] 0 [] (List.replicate 97 0) _ _ (by decide) (by decide) (HO1.out.fr0 ((Fr.refl _ _).alloc _)) (BytesIs.block (made_bytes w1 97 5) 97 97 List.length_replicate.symm (Nat.le_refl _)) (fun _ a n c h => by cases h; exact .inr HO1.out.top_le)).mono ?_
  rintro e w2 ⟨hf, hc⟩
  have hfq := hf.size
  have HF2 : Hid (Fr0 w w2) := Lib.hid (HB.out _ _ w2 (HF1.out.trans' ((Fr.refl _ _).alloc _)) hf)
  rcases hc with ⟨hn, _⟩ | ⟨_, rfl, ho⟩
  · exact absurd hn (by decide)
  have HO2 : Hid (One w.heap.size w2.heap.size [] w2 ga pb cb LK 1 g xg mb B0 [false, false, false] 0 []) := Lib.hid ho
  clear hf ho HO1
  go_wp2_with fail
  refine (one_putX w.heap.size _ [] ga pb cb LK 1 g xg mb B0 [false, false, false] 0 [] sFirst _ _ (by decide) (by decide) (HO2.out.fr0 ((Fr.refl _ _).alloc _)) (bytes_mark w2 sFirst #[.int .u8 102, .int .u8 105, .int .u8 114, .int .u8 115, .int .u8 116] 5 (5, 6) 5 rfl 5 (Nat.le_refl _) rfl w2.heap.size rfl) (fun _ a n c h => by cases h; exact .inr HO2.out.top_le)).mono ?_
  rintro e w3 ⟨hf, hc⟩
  have hfq := hf.size
  have HF3 : Hid (Fr0 w w3) := Lib.hid (HB.out _ _ w3 (HF2.out.trans' ((Fr.refl _ _).alloc _)) hf)
  rcases hc with ⟨_, d1, rfl, hid, hx, hT, ho⟩ | ⟨hn, _⟩
  rotate_left
  · exact absurd (by decide) hn
  rw [show tout [false, false, false] (need (sFirst : List UInt8).length : Nat) = [0] from rfl] at hT ho
  rw [show took [false, false, false] (need (sFirst : List UInt8).length : Nat) = [true, false, false] from rfl] at ho
  rw [show ([0] : List Nat).length = 1 from rfl, b1_is] at ho
  have HO3 : Hid (One w.heap.size w3.heap.size [] w3 ga pb cb LK 1 g xg mb B1 [true, false, false] 1 ([] ++ [d1])) := Lib.hid ho
  have HId1 : Hid (d1.id = 1) := Lib.hid hid
  have HXd1 := Lib.hid hx
  have HTd1 := Lib.hid hT
  clear hf ho hid hx hT HO2
  go_wp2_with fail
  refine (one_putX w.heap.size _ [] ga pb cb LK 1 g xg mb B1 [true, false, false] 1 ([] ++ [d1]) (List.replicate 40 0) _ _ (by decide) (by decide) (HO3.out.fr0 ((Fr.refl _ _).alloc _)) (BytesIs.block (made_bytes w3 40 5) 40 40 List.length_replicate.symm (Nat.le_refl _)) (fun _ a n c h => by cases h; exact .inr HO3.out.top_le)).mono ?_
  rintro e w4 ⟨hf, hc⟩
  have hfq := hf.size
  have HF4 : Hid (Fr0 w w4) := Lib.hid (HB.out _ _ w4 (HF3.out.trans' ((Fr.refl _ _).alloc _)) hf)
  rcases hc with ⟨_, d2, rfl, hid, hx, hT, ho⟩ | ⟨hn, _⟩
  rotate_left
  · exact absurd (by decide) hn
  rw [show tout [true, false, false] (need ((List.replicate 40 0) : List UInt8).length : Nat) = [1, 2] from rfl] at hT ho
  rw [show took [true, false, false] (need ((List.replicate 40 0) : List UInt8).length : Nat) = [true, true, true] from rfl] at ho
  rw [show ([1, 2] : List Nat).length = 2 from rfl, b1_still] at ho
  have HO4 : Hid (One w.heap.size w4.heap.size [] w4 ga pb cb LK 1 g xg mb B1 [true, true, true] 2 (([] ++ [d1]) ++ [d2])) := Lib.hid ho
  have HId2 : Hid (d2.id = 2) := Lib.hid hid
  have HXd2 := Lib.hid hx
  have HTd2 := Lib.hid hT
  clear hf ho hid hx hT HO3
  go_wp2_with fail
  refine (one_putX w.heap.size _ [] ga pb cb LK 1 g xg mb B1 [true, true, true] 2 ([] ++ [d1] ++ [d2]) sX _ _ (by decide) (by decide) (HO4.out.fr0 ((Fr.refl _ _).alloc _)) (bytes_mark w4 sX #[.int .u8 120] 5 (1, 2) 1 rfl 1 (Nat.le_refl _) rfl w4.heap.size rfl) (fun _ a n c h => by cases h; exact .inr HO4.out.top_le)).mono ?_
  rintro e w5 ⟨hf, hc⟩
  have hfq := hf.size
  have HF5 : Hid (Fr0 w w5) := Lib.hid (HB.out _ _ w5 (HF4.out.trans' ((Fr.refl _ _).alloc _)) hf)
  rcases hc with ⟨hn, _⟩ | ⟨_, rfl, ho⟩
  · exact absurd hn (by decide)
  have HO5 : Hid (One w.heap.size w5.heap.size [] w5 ga pb cb LK 1 g xg mb B1 [true, true, true] 2 ([] ++ [d1] ++ [d2])) := Lib.hid ho
  clear hf ho HO4
  have hfd1 : find 1 ([] ++ [d1] ++ [d2]) = some d1 := by simp [find, HId1.out]
  go_wp2_with fail
  refine (one_dropX w.heap.size _ [] ga pb cb LK 1 g xg mb B1 [true, true, true] 2 ([] ++ [d1] ++ [d2]) 1 (by decide) d1 hfd1 w5 HO5.out).mono ?_
  rintro e w6 ⟨hf, rfl, ho⟩
  have HF6 : Hid (Fr0 w w6) := Lib.hid (HB.out _ _ w6 HF5.out hf)
  rw [HTd1.out, show gave [true, true, true] (nints [0]) = [false, true, true] from rfl, show drop 1 ([] ++ [d1] ++ [d2]) = [d2] by simp [drop, HId1.out, HId2.out]] at ho
  have HO6 : Hid (One w.heap.size w6.heap.size [] w6 ga pb cb LK 1 g xg mb B1 [false, true, true] 2 [d2]) := Lib.hid ho
  clear hf ho HO5 hfd1
  have hfd2 : find 1 [d2] = none := by simp [find, HId2.out]
  go_wp2_with fail
  refine (one_drop w.heap.size _ [] ga pb cb LK 1 g xg mb B1 [false, true, true] 2 [d2] 1 (by decide) w6 HO6.out).mono ?_
  rintro e w7 ⟨hf, O', ho, hc⟩
  rcases hc with ⟨_, rfl, rfl, hdd⟩ | ⟨d, hd, _⟩
  rotate_left
  · rw [hfd2] at hd; cases hd
  rw [hdd] at ho
  have HF7 : Hid (Fr0 w w7) := Lib.hid (HB.out _ _ w7 HF6.out hf)
  have HO7 : Hid (One w.heap.size w7.heap.size [] w7 ga pb cb LK 1 g xg mb B1 [false, true, true] 2 [d2]) := Lib.hid ho
  clear hf ho HO6 hdd hfd2
  go_wp2_with fail
  refine (one_putX w.heap.size _ [] ga pb cb LK 1 g xg mb B1 [false, true, true] 2 [d2] sSecond _ _ (by decide) (by decide) (HO7.out.fr0 ((Fr.refl _ _).alloc _)) (bytes_mark w7 sSecond #[.int .u8 115, .int .u8 101, .int .u8 99, .int .u8 111, .int .u8 110, .int .u8 100] 5 (6, 7) 6 rfl 6 (Nat.le_refl _) rfl w7.heap.size rfl) (fun _ a n c h => by cases h; exact .inr HO7.out.top_le)).mono ?_
  rintro e w8 ⟨hf, hc⟩
  have hfq := hf.size
  have HF8 : Hid (Fr0 w w8) := Lib.hid (HB.out _ _ w8 (HF7.out.trans' ((Fr.refl _ _).alloc _)) hf)
  rcases hc with ⟨_, d3, rfl, hid, hx, hT, ho⟩ | ⟨hn, _⟩
  rotate_left
  · exact absurd (by decide) hn
  rw [show tout [false, true, true] (need (sSecond : List UInt8).length : Nat) = [0] from rfl] at hT ho
  rw [show took [false, true, true] (need (sSecond : List UInt8).length : Nat) = [true, true, true] from rfl] at ho
  rw [show ([0] : List Nat).length = 1 from rfl, b2_is] at ho
  have HO8 : Hid (One w.heap.size w8.heap.size [] w8 ga pb cb LK 1 g xg mb B2 [true, true, true] 3 ([d2] ++ [d3])) := Lib.hid ho
  have HId3 : Hid (d3.id = 3) := Lib.hid hid
  have HXd3 := Lib.hid hx
  have HTd3 := Lib.hid hT
  clear hf ho hid hx hT HO7
  have hg1 : find 1 ([d2] ++ [d3]) = none := by simp [find, HId2.out, HId3.out]
  have hg3 : find 3 ([d2] ++ [d3]) = some d3 := by simp [find, HId2.out, HId3.out]
  obtain ⟨Own8, ob8, hp8⟩ := HO8.out.is
  have hn8 := get_none Own8 1 ga g xg ob8 mb _ _ _ 1 (by decide) hg1 w8 hp8
  clear hp8
  go_wp2_with fail
  refine hn8.mono ?_
  rintro e w9 ⟨rfl, hf⟩
  have HF9 := Lib.hid (HF8.out.trans' hf)
  have HF89 : Hid (w8.heap.size ≤ w9.heap.size) := Lib.hid hf.size
  have HO9 := Lib.hid (HO8.out.fr0 hf)
  clear hf hn8 HO8 hg1
  go_wp2_with fail
  refine (one_get w.heap.size _ [] ga pb cb LK 1 g xg mb B2 [true, true, true] 3 ([d2] ++ [d3]) 3 (by decide) d3 hg3 w9 HO9.out).mono ?_
  rintro e w10 ⟨v3, rfl, hb, hf, hfr⟩
  have HFR3 : Hid (∀ a n c, v3 = .slice (some a) n c → w8.heap.size ≤ a.block) := Lib.hid (fun a n c hv => Nat.le_trans HF89.out (hfr a n c hv))
  clear hfr
  rw [HXd3.out] at hb
  have HB3 := Lib.hid hb
  have HF10 := Lib.hid (HF9.out.trans' hf)
  have HO10 := Lib.hid (HO9.out.fr0 hf)
  have HT10 := Lib.hid HO10.out.top_le
  clear hf hb HO9 hg3
  go_wp2_with fail
  refine (one_putX w.heap.size _ [] ga pb cb LK 1 g xg mb B2 [true, true, true] 3 ([d2] ++ [d3]) [] _ _ (by decide) (by decide) (HO10.out.fr0 (Fr.refl _ _)) (BytesIs.nil w10) (fun hx0 a n c h => absurd rfl hx0)).mono ?_
  rintro e w11 ⟨hf, hc⟩
  have HFQ := Lib.hid hf
  have HF11 : Hid (Fr0 w w11) := Lib.hid (HB.out _ _ w11 (HF10.out.trans' (Fr.refl _ _)) hf)
  rcases hc with ⟨_, d4, rfl, hid, hx, hT, ho⟩ | ⟨hn, _⟩
  rotate_left
  · exact absurd (by decide) hn
  rw [show tout [true, true, true] (need ([] : List UInt8).length : Nat) = [] from rfl] at hT ho
  rw [show took [true, true, true] (need ([] : List UInt8).length : Nat) = [true, true, true] from rfl] at ho
  rw [show puts LK 1 [] [] ([] : List Nat).length B2 = B2 from rfl] at ho
  have HO11 : Hid (One w.heap.size w11.heap.size [] w11 ga pb cb LK 1 g xg mb B2 [true, true, true] 4 (([d2] ++ [d3]) ++ [d4])) := Lib.hid ho
  have HId4 : Hid (d4.id = 4) := Lib.hid hid
  have HXd4 := Lib.hid hx
  have HTd4 := Lib.hid hT
  clear hf ho hid hx hT HO10
  have hg4 : find 4 ([d2] ++ [d3] ++ [d4]) = some d4 := by simp [find, HId2.out, HId3.out, HId4.out]
  have hid4 : ids ([d2] ++ [d3] ++ [d4]) = [2, 3, 4] := by simp [ids, HId2.out, HId3.out, HId4.out]
  have hlv4 : live ([d2] ++ [d3] ++ [d4]) = 46 := by simp [live, HXd2.out, HXd3.out, HXd4.out, sSecond]
  have HID4 := Lib.hid hid4
  have HLV4 := Lib.hid hlv4
  have HB11 : Hid (BytesIs w11 v3 sSecond) := Lib.hid (HB3.out.fr HFQ.out (fun a n c h hh => by have := HFR3.out a n c h; have := hh.1.2; omega))
  clear hid4 hlv4
  go_wp2_with fail
  refine (one_get w.heap.size _ [] ga pb cb LK 1 g xg mb B2 [true, true, true] 4 ([d2] ++ [d3] ++ [d4]) 4 (by decide) d4 hg4 w11 HO11.out).mono ?_
  rintro e w12 ⟨v4, rfl, hb, hf, _⟩
  rw [HXd4.out] at hb
  obtain ⟨A4, C4, _, _, rfl, _⟩ := hb
  have HF12 := Lib.hid (HF11.out.trans' hf)
  have HO12 := Lib.hid (HO11.out.fr0 hf)
  have HB12 := Lib.hid (HB11.out.fr0 hf)
  clear hf HO11 hg4
  go_wp2_with fail
  refine (all_any w.heap.size ga pb cb LK B2 w12 HO12.out.are).mono ?_
  rintro e w13 ⟨v5, rfl, hb, hf⟩
  have HBA := Lib.hid hb
  obtain ⟨A5, C5, qb, qo, rfl, hC5, hA5, hc5⟩ := hb
  obtain rfl := hA5 (by decide)
  have hd39 := hc5 39 (by decide)
  rw [show B2.length = 200 from rfl] at hC5 ⊢
  have hC6 : (46 : Int) ≤ (C5 : Int) := by omega
  have HF13 := Lib.hid (HF12.out.trans' hf)
  have HO13 := Lib.hid (HO12.out.fr0 hf)
  have hcv := (HB12.out.fr0 hf).convert (P := Try.prog) 32 9 5 Try.underlying32 Try.underlying5 Try.underlying9
  have HD39 : Hid (w13.cell? ⟨qb, qo + 39, none⟩ = some (.int .u8 0)) := Lib.hid hd39
  clear hf HO12 hA5 hc5 hd39
  go_wp2_with fail
  refine (one_list w.heap.size _ [] ga pb cb LK 1 g xg mb B2 [true, true, true] 4 ([d2] ++ [d3] ++ [d4]) (by decide) w13 HO13.out).mono ?_
  rintro e w14 ⟨v6, rfl, hi, hf, _⟩
  rw [HID4.out] at hi
  have HI6 := Lib.hid hi
  have HF14 := Lib.hid (HF13.out.trans' hf)
  have HO14 := Lib.hid (HO13.out.fr0 hf)
  have HBA14 := Lib.hid (HBA.out.fr0 hf)
  have HD14 := Lib.hid ((hf.cell (p := ⟨qb, qo + 39, none⟩) (World.block_lt_of_cell? w13 _ HD39.out) (fun f => f)).trans HD39.out)
  clear hf hi HO13 hcv
  go_wp2_with fail
  refine (alike_any _ _ [2, 3, 4] [2, 3, 4] (by decide) (by decide) _ (HI6.out.fr0 ((Fr.refl _ _).alloc _)) (ints_lit w14 _ [2, 3, 4] rfl _ _ _ rfl rfl)).mono ?_
  rintro e w15 ⟨rfl, hf⟩
  rw [show decide (([2, 3, 4] : List Int) = [2, 3, 4]) = true by decide]
  have HF15 : Hid (Fr0 w w15) := Lib.hid (HF14.out.trans' (((Fr.refl _ _).alloc _).trans' hf))
  have hf14 : Fr0 w14 w15 := ((Fr.refl _ _).alloc _).trans' hf
  have HO15 := Lib.hid (HO14.out.fr0 hf14)
  have HBA15 := Lib.hid (HBA14.out.fr0 hf14)
  have HD15 := Lib.hid ((hf14.cell (p := ⟨qb, qo + 39, none⟩) (World.block_lt_of_cell? w14 _ HD14.out) (fun f => f)).trans HD14.out)
  clear hf hf14 HO14
  go_wp2_with fail
  refine (one_live w.heap.size _ [] ga pb cb LK 1 g xg mb B2 [true, true, true] 4 ([d2] ++ [d3] ++ [d4]) w15 HO15.out).mono ?_
  rintro e w16 ⟨rfl, hf⟩
  rw [HLV4.out]
  have HF16 := Lib.hid (HF15.out.trans' hf)
  have HO16 := Lib.hid (HO15.out.fr0 hf)
  have HBA16 := Lib.hid (HBA15.out.fr0 hf)
  have HD16 := Lib.hid ((hf.cell (p := ⟨qb, qo + 39, none⟩) (World.block_lt_of_cell? w15 _ HD15.out) (fun f => f)).trans HD15.out)
  clear hf HO15
  go_wp2_with fail
  refine (one_room w.heap.size _ [] ga pb cb LK 1 g xg mb B2 [true, true, true] 4 ([d2] ++ [d3] ++ [d4]) w16 HO16.out).mono ?_
  rintro e w17 ⟨rfl, hf⟩
  rw [show ((frees [true, true, true]).length : Int) = 0 from rfl]
  have HF17 := Lib.hid (HF16.out.trans' hf)
  have d39 := (hf.cell (p := ⟨qb, qo + 39, none⟩) (World.block_lt_of_cell? w16 _ HD16.out) (fun f => f)).trans HD16.out
  have hbs := bytes_sub (HBA16.out.fr0 hf) 40 6 (by decide) (by decide)
  rw [show (B2.drop 40).take 6 = sSecond from rfl] at hbs
  have hcs := hbs.convert (P := Try.prog) 32 9 5 Try.underlying32 Try.underlying5 Try.underlying9
  clear hf hbs
  go_wp2
  go_ret
  exact ⟨rfl, HF17.out⟩
end Go.Proofs.Ytkdpdbjefehmpaa.Hold
