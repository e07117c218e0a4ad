/-
  AskKnown walked.
-/
import Derived.Test.YtemfohccnpopfaaAskSizes
import Derived.Laws.MakeOwn
import Derived.Lib.ItoaWalk
namespace Go.Proofs.Ytemfohccnpopfaa.AskL
open Go.RowKit Base Pack _root_.Go.Proofs.Ytemfohccnpopfaa.Ask

theorem make17 (w : World) : (Instr.makeSlice 25 (.int .i64 17) (.int .i64 17)).run Try.prog w = .ok (.slice (some ⟨w.heap.size, 0, none⟩) 17 17) (w.alloc (.cells (madeCells #[.int .i64 0, .int .i64 0] 34) 24)) := by
  obtain ⟨i, hi, hz0, hz1, hz2⟩ := info_parts infoSmP
  have := run_make (P := Try.prog) (w := w) 25 24 i (.agg #[.int .i64 0, .int .i64 0]) Try.underlying25 hi hz0 .i64 .i64 17 17 (by omega) (by omega) (by rw [hz2]; omega) (by omega)
  rw [this, hz1]
  rfl
theorem pget_no (v : Value) (b : List UInt8) (er : Int) (h : (getB b).2 = er) (he : er ≠ 0) (hb : b.length ≤ 140737488355328) (w : World) (hB : BytesIs w v b) :
    Calls Try.prog 11 #[v] w fun e w' => ∃ A C, e = .returned (.tuple #[.agg #[.int .i64 0, .string ⟨#[]⟩, .slice A 0 C, .int .i64 0, .int .i64 0, .int .i64 0], .int .i64 er]) ∧ Fr0 w w' := by
  refine (pget_any v b hb w hB).mono ?_
  rintro e w' ⟨A, C, rfl, _, hF⟩
  have hz := getB_err b (by rw [h]; exact he)
  refine ⟨A, C, ?_, hF⟩
  rw [h, hz]
  rfl
/-- the requests that may not be, where their samples lie -/
def bad : Nat → Rq
  | 0 => ⟨0, [], [], 0, 0, 0⟩
  | 1 => ⟨3, [97], [], 0, 0, 1⟩
  | 2 => ⟨1, [97], [], 0, 0, 0⟩
  | 3 => ⟨1, [97], List.replicate 17 (0, 0), 0, 0, 0⟩
  | 4 => ⟨1, [97], [(1, -1)], 1, 0, 0⟩
  | 5 => ⟨1, [], [(1, -1)], 0, 0, 0⟩
  | 6 => ⟨1, [65], [(1, -1)], 0, 0, 0⟩
  | 7 => ⟨1, [97, 98, 99, 100, 101, 102, 103, 104, 105, 106, 107, 108, 109, 110, 111, 112, 113], [(1, -1)], 0, 0, 0⟩
  | 8 => ⟨2, [97], [], 0, 0, 0⟩
  | 9 => ⟨2, [97], [], 0, 0, 32⟩
  | _ => ⟨2, [97], [(1, -1)], 0, 0, 1⟩
def badA (N : Nat) : Nat → Option Addr
  | 3 => some ⟨N + 1, 0, none⟩
  | 4 => some ⟨N, 0, none⟩
  | 5 => some ⟨N, 0, none⟩
  | 6 => some ⟨N, 0, none⟩
  | 7 => some ⟨N, 0, none⟩
  | 10 => some ⟨N, 0, none⟩
  | _ => none
def badC : Nat → Nat
  | 3 => 17
  | 4 => 1
  | 5 => 1
  | 6 => 1
  | 7 => 1
  | 10 => 1
  | _ => 0
def badCells (N : Nat) : Array Value := ((List.range 11).flatMap fun i => [.int .i64 (bad i).k, .string ⟨(bad i).n.toArray⟩, .slice (badA N i) (bad i).s.length (badC i), .int .i64 (bad i).f, .int .i64 (bad i).t, .int .i64 (bad i).wn]).toArray
theorem bad_no : ∀ i, i < 11 → good (bad i) = false ∧ (bad i).n.length ≤ 100 := by decide
theorem bad_cells (W : World) (g N : Nat) (h : W.heap[g]? = some (.cells (badCells N) 27 (0, 0))) (i : Nat) (hi : i < 11) :
    W.cell? ⟨g, i * 6, none⟩ = some (.int .i64 (bad i).k) ∧ W.cell? ⟨g, i * 6 + 1, none⟩ = some (.string ⟨(bad i).n.toArray⟩) ∧ W.cell? ⟨g, i * 6 + 2, none⟩ = some (.slice (badA N i) (bad i).s.length (badC i)) ∧ W.cell? ⟨g, i * 6 + 3, none⟩ = some (.int .i64 (bad i).f) ∧ W.cell? ⟨g, i * 6 + 4, none⟩ = some (.int .i64 (bad i).t) ∧ W.cell? ⟨g, i * 6 + 5, none⟩ = some (.int .i64 (bad i).wn) := by
  rw [cell_of_row _ _ _ _ _ _ h, cell_of_row _ _ _ _ _ _ h, cell_of_row _ _ _ _ _ _ h, cell_of_row _ _ _ _ _ _ h, cell_of_row _ _ _ _ _ _ h, cell_of_row _ _ _ _ _ _ h]
  match i, hi with
  | 0, _ => exact ⟨rfl, rfl, rfl, rfl, rfl, rfl⟩
  | 1, _ => exact ⟨rfl, rfl, rfl, rfl, rfl, rfl⟩
  | 2, _ => exact ⟨rfl, rfl, rfl, rfl, rfl, rfl⟩
  | 3, _ => exact ⟨rfl, rfl, rfl, rfl, rfl, rfl⟩
  | 4, _ => exact ⟨rfl, rfl, rfl, rfl, rfl, rfl⟩
  | 5, _ => exact ⟨rfl, rfl, rfl, rfl, rfl, rfl⟩
  | 6, _ => exact ⟨rfl, rfl, rfl, rfl, rfl, rfl⟩
  | 7, _ => exact ⟨rfl, rfl, rfl, rfl, rfl, rfl⟩
  | 8, _ => exact ⟨rfl, rfl, rfl, rfl, rfl, rfl⟩
  | 9, _ => exact ⟨rfl, rfl, rfl, rfl, rfl, rfl⟩
  | 10, _ => exact ⟨rfl, rfl, rfl, rfl, rfl, rfl⟩
theorem bad_pairs (W : World) (N : Nat) (h1 : PairsIs W (.slice (some ⟨N, 0, none⟩) 1 1) [(1, -1)]) (h2 : PairsIs W (.slice (some ⟨N + 1, 0, none⟩) 17 17) (List.replicate 17 (0, 0))) (i : Nat) (hi : i < 11) :
    PairsIs W (.slice (badA N i) (bad i).s.length (badC i)) (bad i).s := by
  match i, hi with
  | 0, _ => exact pairs_nil W
  | 1, _ => exact pairs_nil W
  | 2, _ => exact pairs_nil W
  | 3, _ => exact h2
  | 4, _ => exact h1
  | 5, _ => exact h1
  | 6, _ => exact h1
  | 7, _ => exact h1
  | 8, _ => exact pairs_nil W
  | 9, _ => exact pairs_nil W
  | 10, _ => exact h1
theorem pairs_made (w : World) : PairsIs (w.alloc (.cells (madeCells #[.int .i64 0, .int .i64 0] 34) 24)) (.slice (some ⟨w.heap.size, 0, none⟩) 17 17) (List.replicate 17 (0, 0)) := by
  refine ⟨_, 17, w.heap.size, 0, rfl, Nat.le_refl _, fun _ => rfl, fun j hj => ?_⟩
  rw [cell_of_row _ _ _ _ _ _ (heap_alloc_new w _), cell_of_row _ _ _ _ _ _ (heap_alloc_new w _)]
  have hj' : j < 17 := by simpa using hj
  have hg : (List.replicate 17 ((0 : Int), (0 : Int))).getD j (0, 0) = (0, 0) := by
    rw [List.getD_eq_getElem?_getD, List.getElem?_replicate, if_pos hj']
    rfl
  rw [hg]
  have e1 : 0 + j * 2 < 34 := by omega
  have e2 : 0 + j * 2 + 1 < 34 := by omega
  simp [madeCells, show j * 2 < 34 by omega, show j * 2 + 1 < 34 by omega, Nat.add_mod, Nat.mul_mod]
theorem pairs_one (w : World) (t : TypeId) : PairsIs (w.alloc (.cells #[.int .i64 1, .int .i64 (-1)] t)) (.slice (some ⟨w.heap.size, 0, none⟩) 1 1) [(1, -1)] := by
  refine ⟨_, 1, w.heap.size, 0, rfl, Nat.le_refl _, fun _ => rfl, fun j hj => ?_⟩
  rw [cell_of_row _ _ _ _ _ _ (heap_alloc_new w _), cell_of_row _ _ _ _ _ _ (heap_alloc_new w _)]
  match j, hj with
  | 0, _ => exact ⟨rfl, rfl⟩
/-- the request that may be -/
def g1 : Rq := ⟨1, [97, 98, 95, 57], [(1, -1)], 0, 0, 0⟩
theorem g1_good : good g1 = true := by decide
theorem g1_len : (putB g1).length = 24 := by rw [putB_length g1 g1_good]; rfl
theorem g1_front : ∀ i, i < 24 → (getB ((putB g1).take i)).2 = 3 := by decide +kernel
theorem g1_more : (getB (putB g1 ++ [0])).2 = 2 := by decide +kernel
theorem k1 : (getB [0]).2 = 2 := by decide +kernel
theorem k2 : (getB [1, 0, 17]).2 = 2 := by decide +kernel
theorem k3 : (getB [1, 0, 1, 97, 0]).2 = 2 := by decide +kernel
theorem k4 : (getB [1, 0, 1, 65, 1, 0, 0, 0, 0, 0, 0, 0, 0, 0, 0, 0, 0, 0, 0, 0, 0]).2 = 2 := by decide +kernel
theorem lit_bytes (w : World) (l : List UInt8) (c : Array Value) (hc : c = (bvals l).toArray) (hl : l.length ≤ 1000) (n : Nat) (hn : n = l.length) (t : TypeId) : BytesIs (w.alloc (.cells c t)) (.slice (some ⟨w.heap.size, 0, none⟩) n n) l := by
  subst hc hn
  exact BytesIs.new w l _ t _ rfl _ (Nat.le_refl _) (fun j hj => by
    rw [List.getElem?_toArray]
    simp [bvals, hj]) _ rfl
set_option maxRecDepth 100000 in
set_option maxHeartbeats 8000000 in
theorem askKnown_walk (w : World) :
    Calls Try.prog 3 #[] w fun e w' => e = .returned (.bool true) ∧ Fr0 w w' := by
  go_enter Try.func3, Try.ntmps3
  go_wp2_with fail
  refine (awake_any _).mono ?_
  rintro e W1 ⟨rfl, hF1⟩
  have HF1 := Lib.hid hF1
  clear hF1
  have hmk := fun wx : World => make17 wx
  have hone := pairs_one W1 24
  have hmade := pairs_made (W1.alloc (.cells #[.int .i64 1, .int .i64 (-1)] 24))
  obtain ⟨W3, hW3⟩ : ∃ W3, W3 = (W1.alloc (.cells #[.int .i64 1, .int .i64 (-1)] 24)).alloc (.cells (madeCells #[.int .i64 0, .int .i64 0] 34) 24) := ⟨_, rfl⟩
  have hs3 : W3.heap.size = W1.heap.size + 1 + 1 := by rw [hW3]; simp
  have hF3 : Fr0 W1 W3 := by rw [hW3]; exact ((Fr.refl _ _).alloc _).alloc _
  have hone3 : PairsIs W3 (.slice (some ⟨W1.heap.size, 0, none⟩) 1 1) [(1, -1)] := by rw [hW3]; exact hone.fr0 ((Fr.refl _ _).alloc _)
  rw [show (W1.alloc (.cells #[.int .i64 1, .int .i64 (-1)] 24)).heap.size = W1.heap.size + 1 by simp, ← hW3] at hmade
  obtain ⟨W4, hW4⟩ : ∃ W4, W4 = W3.alloc (.cells (badCells W1.heap.size) 27) := ⟨_, rfl⟩
  have hh4 : W4.heap[W1.heap.size + 1 + 1]? = some (.cells (badCells W1.heap.size) 27 (0, 0)) := by rw [hW4, ← hs3]; exact heap_alloc_new W3 _
  have hF34 : Fr0 W3 W4 := by rw [hW4]; exact (Fr.refl _ _).alloc _
  have HF4 := Lib.hid (HF1.out.trans' (hF3.trans' hF34))
  have HCB : Hid (∀ wr, Fr0 W4 wr → ∀ i, i < 11 → _) := Lib.hid (fun wr hf i hi => bad_cells wr _ _ (hf.heap hh4 (fun f => f)) i hi)
  have HONE := Lib.hid (hone3.fr0 hF34)
  have HPB := Lib.hid (bad_pairs W4 W1.heap.size (hone3.fr0 hF34) (hmade.fr0 hF34))
  have HW3 := Lib.hid hW3
  have HW4 := Lib.hid hW4
  clear hone hmade hW3 hs3 hF3 hone3 hW4 hh4 hF34 HF1
  go_wp2_with fail
  go_name_world w4 hw4
  have hw5 : w4 = W4 := by rw [HW4.out, HW3.out]; exact hw4.symm
  clear hw4 HW3 HW4 hmk
  subst hw5
  go_loopg [3] 11 (fun kx vi wr => ∃ i : Nat, vi = .int .i64 (i : Int) ∧ i ≤ 11 ∧ 11 - i ≤ kx ∧ Hid (Fr0 w4 wr))
  case atStart => exact ⟨0, rfl, Nat.zero_le _, by omega, Lib.hid (Fr.refl _ _)⟩
  case round =>
    obtain ⟨i, rfl, hi, hk, HFR⟩ := hrel
    by_cases hlt : i < 11
    · obtain ⟨l0, l1, l2, l3, l4, l5⟩ := HCB.out wr HFR.out i hlt
      have i1 : (i : Int) < 11 := by omega
      have i2 : 0 ≤ (i : Int) := by omega
      obtain ⟨hno, hnl⟩ := bad_no i hlt
      have hput := pput_any (badA W1.heap.size i) (badC i) (bad i) (by omega) wr ((HPB.out i hlt).fr0 HFR.out)
      unfold PutPost at hput
      rw [(putErr_no hno).1] at hput
      go_wp2_with fail
      refine hput.mono ?_
      clear hput l0 l1 l2 l3 l4 l5
      rintro e w2 ⟨v2, rfl, _, hF2⟩
      have HFR2 := Lib.hid (HFR.out.trans' hF2)
      obtain ⟨l0, l1, l2, l3, l4, l5⟩ := HCB.out w2 HFR2.out i hlt
      have hgd := pgood_any (badA W1.heap.size i) (badC i) (bad i) (by omega) w2
      rw [hno] at hgd
      clear hF2
      go_wp2_with fail
      refine hgd.mono ?_
      clear hgd l0 l1 l2 l3 l4 l5
      rintro e w3 ⟨rfl, hF3⟩
      have HFR3 := Lib.hid (HFR2.out.trans' hF3)
      clear hF3 hno
      go_wp2
      go_roundg (11 - (i + 1))
      case measure => omega
      case rel => exact ⟨i + 1, by simp, by omega, by omega, HFR3⟩
    · obtain rfl : i = 11 := by omega
      have hput := put_good (some ⟨W1.heap.size, 0, none⟩) 1 g1 g1_good wr (HONE.out.fr0 HFR.out)
      obtain ⟨L, hL⟩ : ∃ L, L = (putB g1).length := ⟨_, rfl⟩
      rw [← hL] at hput
      have HL : Hid (L = 24) := Lib.hid (hL.trans g1_len)
      have hL24 : L ≤ 24 := by rw [HL.out]; exact Nat.le_refl _
      have hz24 : ((L : Int) != 24) = false := by rw [HL.out]; rfl
      have HF5 := Lib.hid (HF4.out.trans' HFR.out)
      go_wp2_with fail
      refine hput.mono ?_
      clear hput
      rintro e W5 ⟨A, C, rfl, hB, hF⟩
      have HF5 := Lib.hid (HF5.out.trans' hF)
      have HX := Lib.hid hB
      have hcap : L ≤ C := by
        obtain ⟨_, _, _, _, he, h1, _⟩ := hB
        simp only [Value.slice.injEq] at he
        omega
      have HXL : Hid ((putB g1).length = L) := Lib.hid hL.symm
      clear hL
      have HFT := Lib.hid g1_front
      have HMORE := Lib.hid g1_more
      clear hB hF
      generalize putB g1 = X at *
      go_wp2_with fail
      go_loopg [8] L (fun kx vi wr => ∃ i : Nat, vi = .int .i64 (i : Int) ∧ i ≤ L ∧ L - i ≤ kx ∧ Hid (Fr0 W5 wr))
      case atStart => exact ⟨0, rfl, Nat.zero_le _, by omega, Lib.hid (Fr.refl _ _)⟩
      case round =>
        obtain ⟨i, rfl, hi, hk, HFR⟩ := hrel
        by_cases hlt : i < L
        · have i1 : (i : Int) < (L : Int) := by omega
          have i2 : 0 ≤ (i : Int) := by omega
          have hcut := fun wx : World => cut_hi_at (P := Try.prog) 29 5 Try.underlying29 (by kernel_rfl) A L C i (by omega) wx
          have hx : BytesIs wr (.slice A i C) (X.take i) := BytesIs.takeHi (by rw [HXL.out]; omega) (show BytesIs wr (.slice A X.length C) X by rw [HXL.out]; exact HX.out.fr0 HFR.out)
          have hget := pget_no _ (X.take i) 3 (HFT.out i (by have := HL.out; omega)) (by decide) (by rw [List.length_take]; have h1 := HXL.out; have h2 := HL.out; omega) wr hx
          clear hx
          go_wp2_with fail
          refine hget.mono ?_
          clear hget hcut
          rintro e w2 ⟨A2, C2, rfl, hF2⟩
          have HFR2 := Lib.hid (HFR.out.trans' hF2)
          clear hF2
          have hg4 := heap_alloc_new w2 (.cells #[.int .i64 0, .string ⟨#[]⟩, .slice none 0 0, .int .i64 0, .int .i64 0, .int .i64 0] 27)
          obtain ⟨w3, hW4⟩ : ∃ W4, W4 = (w2.alloc (.cells #[.int .i64 0, .string ⟨#[]⟩, .slice none 0 0, .int .i64 0, .int .i64 0, .int .i64 0] 27)).setRow w2.heap.size #[.int .i64 0, .string ⟨#[]⟩, .slice A2 0 C2, .int .i64 0, .int .i64 0, .int .i64 0] := ⟨_, rfl⟩
          have HFK := Lib.hid (show Fr0 w2 w3 by rw [hW4]; exact Fr.setRow ((Fr.refl _ _).alloc _) (fun h => absurd h (Nat.lt_irrefl _)) _)
          have HWK := Lib.hid hW4
          have HGK := Lib.hid hg4
          have HFR2 := Lib.hid (HFR2.out.trans' HFK.out)
          clear hg4 hW4
          go_wp2_with (refine wpList_store_row rfl 27 _ _ rfl w2.heap.size #[.int .i64 0, .string ⟨#[]⟩, .slice A2 0 C2, .int .i64 0, .int .i64 0, .int .i64 0] rfl rfl 27 _ HGK.out infoAskP rfl (ask_one _ _ _ _ _ _ rfl) ?_; rw [← HWK.out]; clear HWK HGK)
          go_roundg (L - (i + 1))
          case measure => omega
          case rel => exact ⟨i + 1, by simp, by omega, by omega, HFR2⟩
        · obtain rfl : i = L := by omega
          have HX6 := Lib.hid (HX.out.fr0 HFR.out)
          have HF6 := Lib.hid (HF5.out.trans' HFR.out)
          have hs0 : ∀ wx : World, Fr0 wx (wx.alloc (.cells #[] 5)) := fun wx => (Fr.refl _ _).alloc _
          go_wp2_with (refine wpList_append_bytes rfl (.tmp 95) (.tmp 96) 29 rfl wr.heap.size 5 Try.underlying29 info8 _ _ 0 [] X rfl rfl (owns_empty wr wr.heap.size _ (Nat.le_refl _) _ rfl) (HX6.out.fr0 ((Fr.refl _ _).alloc _)) (by have h1 := HXL.out; have h2 := HL.out; omega) ((Fr.refl (fun _ => False) _).alloc _).size ?_)
          intro v7 w7 hO7 hG7
          have HF7 : Hid (Fr0 wr w7) := Lib.hid (((Fr.refl _ _).alloc _).grown hG7 (fun k hk e => by cases e; exact absurd hk (Nat.lt_irrefl _)))
          have HO7 : Hid (w7.ownsRow wr.heap.size 5 1 v7 i (bvals X)) := Lib.hid (by have h := hO7; simp only [List.nil_append, HXL.out, Nat.zero_add] at h; exact h)
          obtain ⟨A7, C7, rfl, _⟩ := owns_form HO7.out
          clear hO7 hG7
          have HL7 := Lib.hid ((Fr.refl (fun _ => False) w7).alloc (.cells #[.int .u8 0] 5))
          have HO8 := Lib.hid (ownsFr HL7.out HO7.out (fun _ _ f => f))
          have HZ8 : Hid (BytesIs (w7.alloc (.cells #[.int .u8 0] 5)) (.slice (some ⟨w7.heap.size, 0, none⟩) 1 1) [0]) := Lib.hid (lit_bytes w7 [0] _ rfl (by decide) 1 rfl _)
          have hsz8 : wr.heap.size ≤ (w7.alloc (.cells #[.int .u8 0] 5)).heap.size := Nat.le_trans HF7.out.size HL7.out.size
          go_wp2_with (refine wpList_append_bytes rfl (.tmp 97) (.tmp 98) 29 rfl wr.heap.size 5 Try.underlying29 info8 _ _ i X [0] rfl rfl HO8.out HZ8.out (by have h2 := HL.out; simp; omega) hsz8 ?_)
          intro v9 w9 hO9 hG9
          have HF9 : Hid (Fr0 wr w9) := Lib.hid ((HF7.out.trans' HL7.out).grown hG9 (fun k hk e => by have := (HO8.out.lt k e).1; omega))
          have HF9 := Lib.hid (HF6.out.trans' HF9.out)
          have hget := pget_no v9 (X ++ [0]) 2 HMORE.out (by decide) (by rw [List.length_append, HXL.out, HL.out]; decide) w9 (BytesIs.own hO9)
          obtain ⟨A9, C9, rfl, _⟩ := owns_form hO9
          clear hO9 hG9
          go_wp2_with fail
          refine hget.mono ?_
          clear hget
          rintro e wa ⟨Aa, Ca, rfl, hFa⟩
          have HFA := Lib.hid (HF9.out.trans' hFa)
          clear hFa
          have hg4 := heap_alloc_new wa (.cells #[.int .i64 0, .string ⟨#[]⟩, .slice none 0 0, .int .i64 0, .int .i64 0, .int .i64 0] 27)
          obtain ⟨wb0, hW4⟩ : ∃ W4, W4 = (wa.alloc (.cells #[.int .i64 0, .string ⟨#[]⟩, .slice none 0 0, .int .i64 0, .int .i64 0, .int .i64 0] 27)).setRow wa.heap.size #[.int .i64 0, .string ⟨#[]⟩, .slice Aa 0 Ca, .int .i64 0, .int .i64 0, .int .i64 0] := ⟨_, rfl⟩
          have HFK := Lib.hid (show Fr0 wa wb0 by rw [hW4]; exact Fr.setRow ((Fr.refl _ _).alloc _) (fun h => absurd h (Nat.lt_irrefl _)) _)
          have HWK := Lib.hid hW4
          have HGK := Lib.hid hg4
          have HFB0 := Lib.hid (HFA.out.trans' HFK.out)
          clear hg4 hW4
          go_wp2_with (refine wpList_store_row rfl 27 _ _ rfl wa.heap.size #[.int .i64 0, .string ⟨#[]⟩, .slice Aa 0 Ca, .int .i64 0, .int .i64 0, .int .i64 0] rfl rfl 27 _ HGK.out infoAskP rfl (ask_one _ _ _ _ _ _ rfl) ?_; rw [← HWK.out]; clear HWK HGK)
          have hB := lit_bytes wb0 [0] #[.int .u8 0] rfl (by decide) 1 rfl 5
          have hget := pget_no _ [0] 2 k1 (by decide) (by decide) _ hB
          have HFL := Lib.hid (HFB0.out.alloc (.cells #[.int .u8 0] 5))
          clear hB
          go_wp2_with fail
          refine hget.mono ?_
          clear hget
          rintro e wc0 ⟨Ac0, Cc0, rfl, hFc⟩
          have HFC0 := Lib.hid (HFL.out.trans' hFc)
          clear hFc HFL
          have hg4 := heap_alloc_new wc0 (.cells #[.int .i64 0, .string ⟨#[]⟩, .slice none 0 0, .int .i64 0, .int .i64 0, .int .i64 0] 27)
          obtain ⟨wb1, hW4⟩ : ∃ W4, W4 = (wc0.alloc (.cells #[.int .i64 0, .string ⟨#[]⟩, .slice none 0 0, .int .i64 0, .int .i64 0, .int .i64 0] 27)).setRow wc0.heap.size #[.int .i64 0, .string ⟨#[]⟩, .slice Ac0 0 Cc0, .int .i64 0, .int .i64 0, .int .i64 0] := ⟨_, rfl⟩
          have HFK := Lib.hid (show Fr0 wc0 wb1 by rw [hW4]; exact Fr.setRow ((Fr.refl _ _).alloc _) (fun h => absurd h (Nat.lt_irrefl _)) _)
          have HWK := Lib.hid hW4
          have HGK := Lib.hid hg4
          have HFB1 := Lib.hid (HFC0.out.trans' HFK.out)
          clear hg4 hW4
          go_wp2_with (refine wpList_store_row rfl 27 _ _ rfl wc0.heap.size #[.int .i64 0, .string ⟨#[]⟩, .slice Ac0 0 Cc0, .int .i64 0, .int .i64 0, .int .i64 0] rfl rfl 27 _ HGK.out infoAskP rfl (ask_one _ _ _ _ _ _ rfl) ?_; rw [← HWK.out]; clear HWK HGK)
          have hB := lit_bytes wb1 [1, 0, 17] #[.int .u8 1, .int .u8 0, .int .u8 17] rfl (by decide) 3 rfl 5
          have hget := pget_no _ [1, 0, 17] 2 k2 (by decide) (by decide) _ hB
          have HFL := Lib.hid (HFB1.out.alloc (.cells #[.int .u8 1, .int .u8 0, .int .u8 17] 5))
          clear hB
          go_wp2_with fail
          refine hget.mono ?_
          clear hget
          rintro e wc1 ⟨Ac1, Cc1, rfl, hFc⟩
          have HFC1 := Lib.hid (HFL.out.trans' hFc)
          clear hFc HFL
          have hg4 := heap_alloc_new wc1 (.cells #[.int .i64 0, .string ⟨#[]⟩, .slice none 0 0, .int .i64 0, .int .i64 0, .int .i64 0] 27)
          obtain ⟨wb2, hW4⟩ : ∃ W4, W4 = (wc1.alloc (.cells #[.int .i64 0, .string ⟨#[]⟩, .slice none 0 0, .int .i64 0, .int .i64 0, .int .i64 0] 27)).setRow wc1.heap.size #[.int .i64 0, .string ⟨#[]⟩, .slice Ac1 0 Cc1, .int .i64 0, .int .i64 0, .int .i64 0] := ⟨_, rfl⟩
          have HFK := Lib.hid (show Fr0 wc1 wb2 by rw [hW4]; exact Fr.setRow ((Fr.refl _ _).alloc _) (fun h => absurd h (Nat.lt_irrefl _)) _)
          have HWK := Lib.hid hW4
          have HGK := Lib.hid hg4
          have HFB2 := Lib.hid (HFC1.out.trans' HFK.out)
          clear hg4 hW4
          go_wp2_with (refine wpList_store_row rfl 27 _ _ rfl wc1.heap.size #[.int .i64 0, .string ⟨#[]⟩, .slice Ac1 0 Cc1, .int .i64 0, .int .i64 0, .int .i64 0] rfl rfl 27 _ HGK.out infoAskP rfl (ask_one _ _ _ _ _ _ rfl) ?_; rw [← HWK.out]; clear HWK HGK)
          have hB := lit_bytes wb2 [1, 0, 1, 97, 0] #[.int .u8 1, .int .u8 0, .int .u8 1, .int .u8 97, .int .u8 0] rfl (by decide) 5 rfl 5
          have hget := pget_no _ [1, 0, 1, 97, 0] 2 k3 (by decide) (by decide) _ hB
          have HFL := Lib.hid (HFB2.out.alloc (.cells #[.int .u8 1, .int .u8 0, .int .u8 1, .int .u8 97, .int .u8 0] 5))
          clear hB
          go_wp2_with fail
          refine hget.mono ?_
          clear hget
          rintro e wc2 ⟨Ac2, Cc2, rfl, hFc⟩
          have HFC2 := Lib.hid (HFL.out.trans' hFc)
          clear hFc HFL
          have hg4 := heap_alloc_new wc2 (.cells #[.int .i64 0, .string ⟨#[]⟩, .slice none 0 0, .int .i64 0, .int .i64 0, .int .i64 0] 27)
          obtain ⟨wb3, hW4⟩ : ∃ W4, W4 = (wc2.alloc (.cells #[.int .i64 0, .string ⟨#[]⟩, .slice none 0 0, .int .i64 0, .int .i64 0, .int .i64 0] 27)).setRow wc2.heap.size #[.int .i64 0, .string ⟨#[]⟩, .slice Ac2 0 Cc2, .int .i64 0, .int .i64 0, .int .i64 0] := ⟨_, rfl⟩
          have HFK := Lib.hid (show Fr0 wc2 wb3 by rw [hW4]; exact Fr.setRow ((Fr.refl _ _).alloc _) (fun h => absurd h (Nat.lt_irrefl _)) _)
          have HWK := Lib.hid hW4
          have HGK := Lib.hid hg4
          have HFB3 := Lib.hid (HFC2.out.trans' HFK.out)
          clear hg4 hW4
          go_wp2_with (refine wpList_store_row rfl 27 _ _ rfl wc2.heap.size #[.int .i64 0, .string ⟨#[]⟩, .slice Ac2 0 Cc2, .int .i64 0, .int .i64 0, .int .i64 0] rfl rfl 27 _ HGK.out infoAskP rfl (ask_one _ _ _ _ _ _ rfl) ?_; rw [← HWK.out]; clear HWK HGK)
          have hB := lit_bytes wb3 [1, 0, 1, 65, 1, 0, 0, 0, 0, 0, 0, 0, 0, 0, 0, 0, 0, 0, 0, 0, 0] #[.int .u8 1, .int .u8 0, .int .u8 1, .int .u8 65, .int .u8 1, .int .u8 0, .int .u8 0, .int .u8 0, .int .u8 0, .int .u8 0, .int .u8 0, .int .u8 0, .int .u8 0, .int .u8 0, .int .u8 0, .int .u8 0, .int .u8 0, .int .u8 0, .int .u8 0, .int .u8 0, .int .u8 0] rfl (by decide) 21 rfl 5
          have hget := pget_no _ [1, 0, 1, 65, 1, 0, 0, 0, 0, 0, 0, 0, 0, 0, 0, 0, 0, 0, 0, 0, 0] 2 k4 (by decide) (by decide) _ hB
          have HFL := Lib.hid (HFB3.out.alloc (.cells #[.int .u8 1, .int .u8 0, .int .u8 1, .int .u8 65, .int .u8 1, .int .u8 0, .int .u8 0, .int .u8 0, .int .u8 0, .int .u8 0, .int .u8 0, .int .u8 0, .int .u8 0, .int .u8 0, .int .u8 0, .int .u8 0, .int .u8 0, .int .u8 0, .int .u8 0, .int .u8 0, .int .u8 0] 5))
          clear hB
          go_wp2_with fail
          refine hget.mono ?_
          clear hget
          rintro e wc3 ⟨Ac3, Cc3, rfl, hFc⟩
          have HFC3 := Lib.hid (HFL.out.trans' hFc)
          clear hFc HFL
          have hg4 := heap_alloc_new wc3 (.cells #[.int .i64 0, .string ⟨#[]⟩, .slice none 0 0, .int .i64 0, .int .i64 0, .int .i64 0] 27)
          obtain ⟨wb4, hW4⟩ : ∃ W4, W4 = (wc3.alloc (.cells #[.int .i64 0, .string ⟨#[]⟩, .slice none 0 0, .int .i64 0, .int .i64 0, .int .i64 0] 27)).setRow wc3.heap.size #[.int .i64 0, .string ⟨#[]⟩, .slice Ac3 0 Cc3, .int .i64 0, .int .i64 0, .int .i64 0] := ⟨_, rfl⟩
          have HFK := Lib.hid (show Fr0 wc3 wb4 by rw [hW4]; exact Fr.setRow ((Fr.refl _ _).alloc _) (fun h => absurd h (Nat.lt_irrefl _)) _)
          have HWK := Lib.hid hW4
          have HGK := Lib.hid hg4
          have HFB4 := Lib.hid (HFC3.out.trans' HFK.out)
          clear hg4 hW4
          go_wp2_with (refine wpList_store_row rfl 27 _ _ rfl wc3.heap.size #[.int .i64 0, .string ⟨#[]⟩, .slice Ac3 0 Cc3, .int .i64 0, .int .i64 0, .int .i64 0] rfl rfl 27 _ HGK.out infoAskP rfl (ask_one _ _ _ _ _ _ rfl) ?_; rw [← HWK.out]; clear HWK HGK)
          have hn1 := fun w => pname_any [] (by decide) w
          have hn2 := fun w => pname_any [95] (by decide) w
          have hn3 := fun w => pname_any [97, 45, 98] (by decide) w
          have z1 : nameOk [] = false := by decide
          have z2 : nameOk [95] = true := by decide
          have z3 : nameOk [97, 45, 98] = false := by decide
          rw [z1] at hn1
          rw [z2] at hn2
          rw [z3] at hn3
          go_wp2_with fail
          refine (hn1 _).mono ?_
          rintro e wx ⟨rfl, rfl⟩
          go_wp2_with fail
          refine (hn2 _).mono ?_
          rintro e wx ⟨rfl, rfl⟩
          go_wp2_with fail
          refine (hn3 _).mono ?_
          rintro e wx ⟨rfl, rfl⟩
          clear hn1 hn2 hn3
          go_wp2
          go_ret
          exact ⟨rfl, HFB4.out⟩
end Go.Proofs.Ytemfohccnpopfaa.AskL
