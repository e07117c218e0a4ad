/-
  The walk of cut: a whole frame is cut off what waits.
-/
import Derived.Test.YtggdpmfghbnhcaaDoorFrameCalls
namespace Go.Proofs.YtggdpmfghbnhcaaDoor.Frame
open Go.RowKit Base Pack Crc

theorem infoP : (Tryd.prog.info? 33).map (·.size) = some 2 := by kernel_rfl
def MorePost (g : Nat) (q : Option Nat) (l : List UInt8) (w : World) (e : Ending) (w' : World) : Prop := e = .returned (.tuple #[.agg #[.slice none 0 0, .int .i64 0], .bool false]) ∧ CutAt w' g q l false ∧ Fr0 w w'
set_option maxRecDepth 100000 in
set_option maxHeartbeats 1000000 in
theorem cut_more (g : Nat) (q : Option Nat) (l : List UInt8) (hl : l.length ≤ 1000) (he : errOf l = 3) (w : World) (h : CutAt w g q l false) :
    Calls Tryd.prog 22 #[ptr g] w (MorePost g q l w) := by
  have HC := Lib.hid h
  obtain ⟨sv, hq, hr, ho⟩ := h
  obtain ⟨A0, C0, rfl, _⟩ := owns_form ho
  have c0 : (w.alloc (.cells #[.slice none 0 0, .int .i64 0] 33)).cell? ⟨g, 0, none⟩ = some (.slice A0 l.length C0) := (((Fr.refl (fun _ => False) w).alloc (.cells #[.slice none 0 0, .int .i64 0] 33)).cell (p := ⟨g, 0, none⟩) hr.lt (fun f => f)).trans (hr.cell (i := 0) (by decide))
  have HB := Lib.hid (BytesIs.own ho)
  have HR := Lib.hid hr
  have HO := Lib.hid ho
  have HQ := Lib.hid hq
  have HF0 := Lib.hid ((Fr.refl (fun _ => False) w).alloc (.cells #[.slice none 0 0, .int .i64 0] 33))
  have hq0 := heap_alloc_new w (.cells #[.slice none 0 0, .int .i64 0] 33)
  have hre := reader_err l
  rw [he] at hre
  have HRE := Lib.hid hre
  have HE := Lib.hid he
  clear hr ho hq hre he
  unfold ptr
  go_enter Tryd.func22, Tryd.ntmps22
  go_wp2_with fail
  refine (Pack.new_any _ l (by omega) _ (HB.out.fr0 HF0.out)).mono ?_
  rintro e w1 ⟨g1, rfl, hg1, hR1, hF1⟩
  have HR1 := Lib.hid hR1
  have HF1 := Lib.hid hF1
  clear hR1 hF1
  go_wp2_with fail
  refine (rbytes_new g1 512 l 0 w1 (by omega) (by omega) HR1.out).mono ?_
  rintro e w2 ⟨v2, rfl, hB2, hR2, hF2, hN2⟩
  obtain ⟨a2, n2, c2, rfl⟩ := hB2.slice
  clear hB2 hN2
  have HR2 := Lib.hid hR2
  have HF2 : Hid (Fr0 (w.alloc (.cells #[.slice none 0 0, .int .i64 0] 33)) w2) := Lib.hid (HF1.out.trans hF2 (fun i hi e => by have e' : i = g1 := e; omega))
  have hrl : (bytesRest 512 l).length ≤ 9223372036854775807 := by have := bytesRest_le 512 l; omega
  clear hR2 hF2
  generalize bytesRest 512 l = rest at *
  generalize bytesErr 512 l 0 = er at *
  go_wp2_with fail
  refine (ru32_any g1 rest er w2 hrl HR2.out).mono ?_
  rintro e w3 ⟨rfl, hR3, hF3⟩
  have hR3' := hR3
  rw [HRE.out] at hR3'
  have HR3 := Lib.hid hR3'
  have HF3 : Hid (Fr0 (w.alloc (.cells #[.slice none 0 0, .int .i64 0] 33)) w3) := Lib.hid (HF2.out.trans hF3 (fun i hi e => by have e' : i = g1 := e; omega))
  clear hR3 hR3' hF3 hrl
  generalize num (cutOut 4 rest) = sum at *
  go_wp2_with fail
  refine (err_any g1 _ _ w3 HR3.out).mono ?_
  rintro e w4 ⟨rfl, rfl⟩
  have c3 : w3.cell? ⟨g, 0, none⟩ = some (.slice A0 l.length C0) := (HF3.out.cell (p := ⟨g, 0, none⟩) (by have := HR.out.lt; simp; omega) (fun f => f)).trans c0
  have hq3 : w3.heap[w.heap.size]? = some (.cells #[.slice none 0 0, .int .i64 0] 33 (0, 0)) := HF3.out.heap hq0 (fun f => f)
  have d0 : w3.frozen? ⟨g, 0, none⟩ = false := ((HF0.out.trans' HF3.out).row HR.out (fun f => f)).frozen 0
  have d1 : w3.frozen? ⟨g, 1, none⟩ = false := ((HF0.out.trans' HF3.out).row HR.out (fun f => f)).frozen 1
  have HF4 : Hid (Fr0 w w3) := Lib.hid (HF0.out.trans' HF3.out)
  clear c0 hq0
  have HQ3 := Lib.hid hq3
  clear hq3
  go_wp2_with (refine wpList_store_row rfl 33 _ _ rfl w.heap.size #[.slice none 0 0, .int .i64 0] rfl rfl 33 _ HQ3.out infoP rfl (two_one _ _ rfl rfl) ?_)
  have hq5 : (w3.setRow w.heap.size #[.slice none 0 0, .int .i64 0]).heap[w.heap.size]? = some (.cells #[.slice none 0 0, .int .i64 0] 33 (0, 0)) := setRow_heap w3 _ _ _ _ _ HQ3.out
  have HF5 : Hid (Fr0 w (w3.setRow w.heap.size #[.slice none 0 0, .int .i64 0])) := Lib.hid (Fr.setRow HF4.out (fun h => absurd h (Nat.lt_irrefl _)) _)
  (try simp only [Exit.inBlock, Exit.then])
  refine bodyPost_ret (results_cell2 rfl _ _ w.heap.size 33 _ (0, 0) _ rfl _ rfl hq5 Tryd.underlying33 rfl infoP) rfl ?_
  exact ⟨rfl, HC.out.fr0 HF5.out, HF5.out⟩
def DeadPost (g : Nat) (q : Option Nat) (w : World) (e : Ending) (w' : World) : Prop := e = .returned (.tuple #[.agg #[.slice none 0 0, .int .i64 2], .bool true]) ∧ CutAt w' g none [] true ∧ Fr (V g q) w w'
set_option maxRecDepth 100000 in
set_option maxHeartbeats 1000000 in
theorem cut_dies (g : Nat) (q : Option Nat) (l : List UInt8) (hl : l.length ≤ 1000) (he : errOf l = 2) (w : World) (h : CutAt w g q l false) :
    Calls Tryd.prog 22 #[ptr g] w (DeadPost g q w) := by
  have HC := Lib.hid h
  obtain ⟨sv, hq, hr, ho⟩ := h
  obtain ⟨A0, C0, rfl, _⟩ := owns_form ho
  have c0 : (w.alloc (.cells #[.slice none 0 0, .int .i64 0] 33)).cell? ⟨g, 0, none⟩ = some (.slice A0 l.length C0) := (((Fr.refl (fun _ => False) w).alloc (.cells #[.slice none 0 0, .int .i64 0] 33)).cell (p := ⟨g, 0, none⟩) hr.lt (fun f => f)).trans (hr.cell (i := 0) (by decide))
  have HB := Lib.hid (BytesIs.own ho)
  have HR := Lib.hid hr
  have HO := Lib.hid ho
  have HQ := Lib.hid hq
  have HF0 := Lib.hid ((Fr.refl (fun _ => False) w).alloc (.cells #[.slice none 0 0, .int .i64 0] 33))
  have hq0 := heap_alloc_new w (.cells #[.slice none 0 0, .int .i64 0] 33)
  have hre := reader_err l
  rw [he] at hre
  have HRE := Lib.hid hre
  have HE := Lib.hid he
  clear hr ho hq hre he
  unfold ptr
  go_enter Tryd.func22, Tryd.ntmps22
  go_wp2_with fail
  refine (Pack.new_any _ l (by omega) _ (HB.out.fr0 HF0.out)).mono ?_
  rintro e w1 ⟨g1, rfl, hg1, hR1, hF1⟩
  have HR1 := Lib.hid hR1
  have HF1 := Lib.hid hF1
  clear hR1 hF1
  go_wp2_with fail
  refine (rbytes_new g1 512 l 0 w1 (by omega) (by omega) HR1.out).mono ?_
  rintro e w2 ⟨v2, rfl, hB2, hR2, hF2, hN2⟩
  obtain ⟨a2, n2, c2, rfl⟩ := hB2.slice
  clear hB2 hN2
  have HR2 := Lib.hid hR2
  have HF2 : Hid (Fr0 (w.alloc (.cells #[.slice none 0 0, .int .i64 0] 33)) w2) := Lib.hid (HF1.out.trans hF2 (fun i hi e => by have e' : i = g1 := e; omega))
  have hrl : (bytesRest 512 l).length ≤ 9223372036854775807 := by have := bytesRest_le 512 l; omega
  clear hR2 hF2
  generalize bytesRest 512 l = rest at *
  generalize bytesErr 512 l 0 = er at *
  go_wp2_with fail
  refine (ru32_any g1 rest er w2 hrl HR2.out).mono ?_
  rintro e w3 ⟨rfl, hR3, hF3⟩
  have hR3' := hR3
  rw [HRE.out] at hR3'
  have HR3 := Lib.hid hR3'
  have HF3 : Hid (Fr0 (w.alloc (.cells #[.slice none 0 0, .int .i64 0] 33)) w3) := Lib.hid (HF2.out.trans hF3 (fun i hi e => by have e' : i = g1 := e; omega))
  clear hR3 hR3' hF3 hrl
  generalize num (cutOut 4 rest) = sum at *
  go_wp2_with fail
  refine (err_any g1 _ _ w3 HR3.out).mono ?_
  rintro e w4 ⟨rfl, rfl⟩
  have c3 : w3.cell? ⟨g, 0, none⟩ = some (.slice A0 l.length C0) := (HF3.out.cell (p := ⟨g, 0, none⟩) (by have := HR.out.lt; simp; omega) (fun f => f)).trans c0
  have hq3 : w3.heap[w.heap.size]? = some (.cells #[.slice none 0 0, .int .i64 0] 33 (0, 0)) := HF3.out.heap hq0 (fun f => f)
  have d0 : w3.frozen? ⟨g, 0, none⟩ = false := ((HF0.out.trans' HF3.out).row HR.out (fun f => f)).frozen 0
  have d1 : w3.frozen? ⟨g, 1, none⟩ = false := ((HF0.out.trans' HF3.out).row HR.out (fun f => f)).frozen 1
  have HF4 : Hid (Fr0 w w3) := Lib.hid (HF0.out.trans' HF3.out)
  clear c0 hq0
  have c31 : w3.cell? ⟨g, 1, none⟩ = some (.bool false) := (HF4.out.cell (p := ⟨g, 1, none⟩) HR.out.lt (fun f => f)).trans (HR.out.cell (i := 1) (by decide))
  have hgw : g < w.heap.size := HC.out.lt
  have hq4 : ((w3.setCell ⟨g, 0, none⟩ (.slice none 0 0)).setCell ⟨g, 1, none⟩ (.bool true)).heap[w.heap.size]? = some (.cells #[.slice none 0 0, .int .i64 0] 33 (0, 0)) := (Fr.setCell (S := fun k => k = g) (p := ⟨g, 1, none⟩) (Fr.setCell (S := fun k => k = g) (p := ⟨g, 0, none⟩) (Fr.refl _ w3) (fun _ => rfl) (.slice none 0 0)) (fun _ => rfl) (.bool true)).heap hq3 (by omega)
  have HF5 : Hid (Fr (V g q) w (((w3.setCell ⟨g, 0, none⟩ (.slice none 0 0)).setCell ⟨g, 1, none⟩ (.bool true)).setRow w.heap.size #[.slice none 0 0, .int .i64 2])) := Lib.hid (Fr.setRow (Fr.setCell (S := V g q) (p := ⟨g, 1, none⟩) (Fr.setCell (S := V g q) (p := ⟨g, 0, none⟩) (HF4.out.mono (fun _ _ f => f.elim)) (fun _ => .inl rfl) _) (fun _ => .inl rfl) _) (fun h => absurd h (Nat.lt_irrefl _)) _)
  have HC5 : Hid (CutAt (((w3.setCell ⟨g, 0, none⟩ (.slice none 0 0)).setCell ⟨g, 1, none⟩ (.bool true)).setRow w.heap.size #[.slice none 0 0, .int .i64 2]) g none [] true) := Lib.hid ⟨.slice none 0 0, rfl, rowIs_setRow_other ((((HF4.out.row HR.out (fun f => f)).set 0 _).set 1 _).congr (fun i hi => by
    match i, hi with
    | 0, _ => rfl
    | 1, _ => rfl)) _ (by omega), World.ownsRow_nil _ _ _ _⟩
  have HQ4 := Lib.hid hq4
  clear hq3 hq4
  go_wp2_with (refine wpList_store_row rfl 33 _ _ rfl w.heap.size #[.slice none 0 0, .int .i64 2] rfl rfl 33 _ HQ4.out infoP rfl (two_one _ _ rfl rfl) ?_)
  have hq5 := setRow_heap ((w3.setCell ⟨g, 0, none⟩ (.slice none 0 0)).setCell ⟨g, 1, none⟩ (.bool true)) w.heap.size _ #[.slice none 0 0, .int .i64 2] _ _ HQ4.out
  (try simp only [Exit.inBlock, Exit.then])
  refine bodyPost_ret (results_cell2 rfl _ _ w.heap.size 33 _ (0, 0) _ rfl _ rfl hq5 Tryd.underlying33 rfl infoP) rfl ?_
  exact ⟨rfl, HC5.out, HF5.out⟩
def WholePost (g : Nat) (q : Option Nat) (l : List UInt8) (w : World) (e : Ending) (w' : World) : Prop := ∃ pv, e = .returned (.tuple #[.agg #[pv, .int .i64 (judge l).e], .bool true]) ∧ BytesIs w' pv (judge l).b ∧ NewV w pv ∧ CutAt w' g q [] false ∧ Fr (V g q) w w' ∧ pv.oneCell' = true
set_option maxRecDepth 100000 in
set_option maxHeartbeats 2000000 in
theorem cut_whole_any (g : Nat) (q : Option Nat) (l : List UInt8) (hl : l.length ≤ 1000) (he : errOf l = 0) (w : World) (h : CutAt w g q l false) (hRt : Hid (Rests w)) :
    Calls Tryd.prog 22 #[ptr g] w (WholePost g q l w) := by
  have HC := Lib.hid h
  obtain ⟨sv, hq, hr, ho⟩ := h
  obtain ⟨A0, C0, rfl, _⟩ := owns_form ho
  have c0 : (w.alloc (.cells #[.slice none 0 0, .int .i64 0] 33)).cell? ⟨g, 0, none⟩ = some (.slice A0 l.length C0) := (((Fr.refl (fun _ => False) w).alloc (.cells #[.slice none 0 0, .int .i64 0] 33)).cell (p := ⟨g, 0, none⟩) hr.lt (fun f => f)).trans (hr.cell (i := 0) (by decide))
  have HB := Lib.hid (BytesIs.own ho)
  have HR := Lib.hid hr
  have HO := Lib.hid ho
  have HQ := Lib.hid hq
  have HF0 := Lib.hid ((Fr.refl (fun _ => False) w).alloc (.cells #[.slice none 0 0, .int .i64 0] 33))
  have hq0 := heap_alloc_new w (.cells #[.slice none 0 0, .int .i64 0] 33)
  have hre := reader_err l
  rw [he] at hre
  have HRE := Lib.hid hre
  have HE := Lib.hid he
  obtain ⟨hl1, hl2, hl3⟩ := round_zero he
  obtain ⟨hout, hsum⟩ := reader_out he
  have HOUT := Lib.hid hout
  have HSUM := Lib.hid hsum
  have hJ : judge l = if num ((l.drop (len2 l + 2)).take 4) = crc 0 (l.take (len2 l + 2)) then ⟨(l.drop 2).take (len2 l), 0⟩ else ⟨[], 4⟩ := by
    unfold judge soundB
    by_cases hx : num ((l.drop (len2 l + 2)).take 4) = crc 0 (l.take (len2 l + 2)) <;> simp [hx]
  have HJ := Lib.hid hJ
  have hPl : ((l.drop 2).take (len2 l)).length = len2 l := by rw [List.length_take, List.length_drop]; omega
  have HPL := Lib.hid hPl
  clear hout hsum hJ hPl
  clear hr ho hq hre he
  unfold ptr
  go_enter Tryd.func22, Tryd.ntmps22
  go_wp2_with fail
  refine (Pack.new_any _ l (by omega) _ (HB.out.fr0 HF0.out)).mono ?_
  rintro e w1 ⟨g1, rfl, hg1, hR1, hF1⟩
  have HR1 := Lib.hid hR1
  have HF1 := Lib.hid hF1
  clear hR1 hF1
  go_wp2_with fail
  refine (rbytes_new g1 512 l 0 w1 (by omega) (by omega) HR1.out).mono ?_
  rintro e w2 ⟨v2, rfl, hB2, hR2, hF2, hN2⟩
  rw [HOUT.out] at hB2
  generalize hPP : (l.drop 2).take (len2 l) = p at *
  clear hPP
  obtain ⟨a2, c2, rfl⟩ := hB2.form
  have HB2 := Lib.hid hB2
  have HN2 := Lib.hid hN2
  clear hB2 hN2
  have HR2 := Lib.hid hR2
  have HF2 : Hid (Fr0 (w.alloc (.cells #[.slice none 0 0, .int .i64 0] 33)) w2) := Lib.hid (HF1.out.trans hF2 (fun i hi e => by have e' : i = g1 := e; omega))
  have hrl : (bytesRest 512 l).length ≤ 9223372036854775807 := by have := bytesRest_le 512 l; omega
  clear hR2 hF2
  generalize bytesRest 512 l = rest at *
  generalize bytesErr 512 l 0 = er at *
  go_wp2_with fail
  refine (ru32_any g1 rest er w2 hrl HR2.out).mono ?_
  rintro e w3 ⟨rfl, hR3, hF3⟩
  have hR3' := hR3
  rw [HRE.out] at hR3'
  have HR3 := Lib.hid hR3'
  have HF3 : Hid (Fr0 (w.alloc (.cells #[.slice none 0 0, .int .i64 0] 33)) w3) := Lib.hid (HF2.out.trans hF3 (fun i hi e => by have e' : i = g1 := e; omega))
  have HB23 : Hid (BytesIs w3 (.slice a2 p.length c2) p) := Lib.hid (bytes_fr1 HB2.out hF3 HR2.out.noU8)
  clear hR3 hR3' hF3 hrl
  rw [HSUM.out]
  generalize num ((l.drop (len2 l + 2)).take 4) = x at *
  go_wp2_with fail
  refine (err_any g1 _ _ w3 HR3.out).mono ?_
  rintro e w4 ⟨rfl, rfl⟩
  have c3 : w3.cell? ⟨g, 0, none⟩ = some (.slice A0 l.length C0) := (HF3.out.cell (p := ⟨g, 0, none⟩) (by have := HR.out.lt; simp; omega) (fun f => f)).trans c0
  have hq3 : w3.heap[w.heap.size]? = some (.cells #[.slice none 0 0, .int .i64 0] 33 (0, 0)) := HF3.out.heap hq0 (fun f => f)
  have d0 : w3.frozen? ⟨g, 0, none⟩ = false := ((HF0.out.trans' HF3.out).row HR.out (fun f => f)).frozen 0
  have d1 : w3.frozen? ⟨g, 1, none⟩ = false := ((HF0.out.trans' HF3.out).row HR.out (fun f => f)).frozen 1
  have HF4 : Hid (Fr0 w w3) := Lib.hid (HF0.out.trans' HF3.out)
  clear c0 hq0
  have hk : 2 + (p.length : Int) = ((len2 l + 2 : Nat) : Int) := by rw [HPL.out]; omega
  have hC0 : l.length ≤ C0 := by
    obtain ⟨_, _, _, _, hv, h1, _⟩ := HB.out
    simp only [Value.slice.injEq] at hv
    rw [hv.2.2]; exact h1
  have hs1 : ∀ wx : World, (Instr.sliceAt 23 (.slice A0 l.length C0) none (some (.int .i64 (2 + (p.length : Int)))) none).run Tryd.prog wx = .ok (.slice A0 (len2 l + 2) C0) wx := fun wx => by
    rw [hk]; exact cut_hi_at (P := Tryd.prog) 23 5 Tryd.underlying23 (by kernel_rfl) A0 l.length C0 (len2 l + 2) (by omega) wx
  have hs0 : ∀ wx : World, (Instr.sliceAt 23 (.slice A0 l.length C0) none (some (.int .i64 0)) none).run Tryd.prog wx = .ok (.slice A0 0 C0) wx := fun wx => cut_hi_at (P := Tryd.prog) 23 5 Tryd.underlying23 (by kernel_rfl) A0 l.length C0 0 (Nat.zero_le _) wx
  have HB3 : Hid (BytesIs w3 (.slice A0 (len2 l + 2) C0) (l.take (len2 l + 2))) := Lib.hid (BytesIs.takeHi (by omega) (HB.out.fr0 HF4.out))
  have hof := of_one (l.take (len2 l + 2)) (by rw [List.length_take]; omega) _ w3 HB3.out (hRt.out.fr HF4.out (fun f => f))
  have hp2 : p.length ≤ 512 := by have := HPL.out; omega
  have hgw : g < w.heap.size := HC.out.lt
  clear hk hC0
  generalize crc 0 (l.take (len2 l + 2)) = y at *
  go_wp2_with fail
  refine (hof _).mono ?_
  rintro e w5 ⟨rfl, hw5⟩
  have HF35 : Hid (Fr0 w3 w5) := Lib.hid (hw5 ▸ (Fr.refl _ _).alloc _)
  have HF5 : Hid (Fr0 w w5) := Lib.hid (HF4.out.trans' HF35.out)
  have c5 : w5.cell? ⟨g, 0, none⟩ = some (.slice A0 l.length C0) := (HF35.out.cell (p := ⟨g, 0, none⟩) (World.block_lt_of_cell? w3 _ c3) (fun f => f)).trans c3
  have d5 : w5.frozen? ⟨g, 0, none⟩ = false := (HF5.out.row HR.out (fun f => f)).frozen 0
  have hq5 : w5.heap[w.heap.size]? = some (.cells #[.slice none 0 0, .int .i64 0] 33 (0, 0)) := HF35.out.heap hq3 (fun f => f)
  have hq6 : (w5.setCell ⟨g, 0, none⟩ (.slice A0 0 C0)).heap[w.heap.size]? = some (.cells #[.slice none 0 0, .int .i64 0] 33 (0, 0)) := (Fr.setCell (S := fun k => k = g) (p := ⟨g, 0, none⟩) (Fr.refl _ w5) (fun _ => rfl) (.slice A0 0 C0)).heap hq5 (by omega)
  have HF6 : Hid (∀ cs, Fr (V g q) w ((w5.setCell ⟨g, 0, none⟩ (.slice A0 0 C0)).setRow w.heap.size cs)) := Lib.hid (fun cs => Fr.setRow (Fr.setCell (S := V g q) (p := ⟨g, 0, none⟩) (HF5.out.mono (fun _ _ f => f.elim)) (fun _ => .inl rfl) _) (fun h => absurd h (Nat.lt_irrefl _)) _)
  have ho0 : w5.ownsRow 0 5 1 (.slice A0 0 C0) 0 (bvals []) := by
    have ho5 := owns_fr HF5.out HO.out (fun _ _ f => f)
    rcases ho5.2 with ⟨hv, _⟩ | ⟨gg, cap, cur, hv, hb1, hb2, hb3, hb4, hb5, _⟩
    · simp only [Value.slice.injEq] at hv
      obtain ⟨rfl, _, rfl⟩ := hv
      exact World.ownsRow_nil _ _ _ _
    · simp only [Value.slice.injEq] at hv
      obtain ⟨rfl, _, rfl⟩ := hv
      exact ⟨rfl, .inr ⟨gg, C0, cur, rfl, hb1, hb2, Nat.zero_le _, hb4, hb5, rfl⟩⟩
  have HC6 : Hid (∀ cs, CutAt ((w5.setCell ⟨g, 0, none⟩ (.slice A0 0 C0)).setRow w.heap.size cs) g q [] false) := Lib.hid (fun cs => (HC.out.put (l' := []) HF5.out.zero (by rw [← HQ.out]; cases A0 <;> rfl) ho0 HC.out.ne).fr (S := fun k => k = w.heap.size) (Fr.setRow (S := fun k => k = w.heap.size) (Fr.refl _ _) (fun _ => rfl) _) (fun k hk e => by have := HC.out.v_lt k hk; omega))
  have HN5 : Hid (NewV w (.slice a2 p.length c2)) := Lib.hid (fun a n c h => by have := HN2.out a n c h; have := (HF0.out.trans' HF1.out).size; omega)
  have HB5 : Hid (BytesIs (w5.setCell ⟨g, 0, none⟩ (.slice A0 0 C0)) (.slice a2 p.length c2) p) := Lib.hid (by
    have h5 := HB23.out.fr0 HF35.out
    exact bytes_keep h5 (Fr.setCell (S := fun k => k = g) (p := ⟨g, 0, none⟩) (Fr.refl _ w5) (fun _ => rfl) _) (fun a n c h _ e => by have := HN5.out a n c h; omega))
  clear hof hw5 c3 d0 d1 hq3 hq5 ho0 hs1
  by_cases hxy : x = y
  · subst hxy
    have HJ0 := Lib.hid (HJ.out.trans (if_pos rfl))
    clear HJ
    go_wp2_with (refine wpList_store_row rfl 33 _ _ rfl w.heap.size #[.slice a2 p.length c2, .int .i64 0] rfl rfl 33 _ hq6 infoP rfl (two_one _ _ rfl rfl) ?_)
    have hq7 := setRow_heap (w5.setCell ⟨g, 0, none⟩ (.slice A0 0 C0)) w.heap.size _ #[.slice a2 p.length c2, .int .i64 0] _ _ hq6
    (try simp only [Exit.inBlock, Exit.then])
    refine bodyPost_ret (results_cell2 rfl _ _ w.heap.size 33 _ (0, 0) _ rfl _ rfl hq7 Tryd.underlying33 rfl infoP) rfl ?_
    refine ⟨.slice a2 p.length c2, ?_, ?_, HN5.out, HC6.out _, HF6.out _, rfl⟩
    · rw [HJ0.out]; rfl
    · rw [HJ0.out]
      exact bytes_keep HB5.out (Fr.setRow (S := fun k => k = w.heap.size) (Fr.refl _ _) (fun _ => rfl) _) (fun a n c h _ e => by have := HN2.out a n c h; have := HF0.out.size; have h2 := HF1.out.size; simp at h2; omega)
  · have hb1 : ((x : Int) == (y : Int)) = false := by rw [beq_eq_false_iff_ne]; omega
    have hb2 : decide ((x : Int) = (y : Int)) = false := by rw [decide_eq_false_iff_not]; omega
    have hb3 : ¬ (x : Int) = (y : Int) := by omega
    have HJ0 := Lib.hid (HJ.out.trans (if_neg hxy))
    clear HJ hxy
    go_wp2_with (refine wpList_store_row rfl 33 _ _ rfl w.heap.size #[.slice none 0 0, .int .i64 4] rfl rfl 33 _ hq6 infoP rfl (two_one _ _ rfl rfl) ?_)
    have hq7 := setRow_heap (w5.setCell ⟨g, 0, none⟩ (.slice A0 0 C0)) w.heap.size _ #[.slice none 0 0, .int .i64 4] _ _ hq6
    (try simp only [Exit.inBlock, Exit.then])
    refine bodyPost_ret (results_cell2 rfl _ _ w.heap.size 33 _ (0, 0) _ rfl _ rfl hq7 Tryd.underlying33 rfl infoP) rfl ?_
    refine ⟨.slice none 0 0, ?_, ?_, (fun a n c h => by cases h), HC6.out _, HF6.out _, rfl⟩
    · rw [HJ0.out]; rfl
    · rw [HJ0.out]
      exact BytesIs.nil _
end Go.Proofs.YtggdpmfghbnhcaaDoor.Frame
