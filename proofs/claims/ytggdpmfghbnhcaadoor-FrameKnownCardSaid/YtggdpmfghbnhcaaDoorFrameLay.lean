/-
  The walk of lay: the front of what is fed is laid behind what waits.
-/
import Derived.Test.YtggdpmfghbnhcaaDoorFrameCalls
namespace Go.Proofs.YtggdpmfghbnhcaaDoor.Frame
open Go.RowKit Base Pack Crc

def LayPost (g : Nat) (q : Option Nat) (l b : List UInt8) (v : Value) (w : World) (e : Ending) (w' : World) : Prop := ∃ n v' q', n = min (needOf l - l.length) b.length ∧ e = .returned v' ∧ BytesIs w' v' (b.drop n) ∧ (∀ A m c, v' = .slice (some A) m c → 0 < (b.drop n).length → ∃ a m' c', v = .slice (some a) m' c' ∧ A.block = a.block) ∧ CutAt w' g q' (l ++ b.take n) false ∧ NewQ w q q' ∧ Fr (V g q) w w'
set_option maxRecDepth 100000 in
set_option maxHeartbeats 1000000 in
theorem lay_any (g : Nat) (q : Option Nat) (l b : List UInt8) (v : Value) (w : World) (hf : Fro l) (h : CutAt w g q l false) (hb : 0 < b.length) (hbl : b.length ≤ 9223372036854775807) (hB : BytesIs w v b) (hc : Clear (V g q) v b) :
    Calls Tryd.prog 21 #[ptr g, v] w (LayPost g q l b v w) := by
  have HC := Lib.hid h
  have HB := Lib.hid hB
  have HCL := Lib.hid hc
  obtain ⟨sv, hq, hr, ho⟩ := h
  obtain ⟨A0, C0, rfl, _⟩ := owns_form ho
  have c0 : w.cell? ⟨g, 0, none⟩ = some (.slice A0 l.length C0) := hr.cell (i := 0) (by decide)
  have HR := Lib.hid hr
  have HO := Lib.hid ho
  have HQ := Lib.hid hq
  obtain ⟨a, c, rfl⟩ := hB.form
  have hcap : b.length ≤ c := by obtain ⟨_, _, _, _, he, h1, _⟩ := hB; simp only [Value.slice.injEq] at he; rw [he.2.2]; exact h1
  have HCAP := Lib.hid hcap
  have hneed := hf.need
  have hl1 := hf.le
  have HFR := Lib.hid hf
  clear hr ho hq hB hc hcap hf
  obtain ⟨N, hN⟩ : ∃ N, N = needOf l := ⟨_, rfl⟩
  have hnd := need_any g q l false (by omega) w.drew (HC.out.fr0 (Fr.refl _ _).drew)
  rw [← hN] at hneed hnd
  have HNE := Lib.hid hN
  have HN : Hid (l.length < N ∧ N ≤ 518) := Lib.hid hneed
  clear hN
  unfold ptr at *
  go_enter Tryd.func21, Tryd.ntmps21
  go_wp2
  refine Mix.law (fun W => W.cell? ⟨g, 0, none⟩ = some (.slice A0 l.length C0)) [(.sure, 0), (.sure, 2), (.sure, 3), (.sure, 4), (.sure, 5), (.sure, 6), (.sure, 8), (.sure, 9), (.turn, 1), (.sure, 7), (.sure, 10), (.sure, 11)] (by kernel_rfl) (by kernel_rfl) c0 ?_
  simp only [List.map_cons, List.map_nil, Mix.nth_zero, Mix.nth_succ]
  repeat (first
    | (refine Mix.go_skipS (by exact Mix.wanted_no rfl rfl rfl rfl) ?_; go_frame)
    | (refine Mix.go_skipL (by exact Mix.wanted_no rfl rfl rfl rfl) ?_; go_frame)
    | (refine Mix.go_move (by first | exact Mix.wanted_none rfl | exact Mix.wanted_yes rfl rfl rfl) _ rfl _ (by first | (go_simp; done) | (go_simp; rfl)) ?_; go_frame)
    | (refine Mix.go_assign (by first | exact Mix.wanted_none rfl | exact Mix.wanted_yes rfl rfl rfl) _ rfl _ (by first | (go_simp; done) | (go_simp; rfl)) ?_; go_frame)
    | (refine Mix.go_sureW (by first | exact Mix.wanted_none rfl | exact Mix.wanted_yes rfl rfl rfl) _ (by rfl) (by rfl) _ (fun w' hC' => by go_wp2_with fail; refine Mix.stays ?_; go_frame; rfl) ?_; go_frame)
    | (refine Mix.go_lookW (by first | exact Mix.wanted_none rfl | exact Mix.wanted_yes rfl rfl rfl) _ (by rfl) (by rfl) _ (by go_wp2_with fail; refine Mix.stays ?_; go_frame; rfl) ?_; go_frame))
  refine Mix.go_turn ?_
  go_wp2_with fail
  refine hnd.mono ?_
  rintro e w1 ⟨rfl, hF1⟩
  have HF1 : Hid (Fr0 w w1) := Lib.hid ((Fr.refl _ _).drew.trans' hF1)
  have c1 : w1.cell? ⟨g, 0, none⟩ = some (.slice A0 l.length C0) := (HF1.out.cell (p := ⟨g, 0, none⟩) HC.out.lt (fun f => f)).trans c0
  clear hF1
  go_wp2
  refine Mix.then_go c1 ?_
  clear hnd
  refine Mix.go_sureW (by first | exact Mix.wanted_none rfl | exact Mix.wanted_yes rfl rfl rfl) _ (by rfl) (by rfl) _ (fun w' hC' => by go_wp2_with fail; refine Mix.stays ?_; go_frame; rfl) ?_
  go_frame
  have HN1 := HN.out
  obtain ⟨M, hM⟩ : ∃ M, N = l.length + M := ⟨N - l.length, by omega⟩
  obtain ⟨x, hx⟩ : ∃ x : Int, x = (N : Int) - (l.length : Int) := ⟨_, rfl⟩
  rw [← hx]
  have hxM : x = (M : Int) := by omega
  subst hxM
  clear hx HN1
  have hM1 : 0 < M ∧ M ≤ 518 := by have := HN.out; omega
  obtain ⟨n, hnn⟩ : ∃ n, n = min M b.length := ⟨_, rfl⟩
  have hmin : (if (b.length : Int) < (M : Int) then (b.length : Int) else (M : Int)) = (n : Int) := by split <;> omega
  have hn1 : 0 < n ∧ n ≤ b.length ∧ n ≤ 518 := by omega
  have hnl : (b.take n).length = n := by rw [List.length_take]; omega
  have HNN : Hid (n = min (needOf l - l.length) b.length) := Lib.hid (by rw [← HNE.out, hnn]; congr 1; omega)
  clear hnn hM hneed hM1
  refine Mix.go_sure (Mix.wanted_none rfl) (.int .i64 (n : Int)) (fun w' _ => Mix.gives_value ((run_min_op rfl rfl rfl w').trans (by rw [hmin]))) ?_
  go_frame
  clear hmin
  repeat (first
    | (refine Mix.go_skipS (by exact Mix.wanted_no rfl rfl rfl rfl) ?_; go_frame)
    | (refine Mix.go_skipL (by exact Mix.wanted_no rfl rfl rfl rfl) ?_; go_frame)
    | (refine Mix.go_move (by first | exact Mix.wanted_none rfl | exact Mix.wanted_yes rfl rfl rfl) _ rfl _ (by first | (go_simp; done) | (go_simp; rfl)) ?_; go_frame)
    | (refine Mix.go_assign (by first | exact Mix.wanted_none rfl | exact Mix.wanted_yes rfl rfl rfl) _ rfl _ (by first | (go_simp; done) | (go_simp; rfl)) ?_; go_frame)
    | (refine Mix.go_sureW (by first | exact Mix.wanted_none rfl | exact Mix.wanted_yes rfl rfl rfl) _ (by rfl) (by rfl) _ (fun w' hC' => by go_wp2_with fail; refine Mix.stays ?_; go_frame; rfl) ?_; go_frame)
    | (refine Mix.go_lookW (by first | exact Mix.wanted_none rfl | exact Mix.wanted_yes rfl rfl rfl) _ (by rfl) (by rfl) _ (by go_wp2_with fail; refine Mix.stays ?_; go_frame; rfl) ?_; go_frame))
  refine Mix.go_end ?_
  go_wp2
  have HBT : Hid (BytesIs w (.slice a n c) (b.take n)) := Lib.hid (BytesIs.takeHi (by omega) HB.out)
  have hs1 := fun wx : World => cut_hi_at (P := Tryd.prog) 23 5 Tryd.underlying23 (by kernel_rfl) a b.length c n (by have := HCAP.out; omega) wx
  obtain ⟨a2, c2, hb2, hs2, hbl2⟩ := cut_lo_b (P := Tryd.prog) 23 5 Tryd.underlying23 (by kernel_rfl) HB.out n (by omega) (n : Int) rfl
  have HB2 := Lib.hid hb2
  have HBL2 := Lib.hid hbl2
  have HNL := Lib.hid hnl
  clear hb2 hbl2 hnl
  refine Mix.law (fun W => W.cell? ⟨g, 0, none⟩ = some (.slice A0 l.length C0)) [(.sure, 0), (.sure, 1), (.sure, 2), (.sure, 3), (.sure, 4), (.sure, 5), (.sure, 6), (.sure, 7), (.turn, 8), (.sure, 9), (.sure, 10), (.last, 11)] (by kernel_rfl) (by kernel_rfl) c1 ?_
  simp only [List.map_cons, List.map_nil, Mix.nth_zero, Mix.nth_succ]
  repeat (first
    | (refine Mix.go_skipS (by exact Mix.wanted_no rfl rfl rfl rfl) ?_; go_frame)
    | (refine Mix.go_skipL (by exact Mix.wanted_no rfl rfl rfl rfl) ?_; go_frame)
    | (refine Mix.go_move (by first | exact Mix.wanted_none rfl | exact Mix.wanted_yes rfl rfl rfl) _ rfl _ (by first | (go_simp; done) | (go_simp; rfl)) ?_; go_frame)
    | (refine Mix.go_assign (by first | exact Mix.wanted_none rfl | exact Mix.wanted_yes rfl rfl rfl) _ rfl _ (by first | (go_simp; done) | (go_simp; rfl)) ?_; go_frame)
    | (refine Mix.go_sureW (by first | exact Mix.wanted_none rfl | exact Mix.wanted_yes rfl rfl rfl) _ (by rfl) (by rfl) _ (fun w' hC' => by go_wp2_with fail; refine Mix.stays ?_; go_frame; rfl) ?_; go_frame)
    | (refine Mix.go_lookW (by first | exact Mix.wanted_none rfl | exact Mix.wanted_yes rfl rfl rfl) _ (by rfl) (by rfl) _ (by go_wp2_with fail; refine Mix.stays ?_; go_frame; rfl) ?_; go_frame))
  refine Mix.go_turn ?_
  go_wp2_with (refine wpList_append_valsN rfl (.tmp 21) (.tmp 24) 23 rfl 0 5 Tryd.underlying23 (.int .u8 0) 1 1 info8 rfl (by decide) _ _ l.length n (bvals l) (bvals (b.take n)) rfl rfl (owns_fr (HF1.out.drew) HO.out (fun _ _ f => f)) (by have := vals_of_bytes (HBT.out.fr0 HF1.out.drew); rw [HNL.out] at this; exact this) hn1.1 (by rw [bvals_length, HNL.out]; omega) (bvals_one _) (by unfold maxLen; omega) (by omega) (Nat.zero_le _) ?_; intro v3 w3 hO3 hG3 hN3)
  obtain ⟨A3, C3, rfl, _⟩ := owns_form hO3
  have hO3' : w3.ownsRow 0 5 1 (.slice A3 (l.length + n) C3) (l ++ b.take n).length (bvals (l ++ b.take n)) := by rw [List.length_append, HNL.out, bvals_append]; exact hO3
  have HF3 : Hid (Fr (fun k => q = some k) w w3) := Lib.hid ((HF1.out.drew.zero (S := fun k => q = some k)).grown hG3 (fun k hk e => by rw [← HQ.out]; exact e))
  have HNQ : Hid (NewQ w q (Value.slice A3 (l.length + n) C3).ownBlock) := Lib.hid (by
    rcases hN3 with h | h
    · exact .inl (by rw [h]; exact HQ.out)
    · exact .inr fun k hk => Nat.le_trans HF1.out.size (h k hk))
  have hng : (Value.slice A3 (l.length + n) C3).ownBlock ≠ some g := fun e => by
    rcases HNQ.out with h | h
    · exact HC.out.ne (by rw [← h]; exact e)
    · have := h g e; have := HC.out.lt; omega
  have c3 : w3.cell? ⟨g, 0, none⟩ = some (.slice A0 l.length C0) := (HF3.out.cell (p := ⟨g, 0, none⟩) HC.out.lt HC.out.ne).trans c0
  have d3 : w3.frozen? ⟨g, 0, none⟩ = false := (HF3.out.row HR.out HC.out.ne).frozen 0
  have HC3 : Hid (CutAt (w3.setCell ⟨g, 0, none⟩ (.slice A3 (l.length + n) C3)) g (Value.slice A3 (l.length + n) C3).ownBlock (l ++ b.take n) false) := Lib.hid (HC.out.put HF3.out rfl hO3' hng)
  have HFF : Hid (Fr (V g q) w (w3.setCell ⟨g, 0, none⟩ (.slice A3 (l.length + n) C3))) := Lib.hid (Fr.setCell (S := V g q) (p := ⟨g, 0, none⟩) (HF3.out.mono (fun _ _ h => .inr h)) (fun _ => .inl rfl) _)
  clear hO3 hO3' hG3 hN3 hng c1
  refine Mix.then_go c3 ?_
  repeat (first
    | (refine Mix.go_skipS (by exact Mix.wanted_no rfl rfl rfl rfl) ?_; go_frame)
    | (refine Mix.go_skipL (by exact Mix.wanted_no rfl rfl rfl rfl) ?_; go_frame)
    | (refine Mix.go_move (by first | exact Mix.wanted_none rfl | exact Mix.wanted_yes rfl rfl rfl) _ rfl _ (by first | (go_simp; done) | (go_simp; rfl)) ?_; go_frame)
    | (refine Mix.go_assign (by first | exact Mix.wanted_none rfl | exact Mix.wanted_yes rfl rfl rfl) _ rfl _ (by first | (go_simp; done) | (go_simp; rfl)) ?_; go_frame)
    | (refine Mix.go_sureW (by first | exact Mix.wanted_none rfl | exact Mix.wanted_yes rfl rfl rfl) _ (by rfl) (by rfl) _ (fun w' hC' => by go_wp2_with fail; refine Mix.stays ?_; go_frame; rfl) ?_; go_frame)
    | (refine Mix.go_lookW (by first | exact Mix.wanted_none rfl | exact Mix.wanted_yes rfl rfl rfl) _ (by rfl) (by rfl) _ (by go_wp2_with fail; refine Mix.stays ?_; go_frame; rfl) ?_; go_frame))
  refine Mix.go_last ?_
  go_wp2
  refine Mix.then_go trivial ?_
  refine Mix.go_end ?_
  go_wp2
  go_ret
  have hcl : Clear (V g q) (.slice a2 (b.length - n) c2) (b.drop n) := fun A m cc hv hl hs => by
    cases hv
    obtain ⟨p, rfl, hp⟩ := HBL2.out A rfl
    exact HCL.out p _ _ rfl (by have := List.length_drop (l := b) (i := n); omega) (hp ▸ hs)
  exact ⟨n, _, _, HNN.out, rfl, bytes_keep HB2.out HFF.out hcl, fun A m cc hv _ => by
    cases hv
    obtain ⟨p, rfl, hp⟩ := HBL2.out A rfl
    exact ⟨p, _, _, rfl, hp⟩, HC3.out, HNQ.out, HFF.out⟩
end Go.Proofs.YtggdpmfghbnhcaaDoor.Frame
