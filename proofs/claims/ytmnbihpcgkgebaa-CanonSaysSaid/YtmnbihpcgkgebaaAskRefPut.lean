/-
  The reference's PutAsk.
-/
import Derived.Test.YtmnbihpcgkgebaaAskRefGood
import Derived.Test.YtmnbihpcgkgebaaRefUB
import Derived.Test.YtmnbihpcgkgebaaMixT
import Derived.Test.YtmnbihpcgkgebaaStrB
import Derived.Test.YtmnbihpcgkgebaaOwns
namespace Go.Proofs.Ytmnbihpcgkgebaa.Ask
open Go.RowKit Base Pack RefB

/-- where a sample lies -/
theorem pairs_at {w : World} {A : Option Addr} {n cap : Nat} {s : List (Int × Int)} (h : PairsIs w (.slice A n cap) s) (j : Nat) (hj : j < s.length) : ∃ pb po, A = some ⟨pb, po, none⟩ ∧ ∀ wr, Fr0 w wr → wr.cell? ⟨pb, po + j * 2, none⟩ = some (.int .i64 (s.getD j (0, 0)).1) ∧ wr.cell? ⟨pb, po + j * 2 + 1, none⟩ = some (.int .i64 (s.getD j (0, 0)).2) := by
  obtain ⟨A1, C1, pb, po, hv1, _, hpa, hpc⟩ := h
  simp only [Value.slice.injEq] at hv1
  obtain ⟨rfl, _, rfl⟩ := hv1
  obtain ⟨c0, c1⟩ := hpc j hj
  exact ⟨pb, po, hpa (by omega), fun wr hf => ⟨(hf.cell (p := ⟨pb, po + j * 2, none⟩) (World.block_lt_of_cell? w _ c0) (fun f => f)).trans c0, (hf.cell (p := ⟨pb, po + j * 2 + 1, none⟩) (World.block_lt_of_cell? w _ c1) (fun f => f)).trans c1⟩⟩
theorem tw_wrap (x : Int) : x % 18446744073709551616 = (tw x : Int) := by
  unfold tw
  omega
theorem sB_next (s : List (Int × Int)) (i : Nat) (h : i < s.length) : sB (s.take (i + 1)) = sB (s.take i) ++ be 8 (tw (s.getD i (0, 0)).1) ++ be 8 (tw (s.getD i (0, 0)).2) := by
  rw [List.take_add_one, List.getD_eq_getElem?_getD, List.getElem?_eq_getElem h]
  simp only [Option.toList_some, Option.getD_some]
  exact sB_snoc _ _
def PutPost (a : Rq) (w : World) (e : Ending) (w' : World) : Prop := ∃ v, e = .returned (.tuple #[v, .int .i64 (putErr a)]) ∧ BytesIs w' v (putOut a) ∧ Fr0 w w'
set_option maxRecDepth 100000 in
set_option maxHeartbeats 4000000 in
theorem rput_any (A : Option Addr) (C : Nat) (a : Rq) (hn : a.n.length ≤ 9223372036854775807) (w : World) (hS : PairsIs w (.slice A a.s.length C) a.s) :
    Calls Try.prog 22 #[.agg (rv (.slice A a.s.length C) a)] w (PutPost a w) := by
  have hgd := rgood_any A C a hn (w.alloc (.cells #[.int .i64 a.k, .string ⟨a.n.toArray⟩, .slice A a.s.length C, .int .i64 a.f, .int .i64 a.t, .int .i64 a.wn] 39))
  unfold rv at *
  have HS := Lib.hid hS
  have HF0 : Hid (Fr0 w (w.alloc (.cells #[.int .i64 a.k, .string ⟨a.n.toArray⟩, .slice A a.s.length C, .int .i64 a.f, .int .i64 a.t, .int .i64 a.wn] 39))) := Lib.hid ((Fr.refl _ _).alloc _)
  have hR0 := rowIs_new w #[.int .i64 a.k, .string ⟨a.n.toArray⟩, .slice A a.s.length C, .int .i64 a.f, .int .i64 a.t, .int .i64 a.wn] 39 6 (fun i => #[Value.int .i64 a.k, .string ⟨a.n.toArray⟩, .slice A a.s.length C, .int .i64 a.f, .int .i64 a.t, .int .i64 a.wn].getD i undef) rfl (fun i hi => by
    match i, hi with
    | 0, _ => rfl
    | 1, _ => rfl
    | 2, _ => rfl
    | 3, _ => rfl
    | 4, _ => rfl
    | 5, _ => rfl)
  have HR0 := Lib.hid hR0
  have HC0 : Hid (∀ W, Fr0 (w.alloc (.cells #[.int .i64 a.k, .string ⟨a.n.toArray⟩, .slice A a.s.length C, .int .i64 a.f, .int .i64 a.t, .int .i64 a.wn] 39)) W → W.cell? ⟨w.heap.size, 0, none⟩ = some (.int .i64 a.k) ∧ W.cell? ⟨w.heap.size, 1, none⟩ = some (.string ⟨a.n.toArray⟩) ∧ W.cell? ⟨w.heap.size, 2, none⟩ = some (.slice A a.s.length C) ∧ W.cell? ⟨w.heap.size, 3, none⟩ = some (.int .i64 a.f) ∧ W.cell? ⟨w.heap.size, 4, none⟩ = some (.int .i64 a.t) ∧ W.cell? ⟨w.heap.size, 5, none⟩ = some (.int .i64 a.wn)) := Lib.hid (fun W h => by
    have hr := h.row hR0 (fun f => f)
    exact ⟨hr.cell (i := 0) (by decide), hr.cell (i := 1) (by decide), hr.cell (i := 2) (by decide), hr.cell (i := 3) (by decide), hr.cell (i := 4) (by decide), hr.cell (i := 5) (by decide)⟩)
  obtain ⟨B, hB⟩ : ∃ B, B = good a := ⟨_, rfl⟩
  rw [← hB] at hgd
  have HB := Lib.hid hB
  clear hB hS hR0
  have HH0 : Hid (∀ W, Fr0 (w.alloc (.cells #[.int .i64 a.k, .string ⟨a.n.toArray⟩, .slice A a.s.length C, .int .i64 a.f, .int .i64 a.t, .int .i64 a.wn] 39)) W → W.heap[w.heap.size]? = some (.cells #[.int .i64 a.k, .string ⟨a.n.toArray⟩, .slice A a.s.length C, .int .i64 a.f, .int .i64 a.t, .int .i64 a.wn] 39 (0, 0))) := Lib.hid (fun W h => h.heap (heap_alloc_new w _) (fun f => f))
  have hh := HH0.out _ (Fr.refl _ _)
  go_enter Try.func22, Try.ntmps22
  go_wp2_with (refine wpList_load_row rfl 39 _ rfl w.heap.size rfl 39 _ (0, 0) _ hh Try.underlying39 rfl (by kernel_rfl) ?_)
  refine hgd.mono ?_
  clear hgd
  rintro e w1 ⟨rfl, hF1⟩
  generalize hW0 : w.alloc (.cells #[.int .i64 a.k, .string ⟨a.n.toArray⟩, .slice A a.s.length C, .int .i64 a.f, .int .i64 a.t, .int .i64 a.wn] 39) = w0 at *
  clear hW0 hh HH0
  have HF1 := Lib.hid hF1
  clear hF1
  cases B with
  | false =>
    have hg := HB.out.symm
    have HO : Hid (putOut a = []) := Lib.hid (by unfold putOut; rw [if_neg (by rw [hg]; decide)])
    have HE : Hid (putErr a = 1) := Lib.hid (by unfold putErr; rw [if_neg (by rw [hg]; decide)])
    clear hg
    go_wp2
    go_ret2
    exact ⟨_, by rw [HE.out]; rfl, by rw [HO.out]; exact BytesIs.nil _, HF0.out.trans' HF1.out⟩
  | true =>
    have hg := HB.out.symm
    have HO : Hid (putOut a = putB a) := Lib.hid (by unfold putOut; rw [if_pos hg])
    have HERR : Hid (putErr a = 0) := Lib.hid (by unfold putErr; rw [if_pos hg])
    have hnl := good_name hg
    have hkd := good_kind hg
    clear hg
    rcases hkd with ⟨h1, h2, h3, h4, h5, h6⟩ | ⟨h1, h2, h3, h4⟩
    · have hkk : True := trivial
      rw [h1] at HC0 ⊢
      have HH : Hid (headB a = 1 :: (be 2 a.n.length ++ a.n)) := Lib.hid (by unfold headB; rw [h1]; rfl)
      have hu := (u_any (.slice (some ⟨w1.heap.size, 0, none⟩) 1 1) [1] a.n.length 2 (by omega) (by decide) (by decide) (w1.alloc (.cells #[.int .u8 1] 5)) (BytesIs.new w1 [1] _ _ 1 rfl 1 (Nat.le_refl _) (fun j hj => by
        match j, hj with
        | 0, _ => rfl) _ rfl))
      have hc1 := HC0.out w1 HF1.out
      have hc2 := HC0.out _ (HF1.out.alloc (.cells #[.int .u8 1] 5))
      obtain ⟨d0, d1, _⟩ := hc1
      obtain ⟨e0, e1, _⟩ := hc2
      have hsz := size_str a.n
      go_wp2_with fail
      refine hu.mono ?_
      clear hu
      rintro e w2 ⟨v2, rfl, hO2, hF2⟩
      rw [beb_be] at hO2
      have hF2' : Fr0 w0 w2 := (HF1.out.alloc _).trans' hF2
      clear d0 d1 e0 e1
      have hO2l : ([1] ++ be 2 a.n.length).length = 3 := by rw [List.length_append, be_length]; rfl
      rw [hO2l] at hO2
      have HO2 := Lib.hid (ownsBase hO2 (show w0.heap.size ≤ _ from (HF1.out.alloc _).size))
      have HF2 := Lib.hid hF2'
      have hcv := Lib.run_convert_string_bytes (P := Try.prog) w2 9 33 5 ⟨a.n.toArray⟩ Try.underlying9 Try.underlying33 Try.underlying5
      have hF3 : Fr0 w0 (Lib.bytesWorld w2 5 ⟨a.n.toArray⟩) := hF2'.trans' (bytes_conv_fr _ _ _)
      have HB3 := Lib.hid (bytes_conv w2 5 a.n)
      obtain ⟨d0, d1, _⟩ := HC0.out w2 hF2'
      have HF3 := Lib.hid hF3
      have HO3 := Lib.hid (ownsFr (bytes_conv_fr w2 5 ⟨a.n.toArray⟩) HO2.out (fun _ _ f => f))
      rw [hsz] at hcv
      clear hO2 hF2 hF2' hF3 hO2l
      generalize Lib.bytesWorld w2 5 ⟨a.n.toArray⟩ = w3 at *
      generalize grownCap w2 a.n.length 0 5 = c3 at *
      go_wp2_with (refine wpList_append_bytes rfl (.tmp 18) (.tmp 21) 33 rfl w0.heap.size 5 Try.underlying33 Pack.info8 _ _ 3 ([1] ++ be 2 a.n.length) a.n rfl rfl HO3.out HB3.out (by omega) HF3.out.size ?_)
      intro v4 w4 hO4 hG4
      have hF4 : Fr0 w0 w4 := HF3.out.grown hG4 (fun k hk e => by have := (HO3.out.lt k e).1; omega)
      rw [← HH.out] at hO4
      have hhl : (headB a).length = 3 + a.n.length := by rw [HH.out, List.length_cons, List.length_append, be_length]; omega
      rw [← hhl] at hO4
      obtain ⟨A4, C4, rfl, _⟩ := owns_form hO4
      have HO4 := Lib.hid hO4
      have HF4 := Lib.hid hF4
      have hhm : (headB a).length ≤ 19 := by omega
      clear hO4 hG4 hF4 hcv d0 d1

      have hs0 : a.s.length ≤ 16 := h3
      obtain ⟨d0, _, d2, _⟩ := HC0.out w4 HF4.out
      have e2 := (HC0.out (w4.alloc (.cells #[.int .u8 (a.s.length : Int)] 5)) (HF4.out.alloc _)).2.2.1
      have HPB : Hid (putB a = headB a ++ [UInt8.ofNat a.s.length] ++ sB (a.s.take a.s.length)) := Lib.hid (by unfold putB; rw [if_pos h1, List.take_length])
      have hlit : BytesIs (w4.alloc (.cells #[.int .u8 (a.s.length : Int)] 5)) (.slice (some ⟨w4.heap.size, 0, none⟩) 1 1) [UInt8.ofNat a.s.length] := BytesIs.new w4 _ _ _ 1 rfl 1 (Nat.le_refl _) (fun j hj => by
        match j, hj with
        | 0, _ =>
          show some (Value.int .u8 (a.s.length : Int)) = some (.int .u8 ((UInt8.ofNat a.s.length).toNat : Int))
          rw [UInt8.toNat_ofNat_of_lt' (by show a.s.length < 256; omega)]) _ rfl
      have HLIT := Lib.hid hlit
      clear hlit h1 h4 h5 h6
      generalize hL : a.s.length = L at *
      generalize hX : headB a = X at *
      clear hX hhl
      go_wp2_with (refine wpList_append_bytes rfl (.tmp 26) (.tmp 31) 33 rfl w0.heap.size 5 Try.underlying33 Pack.info8 _ _ X.length X [UInt8.ofNat L] rfl rfl (ownsFr ((Fr.refl (fun _ => False) w4).alloc _) HO4.out (fun _ _ f => f)) HLIT.out (by simp; omega) (HF4.out.alloc _).size ?_)
      intro v5 w5 hO5 hG5
      have hF5 : Fr0 w0 w5 := (HF4.out.alloc _).grown hG5 (fun k hk e => by have := (HO4.out.lt k e).1; omega)
      obtain ⟨A5, C5, rfl, _⟩ := owns_form hO5
      have hxl : (X ++ [UInt8.ofNat L]).length = X.length + 1 := by rw [List.length_append]; rfl
      have HY5 : Hid (BytesIs w5 (.slice A5 (X ++ [UInt8.ofNat L]).length C5) (X ++ [UInt8.ofNat L])) := Lib.hid (BytesIs.own (n := X.length + 1) (by rw [hxl]; exact hO5))
      have HF5 := Lib.hid hF5
      have HXL := Lib.hid hxl
      have hyb : (X ++ [UInt8.ofNat L]).length ≤ 20 := by rw [hxl]; omega
      rw [← HXL.out]
      clear hO5 hG5 hF5 hxl HO4 HLIT d0 d2 e2
      generalize hY : X ++ [UInt8.ofNat L] = Y at *
      have HY := Lib.hid hY
      clear hY
      go_wp2_with fail
      go_loopg [4, 5] L (fun kx vb vi wr => ∃ (i : Nat) (y : List UInt8) (Ab : Option Addr) (Cb : Nat), vi = .int .i64 (i : Int) ∧ vb = .slice Ab y.length Cb ∧ i ≤ L ∧ L - i ≤ kx ∧ y.length ≤ 20 + 16 * i ∧ Hid (y = Y ++ sB (a.s.take i)) ∧ Hid (BytesIs wr (.slice Ab y.length Cb) y) ∧ Hid (Fr0 w0 wr))
      case atStart => exact ⟨0, Y, A5, C5, rfl, rfl, Nat.zero_le _, by omega, by omega, Lib.hid (by simp [sB]), HY5, HF5⟩
      case round =>
        clear HY5 HF5
        obtain ⟨i, y, Ab, Cb, rfl, rfl, hi, hk, hyl, HE, HYB, HFR⟩ := hrel
        have e2 := (HC0.out wr HFR.out).2.2.1
        by_cases hlt : i < L
        · obtain ⟨pb, po, rfl, hpc⟩ := pairs_at HS.out i (by omega)
          have HPC := Lib.hid hpc
          have HNX := Lib.hid (sB_next a.s i (by omega))
          clear hpc
          generalize (a.s.getD i (0, 0)).1 = T at *
          generalize (a.s.getD i (0, 0)).2 = U at *
          have i1 : (i : Int) < (L : Int) := by omega
          have i2 : 0 ≤ (i : Int) := by omega
          have htT := tw_lt T
          have htU := tw_lt U
          have hu1 := (u_any (.slice Ab y.length Cb) y (tw T) 8 htT (by decide) (by omega) wr.drew (HYB.out.fr0 (Fr.refl _ _).drew))
          rw [beb_be] at hu1
          have hcs := HPC.out wr.drew ((HF0.out.trans' HFR.out).drew)
          have HTW : Hid (T % 18446744073709551616 = (tw T : Int) ∧ U % 18446744073709551616 = (tw U : Int)) := Lib.hid ⟨tw_wrap T, tw_wrap U⟩
          rw [← HTW.out.1] at hu1
          go_wp2
          refine Mix.law (fun W => W.cell? ⟨w.heap.size, 2, none⟩ = some (.slice (some ⟨pb, po, none⟩) L C) ∧ W.cell? ⟨pb, po + i * 2, none⟩ = some (.int .i64 T) ∧ W.cell? ⟨pb, po + i * 2 + 1, none⟩ = some (.int .i64 U)) [(.sure, 0), (.sure, 1), (.sure, 2), (.sure, 3), (.sure, 4), (.sure, 5), (.sure, 6), (.sure, 7), (.sure, 9), (.sure, 10), (.sure, 11), (.sure, 12), (.sure, 13), (.sure, 14), (.sure, 15), (.turn, 8), (.turn, 16), (.sure, 17)] (by kernel_rfl) (by kernel_rfl) ⟨e2, hcs.1, hcs.2⟩ ?_
          simp only [List.map_cons, List.map_nil, Mix.nth_zero, Mix.nth_succ]
          repeat (first
            | (refine Mix.go_skipS (by exact Mix.wanted_no rfl rfl rfl rfl) ?_; go_frame)
            | (refine Mix.go_skipL (by exact Mix.wanted_no rfl rfl rfl rfl) ?_; go_frame)
            | (refine Mix.go_move (by first | exact Mix.wanted_none rfl | exact Mix.wanted_yes rfl rfl rfl) _ rfl _ (by first | (go_simp; done) | (go_simp; rfl)) ?_; go_frame)
            | (refine Mix.go_assign (by first | exact Mix.wanted_none rfl | exact Mix.wanted_yes rfl rfl rfl) _ rfl _ (by first | (go_simp; done) | (go_simp; rfl)) ?_; go_frame)
            | (refine Mix.go_sureW (by first | exact Mix.wanted_none rfl | exact Mix.wanted_yes rfl rfl rfl) _ (by rfl) (by rfl) _ (fun w' ⟨hC1, hC2, hC3⟩ => by go_wp2_with fail; refine Mix.stays ?_; go_frame; rfl) ?_; go_frame)
            | (refine Mix.go_lookW (by first | exact Mix.wanted_none rfl | exact Mix.wanted_yes rfl rfl rfl) _ (by rfl) (by rfl) _ (by go_wp2_with fail; refine Mix.stays ?_; go_frame; rfl) ?_; go_frame))
          refine Mix.go_turn ?_
          go_wp2_with fail
          refine hu1.mono ?_
          clear hu1
          rintro e w6 ⟨v6, rfl, hO6, hF6⟩
          have HF6 : Hid (Fr0 w0 w6) := Lib.hid (HFR.out.drew.trans' hF6)
          have hc6 := HPC.out w6 (HF0.out.trans' HF6.out)
          have e6 := (HC0.out w6 HF6.out).2.2.1
          have hu2 := (u_any v6 _ (tw U) 8 htU (by decide) (by rw [List.length_append, be_length]; omega) w6 (BytesIs.own hO6))
          rw [beb_be, ← HTW.out.2] at hu2
          clear hO6 hF6
          go_wp2
          refine Mix.then_go ⟨e6, hc6.1, hc6.2⟩ ?_
          refine Mix.go_turn ?_
          go_wp2_with fail
          refine hu2.mono ?_
          clear hu2
          rintro e w7 ⟨v7, rfl, hO7, hF7⟩
          have HF7 : Hid (Fr0 w0 w7) := Lib.hid (HF6.out.trans' hF7)
          have hc7 := HPC.out w7 (HF0.out.trans' HF7.out)
          have e7 := (HC0.out w7 HF7.out).2.2.1
          have hB7 := BytesIs.own hO7
          obtain ⟨A7, C7, rfl⟩ := hB7.form
          have HB7 := Lib.hid hB7
          have hl7 : (y ++ be 8 (tw T) ++ be 8 (tw U)).length = y.length + 16 := by rw [List.length_append, List.length_append, be_length, be_length]
          have HL7 := Lib.hid hl7
          have HE7 : Hid (y ++ be 8 (tw T) ++ be 8 (tw U) = Y ++ sB (a.s.take (i + 1))) := Lib.hid (by rw [HNX.out, HE.out]; simp)
          clear hO7 hF7 hB7 hl7 hc6 e6 hcs e2
          generalize y ++ be 8 (tw T) ++ be 8 (tw U) = y7 at *
          go_wp2
          refine Mix.then_go ⟨e7, hc7.1, hc7.2⟩ ?_
          repeat (first
            | (refine Mix.go_skipS (by exact Mix.wanted_no rfl rfl rfl rfl) ?_; go_frame)
            | (refine Mix.go_skipL (by exact Mix.wanted_no rfl rfl rfl rfl) ?_; go_frame)
            | (refine Mix.go_move (by first | exact Mix.wanted_none rfl | exact Mix.wanted_yes rfl rfl rfl) _ rfl _ (by first | (go_simp; done) | (go_simp; rfl)) ?_; go_frame)
            | (refine Mix.go_assign (by first | exact Mix.wanted_none rfl | exact Mix.wanted_yes rfl rfl rfl) _ rfl _ (by first | (go_simp; done) | (go_simp; rfl)) ?_; go_frame)
            | (refine Mix.go_sureW (by first | exact Mix.wanted_none rfl | exact Mix.wanted_yes rfl rfl rfl) _ (by rfl) (by rfl) _ (fun w' ⟨hC1, hC2, hC3⟩ => by go_wp2_with fail; refine Mix.stays ?_; go_frame; rfl) ?_; go_frame)
            | (refine Mix.go_lookW (by first | exact Mix.wanted_none rfl | exact Mix.wanted_yes rfl rfl rfl) _ (by rfl) (by rfl) _ (by go_wp2_with fail; refine Mix.stays ?_; go_frame; rfl) ?_; go_frame))
          refine Mix.go_end ?_
          go_wp2
          go_roundg (L - (i + 1))
          case measure => omega
          case rel => exact ⟨i + 1, y7, A7, C7, by simp, rfl, by omega, by omega, by have := HL7.out; omega, HE7, HB7, HF7⟩
        · obtain rfl : i = L := by omega
          go_wp2
          go_ret2
          exact ⟨_, by rw [HERR.out]; rfl, by rw [HO.out, HPB.out, ← HE.out]; exact HYB.out, HF0.out.trans' HFR.out⟩
    · have hkk : True := trivial
      rw [h1] at HC0 ⊢
      have HH : Hid (headB a = 2 :: (be 2 a.n.length ++ a.n)) := Lib.hid (by unfold headB; rw [h1]; rfl)
      have hu := (u_any (.slice (some ⟨w1.heap.size, 0, none⟩) 1 1) [2] a.n.length 2 (by omega) (by decide) (by decide) (w1.alloc (.cells #[.int .u8 2] 5)) (BytesIs.new w1 [2] _ _ 1 rfl 1 (Nat.le_refl _) (fun j hj => by
        match j, hj with
        | 0, _ => rfl) _ rfl))
      have hc1 := HC0.out w1 HF1.out
      have hc2 := HC0.out _ (HF1.out.alloc (.cells #[.int .u8 2] 5))
      obtain ⟨d0, d1, _⟩ := hc1
      obtain ⟨e0, e1, _⟩ := hc2
      have hsz := size_str a.n
      go_wp2_with fail
      refine hu.mono ?_
      clear hu
      rintro e w2 ⟨v2, rfl, hO2, hF2⟩
      rw [beb_be] at hO2
      have hF2' : Fr0 w0 w2 := (HF1.out.alloc _).trans' hF2
      clear d0 d1 e0 e1
      have hO2l : ([2] ++ be 2 a.n.length).length = 3 := by rw [List.length_append, be_length]; rfl
      rw [hO2l] at hO2
      have HO2 := Lib.hid (ownsBase hO2 (show w0.heap.size ≤ _ from (HF1.out.alloc _).size))
      have HF2 := Lib.hid hF2'
      have hcv := Lib.run_convert_string_bytes (P := Try.prog) w2 9 33 5 ⟨a.n.toArray⟩ Try.underlying9 Try.underlying33 Try.underlying5
      have hF3 : Fr0 w0 (Lib.bytesWorld w2 5 ⟨a.n.toArray⟩) := hF2'.trans' (bytes_conv_fr _ _ _)
      have HB3 := Lib.hid (bytes_conv w2 5 a.n)
      obtain ⟨d0, d1, _⟩ := HC0.out w2 hF2'
      have HF3 := Lib.hid hF3
      have HO3 := Lib.hid (ownsFr (bytes_conv_fr w2 5 ⟨a.n.toArray⟩) HO2.out (fun _ _ f => f))
      rw [hsz] at hcv
      clear hO2 hF2 hF2' hF3 hO2l
      generalize Lib.bytesWorld w2 5 ⟨a.n.toArray⟩ = w3 at *
      generalize grownCap w2 a.n.length 0 5 = c3 at *
      go_wp2_with (refine wpList_append_bytes rfl (.tmp 18) (.tmp 21) 33 rfl w0.heap.size 5 Try.underlying33 Pack.info8 _ _ 3 ([2] ++ be 2 a.n.length) a.n rfl rfl HO3.out HB3.out (by omega) HF3.out.size ?_)
      intro v4 w4 hO4 hG4
      have hF4 : Fr0 w0 w4 := HF3.out.grown hG4 (fun k hk e => by have := (HO3.out.lt k e).1; omega)
      rw [← HH.out] at hO4
      have hhl : (headB a).length = 3 + a.n.length := by rw [HH.out, List.length_cons, List.length_append, be_length]; omega
      rw [← hhl] at hO4
      obtain ⟨A4, C4, rfl, _⟩ := owns_form hO4
      have HO4 := Lib.hid hO4
      have HF4 := Lib.hid hF4
      have hhm : (headB a).length ≤ 19 := by omega
      clear hO4 hG4 hF4 hcv d0 d1

      obtain ⟨d0, _, _, d3, d4, d5⟩ := HC0.out w4 HF4.out
      have hkn : ¬ a.k = 1 := by omega
      have HPB : Hid (putB a = headB a ++ be 8 (tw a.f) ++ be 8 (tw a.t) ++ [UInt8.ofNat a.wn.toNat]) := Lib.hid (by unfold putB; rw [if_neg hkn])
      obtain ⟨N, hN⟩ := Int.eq_ofNat_of_zero_le (show 0 ≤ a.wn by omega)
      have hN31 : N ≤ 31 := by omega
      rw [hN] at HPB HC0 d5
      rw [show ((N : Nat) : Int).toNat = N from rfl] at HPB
      have hlit : ∀ W : World, BytesIs (W.alloc (.cells #[.int .u8 (N : Int)] 5)) (.slice (some ⟨W.heap.size, 0, none⟩) 1 1) [UInt8.ofNat N] := fun W => BytesIs.new W _ _ _ 1 rfl 1 (Nat.le_refl _) (fun j hj => by
        match j, hj with
        | 0, _ =>
          show some (Value.int .u8 (N : Int)) = some (.int .u8 ((UInt8.ofNat N).toNat : Int))
          rw [UInt8.toNat_ofNat_of_lt' (by show N < 256; omega)]) _ rfl
      have HLIT := Lib.hid hlit
      have htT := tw_lt a.f
      have htU := tw_lt a.t
      have HTW : Hid (a.f % 18446744073709551616 = (tw a.f : Int) ∧ a.t % 18446744073709551616 = (tw a.t : Int)) := Lib.hid ⟨tw_wrap _, tw_wrap _⟩
      clear hlit h1 h2 h3 h4 hN hkn
      generalize hX : headB a = X at *
      clear hX hhl
      have HXB := Lib.hid (BytesIs.own HO4.out)
      go_wp2
      refine Mix.lawT (fun W => W.cell? ⟨w.heap.size, 3, none⟩ = some (.int .i64 a.f) ∧ W.cell? ⟨w.heap.size, 4, none⟩ = some (.int .i64 a.t) ∧ W.cell? ⟨w.heap.size, 5, none⟩ = some (.int .i64 (N : Int))) [(.sure, 0), (.sure, 1), (.sure, 2), (.sure, 3), (.sure, 5), (.sure, 6), (.sure, 7), (.sure, 9), (.sure, 10), (.sure, 11)] (.alt 4 [] (.alt 8 [(.turn, 12), (.turn, 13), (.sure, 14), (.sure, 15)] .stop 12 [(.turn, 8), (.turn, 13), (.sure, 14), (.sure, 15)] .stop) 12 [(.turn, 4), (.turn, 8), (.turn, 13), (.sure, 14), (.sure, 15)] .stop) (by kernel_rfl) (by kernel_rfl) ⟨d3, d4, d5⟩ ?_
      clear d3 d4 d5 d0
      simp only [List.map_cons, List.map_nil, Mix.nth_zero, Mix.nth_succ]
      repeat (first
        | (refine Mix.go_skipS (by exact Mix.wanted_no rfl rfl rfl rfl) ?_; go_frame)
        | (refine Mix.go_skipL (by exact Mix.wanted_no rfl rfl rfl rfl) ?_; go_frame)
        | (refine Mix.go_move (by first | exact Mix.wanted_none rfl | exact Mix.wanted_yes rfl rfl rfl) _ rfl _ (by first | (go_simp; done) | (go_simp; rfl)) ?_; go_frame)
        | (refine Mix.go_assign (by first | exact Mix.wanted_none rfl | exact Mix.wanted_yes rfl rfl rfl) _ rfl _ (by first | (go_simp; done) | (go_simp; rfl)) ?_; go_frame)
        | (refine Mix.go_sureW (by first | exact Mix.wanted_none rfl | exact Mix.wanted_yes rfl rfl rfl) _ (by rfl) (by rfl) _ (fun w' ⟨hC1, hC2, hC3⟩ => by go_wp2_with fail; refine Mix.stays ?_; go_frame; rfl) ?_; go_frame)
        | (refine Mix.go_lookW (by first | exact Mix.wanted_none rfl | exact Mix.wanted_yes rfl rfl rfl) _ (by rfl) (by rfl) _ (by go_wp2_with fail; refine Mix.stays ?_; go_frame; rfl) ?_; go_frame))
      refine Mix.go_end ?_
      have HDR := Lib.hid ((Fr.refl (fun _ => False) w4).drew)
      generalize w4.drew = wd at *
      refine Mix.go_fork ?_ ?_
      · simp only [List.map_cons, List.map_nil, Mix.nth_zero, Mix.nth_succ]
        have hu1 := (u_any (.slice A4 X.length C4) X (tw a.f) 8 htT (by decide) (by omega) wd (HXB.out.fr0 (HDR.out)))
        rw [beb_be, ← HTW.out.1] at hu1
        go_wp2_with fail
        refine hu1.mono ?_
        clear hu1
        rintro e wa ⟨va, rfl, hOa, hFa⟩
        have HD1 : Hid (Fr0 w4 wa) := Lib.hid (HDR.out.trans' hFa)
        have hla : (X ++ be 8 (tw a.f)).length = X.length + 8 := by rw [List.length_append, be_length]
        have HBA := Lib.hid (BytesIs.own hOa)
        have HSA := Lib.hid hFa.size
        clear hOa hFa
        go_wp2
        have hz := HC0.out wa (HF4.out.trans' HD1.out)
        refine Mix.then_go ⟨hz.2.2.2.1, hz.2.2.2.2.1, hz.2.2.2.2.2⟩ ?_
        clear hz
        refine Mix.go_end ?_
        refine Mix.go_fork ?_ ?_
        · simp only [List.map_cons, List.map_nil, Mix.nth_zero, Mix.nth_succ]
          have hu2 := (u_any va _ (tw a.t) 8 htU (by decide) (by rw [hla]; omega) wa (HBA.out))
          rw [beb_be, ← HTW.out.2] at hu2
          go_wp2_with fail
          refine hu2.mono ?_
          clear hu2
          rintro e wb ⟨vb, rfl, hOb, hFb⟩
          have HD2 : Hid (Fr0 w4 wb) := Lib.hid (HD1.out.trans' hFb)
          have HOB := Lib.hid (ownsBase hOb (show w0.heap.size ≤ _ from Nat.le_trans HF4.out.size HD1.out.size))
          have hlb : (X ++ be 8 (tw a.f) ++ be 8 (tw a.t)).length ≤ 35 := by rw [List.length_append, List.length_append, be_length, be_length]; omega
          clear hOb hFb hla
          generalize X ++ be 8 (tw a.f) ++ be 8 (tw a.t) = y at *
          go_wp2
          have hz := HC0.out wb (HF4.out.trans' HD2.out)
          refine Mix.then_go ⟨hz.2.2.2.1, hz.2.2.2.2.1, hz.2.2.2.2.2⟩ ?_
          clear hz
          refine Mix.go_turn ?_
          go_wp2
          have HLT := Lib.hid (HLIT.out (wb))
          have HAL := Lib.hid ((Fr.refl (fun _ => False) (wb)).alloc (.cells #[.int .u8 (N : Int)] 5))
          have HD3 : Hid (Fr0 w4 ((wb).alloc (.cells #[.int .u8 (N : Int)] 5))) := Lib.hid (HD2.out.alloc _)
          have HOB := Lib.hid (ownsFr HAL.out HOB.out (fun _ _ f => f))
          generalize hWl : (wb).alloc (.cells #[.int .u8 (N : Int)] 5) = wl at *
          have hz := HC0.out wl (HF4.out.trans' HD3.out)
          refine Mix.then_go ⟨hz.2.2.2.1, hz.2.2.2.2.1, hz.2.2.2.2.2⟩ ?_
          clear hz
          refine Mix.go_turn ?_
          go_wp2_with (refine wpList_append_bytes rfl (.tmp 66) (.tmp 70) 33 rfl w0.heap.size 5 Try.underlying33 Pack.info8 _ _ y.length y [UInt8.ofNat N] rfl rfl HOB.out HLT.out (by simp; omega) (Nat.le_trans HF4.out.size HD3.out.size) ?_)
          intro vp wp hOp hGp
          have HD4 : Hid (Fr0 w0 wp) := Lib.hid ((HF4.out.trans' HD3.out).grown hGp (fun k hk e => by have := (HOB.out.lt k e).1; omega))
          have HBP := Lib.hid (BytesIs.own hOp)
          clear hOp hGp
          have hz := HC0.out wp HD4.out
          refine Mix.then_go ⟨hz.2.2.2.1, hz.2.2.2.2.1, hz.2.2.2.2.2⟩ ?_
          clear hz
          repeat (first
            | (refine Mix.go_skipS (by exact Mix.wanted_no rfl rfl rfl rfl) ?_; go_frame)
            | (refine Mix.go_skipL (by exact Mix.wanted_no rfl rfl rfl rfl) ?_; go_frame)
            | (refine Mix.go_move (by first | exact Mix.wanted_none rfl | exact Mix.wanted_yes rfl rfl rfl) _ rfl _ (by first | (go_simp; done) | (go_simp; rfl)) ?_; go_frame)
            | (refine Mix.go_assign (by first | exact Mix.wanted_none rfl | exact Mix.wanted_yes rfl rfl rfl) _ rfl _ (by first | (go_simp; done) | (go_simp; rfl)) ?_; go_frame)
            | (refine Mix.go_sureW (by first | exact Mix.wanted_none rfl | exact Mix.wanted_yes rfl rfl rfl) _ (by rfl) (by rfl) _ (fun w' ⟨hC1, hC2, hC3⟩ => by go_wp2_with fail; refine Mix.stays ?_; go_frame; rfl) ?_; go_frame)
            | (refine Mix.go_lookW (by first | exact Mix.wanted_none rfl | exact Mix.wanted_yes rfl rfl rfl) _ (by rfl) (by rfl) _ (by go_wp2_with fail; refine Mix.stays ?_; go_frame; rfl) ?_; go_frame))
          refine Mix.go_end ?_
          refine Mix.go_stop ?_
          go_wp2
          go_ret2
          exact ⟨_, by rw [HERR.out]; rfl, by rw [HO.out, HPB.out]; exact HBP.out, HF0.out.trans' HD4.out⟩
        · simp only [List.map_cons, List.map_nil, Mix.nth_zero, Mix.nth_succ]
          go_wp2
          have HLT := Lib.hid (HLIT.out (wa))
          have HAL := Lib.hid ((Fr.refl (fun _ => False) (wa)).alloc (.cells #[.int .u8 (N : Int)] 5))
          have HD2 : Hid (Fr0 w4 ((wa).alloc (.cells #[.int .u8 (N : Int)] 5))) := Lib.hid (HD1.out.alloc _)
          generalize hWl : (wa).alloc (.cells #[.int .u8 (N : Int)] 5) = wl at *
          have hz := HC0.out wl (HF4.out.trans' HD2.out)
          refine Mix.then_go ⟨hz.2.2.2.1, hz.2.2.2.2.1, hz.2.2.2.2.2⟩ ?_
          clear hz
          refine Mix.go_turn ?_
          have hu2 := (u_any va _ (tw a.t) 8 htU (by decide) (by rw [hla]; omega) wl (HBA.out.fr0 (HAL.out)))
          rw [beb_be, ← HTW.out.2] at hu2
          go_wp2_with fail
          refine hu2.mono ?_
          clear hu2
          rintro e wb ⟨vb, rfl, hOb, hFb⟩
          have HD3 : Hid (Fr0 w4 wb) := Lib.hid (HD2.out.trans' hFb)
          have HOB := Lib.hid (ownsBase hOb (show w0.heap.size ≤ _ from Nat.le_trans HF4.out.size HD2.out.size))
          have HLT := Lib.hid (HLT.out.fr0 hFb)
          have hlb : (X ++ be 8 (tw a.f) ++ be 8 (tw a.t)).length ≤ 35 := by rw [List.length_append, List.length_append, be_length, be_length]; omega
          clear hOb hFb hla
          generalize X ++ be 8 (tw a.f) ++ be 8 (tw a.t) = y at *
          go_wp2
          have hz := HC0.out wb (HF4.out.trans' HD3.out)
          refine Mix.then_go ⟨hz.2.2.2.1, hz.2.2.2.2.1, hz.2.2.2.2.2⟩ ?_
          clear hz
          refine Mix.go_turn ?_
          go_wp2_with (refine wpList_append_bytes rfl (.tmp 66) (.tmp 70) 33 rfl w0.heap.size 5 Try.underlying33 Pack.info8 _ _ y.length y [UInt8.ofNat N] rfl rfl HOB.out HLT.out (by simp; omega) (Nat.le_trans HF4.out.size HD3.out.size) ?_)
          intro vp wp hOp hGp
          have HD4 : Hid (Fr0 w0 wp) := Lib.hid ((HF4.out.trans' HD3.out).grown hGp (fun k hk e => by have := (HOB.out.lt k e).1; omega))
          have HBP := Lib.hid (BytesIs.own hOp)
          clear hOp hGp
          have hz := HC0.out wp HD4.out
          refine Mix.then_go ⟨hz.2.2.2.1, hz.2.2.2.2.1, hz.2.2.2.2.2⟩ ?_
          clear hz
          repeat (first
            | (refine Mix.go_skipS (by exact Mix.wanted_no rfl rfl rfl rfl) ?_; go_frame)
            | (refine Mix.go_skipL (by exact Mix.wanted_no rfl rfl rfl rfl) ?_; go_frame)
            | (refine Mix.go_move (by first | exact Mix.wanted_none rfl | exact Mix.wanted_yes rfl rfl rfl) _ rfl _ (by first | (go_simp; done) | (go_simp; rfl)) ?_; go_frame)
            | (refine Mix.go_assign (by first | exact Mix.wanted_none rfl | exact Mix.wanted_yes rfl rfl rfl) _ rfl _ (by first | (go_simp; done) | (go_simp; rfl)) ?_; go_frame)
            | (refine Mix.go_sureW (by first | exact Mix.wanted_none rfl | exact Mix.wanted_yes rfl rfl rfl) _ (by rfl) (by rfl) _ (fun w' ⟨hC1, hC2, hC3⟩ => by go_wp2_with fail; refine Mix.stays ?_; go_frame; rfl) ?_; go_frame)
            | (refine Mix.go_lookW (by first | exact Mix.wanted_none rfl | exact Mix.wanted_yes rfl rfl rfl) _ (by rfl) (by rfl) _ (by go_wp2_with fail; refine Mix.stays ?_; go_frame; rfl) ?_; go_frame))
          refine Mix.go_end ?_
          refine Mix.go_stop ?_
          go_wp2
          go_ret2
          exact ⟨_, by rw [HERR.out]; rfl, by rw [HO.out, HPB.out]; exact HBP.out, HF0.out.trans' HD4.out⟩
      · simp only [List.map_cons, List.map_nil, Mix.nth_zero, Mix.nth_succ]
        go_wp2
        have HLT := Lib.hid (HLIT.out (wd))
        have HAL := Lib.hid ((Fr.refl (fun _ => False) (wd)).alloc (.cells #[.int .u8 (N : Int)] 5))
        have HD1 : Hid (Fr0 w4 ((wd).alloc (.cells #[.int .u8 (N : Int)] 5))) := Lib.hid (HDR.out.alloc _)
        generalize hWl : (wd).alloc (.cells #[.int .u8 (N : Int)] 5) = wl at *
        have hz := HC0.out wl (HF4.out.trans' HD1.out)
        refine Mix.then_go ⟨hz.2.2.2.1, hz.2.2.2.2.1, hz.2.2.2.2.2⟩ ?_
        clear hz
        refine Mix.go_turn ?_
        have hu1 := (u_any (.slice A4 X.length C4) X (tw a.f) 8 htT (by decide) (by omega) wl (HXB.out.fr0 (HD1.out)))
        rw [beb_be, ← HTW.out.1] at hu1
        go_wp2_with fail
        refine hu1.mono ?_
        clear hu1
        rintro e wa ⟨va, rfl, hOa, hFa⟩
        have HD2 : Hid (Fr0 w4 wa) := Lib.hid (HD1.out.trans' hFa)
        have hla : (X ++ be 8 (tw a.f)).length = X.length + 8 := by rw [List.length_append, be_length]
        have HBA := Lib.hid (BytesIs.own hOa)
        have HSA := Lib.hid hFa.size
        have HLT := Lib.hid (HLT.out.fr0 hFa)
        clear hOa hFa
        go_wp2
        have hz := HC0.out wa (HF4.out.trans' HD2.out)
        refine Mix.then_go ⟨hz.2.2.2.1, hz.2.2.2.2.1, hz.2.2.2.2.2⟩ ?_
        clear hz
        refine Mix.go_turn ?_
        have hu2 := (u_any va _ (tw a.t) 8 htU (by decide) (by rw [hla]; omega) wa (HBA.out))
        rw [beb_be, ← HTW.out.2] at hu2
        go_wp2_with fail
        refine hu2.mono ?_
        clear hu2
        rintro e wb ⟨vb, rfl, hOb, hFb⟩
        have HD3 : Hid (Fr0 w4 wb) := Lib.hid (HD2.out.trans' hFb)
        have HOB := Lib.hid (ownsBase hOb (show w0.heap.size ≤ _ from Nat.le_trans HF4.out.size HD2.out.size))
        have HLT := Lib.hid (HLT.out.fr0 hFb)
        have hlb : (X ++ be 8 (tw a.f) ++ be 8 (tw a.t)).length ≤ 35 := by rw [List.length_append, List.length_append, be_length, be_length]; omega
        clear hOb hFb hla
        generalize X ++ be 8 (tw a.f) ++ be 8 (tw a.t) = y at *
        go_wp2
        have hz := HC0.out wb (HF4.out.trans' HD3.out)
        refine Mix.then_go ⟨hz.2.2.2.1, hz.2.2.2.2.1, hz.2.2.2.2.2⟩ ?_
        clear hz
        refine Mix.go_turn ?_
        go_wp2_with (refine wpList_append_bytes rfl (.tmp 66) (.tmp 70) 33 rfl w0.heap.size 5 Try.underlying33 Pack.info8 _ _ y.length y [UInt8.ofNat N] rfl rfl HOB.out HLT.out (by simp; omega) (Nat.le_trans HF4.out.size HD3.out.size) ?_)
        intro vp wp hOp hGp
        have HD4 : Hid (Fr0 w0 wp) := Lib.hid ((HF4.out.trans' HD3.out).grown hGp (fun k hk e => by have := (HOB.out.lt k e).1; omega))
        have HBP := Lib.hid (BytesIs.own hOp)
        clear hOp hGp
        have hz := HC0.out wp HD4.out
        refine Mix.then_go ⟨hz.2.2.2.1, hz.2.2.2.2.1, hz.2.2.2.2.2⟩ ?_
        clear hz
        repeat (first
          | (refine Mix.go_skipS (by exact Mix.wanted_no rfl rfl rfl rfl) ?_; go_frame)
          | (refine Mix.go_skipL (by exact Mix.wanted_no rfl rfl rfl rfl) ?_; go_frame)
          | (refine Mix.go_move (by first | exact Mix.wanted_none rfl | exact Mix.wanted_yes rfl rfl rfl) _ rfl _ (by first | (go_simp; done) | (go_simp; rfl)) ?_; go_frame)
          | (refine Mix.go_assign (by first | exact Mix.wanted_none rfl | exact Mix.wanted_yes rfl rfl rfl) _ rfl _ (by first | (go_simp; done) | (go_simp; rfl)) ?_; go_frame)
          | (refine Mix.go_sureW (by first | exact Mix.wanted_none rfl | exact Mix.wanted_yes rfl rfl rfl) _ (by rfl) (by rfl) _ (fun w' ⟨hC1, hC2, hC3⟩ => by go_wp2_with fail; refine Mix.stays ?_; go_frame; rfl) ?_; go_frame)
          | (refine Mix.go_lookW (by first | exact Mix.wanted_none rfl | exact Mix.wanted_yes rfl rfl rfl) _ (by rfl) (by rfl) _ (by go_wp2_with fail; refine Mix.stays ?_; go_frame; rfl) ?_; go_frame))
        refine Mix.go_end ?_
        refine Mix.go_stop ?_
        go_wp2
        go_ret2
        exact ⟨_, by rw [HERR.out]; rfl, by rw [HO.out, HPB.out]; exact HBP.out, HF0.out.trans' HD4.out⟩
end Go.Proofs.Ytmnbihpcgkgebaa.Ask
