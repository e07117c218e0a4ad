/-
  The program's putTwo, putSamples, Put.
-/
import Derived.Test.YtmnbihpcgkgebaaAskGood
import Derived.Test.YtmnbihpcgkgebaaAskRefPut
import Derived.Test.YtmnbihpcgkgebaaPackWrite
namespace Go.Proofs.Ytmnbihpcgkgebaa.Ask
open Go.RowKit Base Pack

theorem be1 (n : Nat) (h : n < 256) : be 1 n = [UInt8.ofNat n] := by
  have e1 : n % 256 = n := Nat.mod_eq_of_lt h
  simp [be, List.range_succ, e1]
set_option maxHeartbeats 1000000 in
theorem putTwo_any (v : Value) (l : List UInt8) (x y : Int) (hl : l.length ≤ 1000000000) (w : World) (hB : BytesIs w v l) :
    Calls Try.prog 20 #[v, .int .i64 x, .int .i64 y] w fun e w' => ∃ v', e = .returned v' ∧ BytesIs w' v' (l ++ be 8 (tw x) ++ be 8 (tw y)) ∧ Fr0 w w' := by
  have h1 := u64_any v l (tw x) (tw_lt x) (by omega) w hB
  rw [← tw_wrap x] at h1
  clear hB
  go_enter Try.func20, Try.ntmps20
  go_wp2_with fail
  refine h1.mono ?_
  clear h1
  rintro e w1 ⟨v1, rfl, hB1, hF1⟩
  have h2 := u64_any v1 _ (tw y) (tw_lt y) (by rw [List.length_append, be_length]; omega) w1 hB1
  rw [← tw_wrap y] at h2
  have HF1 := Lib.hid hF1
  clear hB1 hF1
  go_wp2_with fail
  refine h2.mono ?_
  clear h2
  rintro e w2 ⟨v2, rfl, hB2, hF2⟩
  have HB2 := Lib.hid hB2
  have HF2 := Lib.hid (HF1.out.trans' hF2)
  clear hB2 hF2
  go_wp2
  go_ret
  exact ⟨_, rfl, HB2.out, HF2.out⟩
set_option maxRecDepth 100000 in
set_option maxHeartbeats 4000000 in
theorem putSamples_any (v : Value) (l : List UInt8) (A : Option Addr) (C : Nat) (S : List (Int × Int)) (hl : l.length ≤ 1000000) (hS : S.length ≤ 16) (w : World) (hB : BytesIs w v l) (hP : PairsIs w (.slice A S.length C) S) :
    Calls Try.prog 19 #[v, .slice A S.length C] w fun e w' => ∃ v', e = .returned v' ∧ BytesIs w' v' (l ++ [UInt8.ofNat S.length] ++ sB S) ∧ Fr0 w w' := by
  have h1 := u8_any v l S.length (by omega) (by omega) w hB
  rw [be1 S.length (by omega)] at h1
  have HP := Lib.hid hP
  have HSN : Hid (∀ i, i < S.length → sB (S.take (i + 1)) = sB (S.take i) ++ be 8 (tw (S.getD i (0, 0)).1) ++ be 8 (tw (S.getD i (0, 0)).2)) := Lib.hid (fun i h => sB_next S i h)
  have HSL : Hid (∀ i, i ≤ S.length → (sB (S.take i)).length ≤ 256) := Lib.hid (fun i h => by rw [sB_length, List.length_take]; omega)
  clear hB hP
  generalize hL : S.length = L at *
  have HL := Lib.hid hL
  clear hL
  go_enter Try.func19, Try.ntmps19
  go_wp2_with fail
  refine h1.mono ?_
  clear h1
  rintro e w1 ⟨v1, rfl, hB1, hF1⟩
  have HB1 := Lib.hid hB1
  have HF1 := Lib.hid hF1
  have HX : Hid (l ++ [UInt8.ofNat L] ++ sB (S.take 0) = l ++ [UInt8.ofNat L]) := Lib.hid (by simp [sB])
  have hxl : (l ++ [UInt8.ofNat L]).length ≤ 1000001 := by rw [List.length_append]; simp; omega
  clear hB1 hF1
  obtain ⟨X, hX⟩ : ∃ X, X = l ++ [UInt8.ofNat L] := ⟨_, rfl⟩
  rw [← hX] at HX HB1 hxl
  have HXE := Lib.hid hX
  clear hX
  go_wp2
  go_loopg [0, 14] L (fun kx va vi wr => ∃ (i : Nat), vi = .int .i64 (i : Int) ∧ i ≤ L ∧ L - i ≤ kx ∧ Hid (BytesIs wr va (X ++ sB (S.take i))) ∧ Hid (Fr0 w wr))
  case atStart => exact ⟨0, rfl, Nat.zero_le _, by omega, by rw [HX.out]; exact HB1, HF1⟩
  case round =>
    clear HB1 HF1 HX
    obtain ⟨i, rfl, hi, hk, HB, HF⟩ := hrel
    by_cases hlt : i < L
    · obtain ⟨pb, po, rfl, hpc⟩ := pairs_at HP.out i (by have := HL.out; omega)
      obtain ⟨p0, p1⟩ := hpc wr HF.out
      have HNX := Lib.hid (HSN.out i hlt)
      have hsl := HSL.out i (by omega)
      have i1 : (i : Int) < (L : Int) := by omega
      have i2 : 0 ≤ (i : Int) := by omega
      clear hpc
      generalize (S.getD i (0, 0)).1 = T at *
      generalize (S.getD i (0, 0)).2 = U at *
      go_wp2_with fail
      have HF1 := Lib.hid (HF.out.alloc (.cells #[.int .i64 T, .int .i64 U] 24))
      refine (putTwo_any u0 _ T U (by rw [List.length_append]; omega) _ (HB.out.fr0 ((Fr.refl _ _).alloc _))).mono ?_
      rintro e w2 ⟨v2, rfl, hB2, hF2⟩
      have HB2 : Hid (BytesIs w2 v2 (X ++ sB (S.take (i + 1)))) := Lib.hid (by rw [HNX.out, ← List.append_assoc, ← List.append_assoc]; exact hB2)
      have HF2 := Lib.hid (HF1.out.trans' hF2)
      clear hB2 hF2
      go_wp2
      go_roundg (L - (i + 1))
      case measure => omega
      case rel => exact ⟨i + 1, by simp, by omega, by omega, HB2, HF2⟩
    · obtain rfl : i = L := by omega
      have htk : S.take i = S := List.take_of_length_le (by have := HL.out; omega)
      have HBZ := HB.out
      rw [htk] at HBZ
      have HBZ := Lib.hid HBZ
      go_wp2
      go_ret
      exact ⟨_, rfl, by rw [← HXE.out]; exact HBZ.out, HF.out⟩
set_option maxRecDepth 100000 in
set_option maxHeartbeats 4000000 in
theorem pput_any (A : Option Addr) (C : Nat) (a : Rq) (hn : a.n.length ≤ 9223372036854775807) (w : World) (hS : PairsIs w (.slice A a.s.length C) a.s) :
    Calls Try.prog 9 #[.agg (rv (.slice A a.s.length C) a)] w (PutPost a w) := by
  have hgd := pgood_any A C a hn (w.alloc (.cells #[.int .i64 a.k, .string ⟨a.n.toArray⟩, .slice A a.s.length C, .int .i64 a.f, .int .i64 a.t, .int .i64 a.wn] 27))
  unfold rv at *
  have HS := Lib.hid hS
  have HF0 : Hid (Fr0 w (w.alloc (.cells #[.int .i64 a.k, .string ⟨a.n.toArray⟩, .slice A a.s.length C, .int .i64 a.f, .int .i64 a.t, .int .i64 a.wn] 27))) := Lib.hid ((Fr.refl _ _).alloc _)
  have hR0 := rowIs_new w #[.int .i64 a.k, .string ⟨a.n.toArray⟩, .slice A a.s.length C, .int .i64 a.f, .int .i64 a.t, .int .i64 a.wn] 27 6 (fun i => #[Value.int .i64 a.k, .string ⟨a.n.toArray⟩, .slice A a.s.length C, .int .i64 a.f, .int .i64 a.t, .int .i64 a.wn].getD i undef) rfl (fun i hi => by
    match i, hi with
    | 0, _ => rfl
    | 1, _ => rfl
    | 2, _ => rfl
    | 3, _ => rfl
    | 4, _ => rfl
    | 5, _ => rfl)
  have HC0 : Hid (∀ W, Fr0 (w.alloc (.cells #[.int .i64 a.k, .string ⟨a.n.toArray⟩, .slice A a.s.length C, .int .i64 a.f, .int .i64 a.t, .int .i64 a.wn] 27)) W → W.cell? ⟨w.heap.size, 0, none⟩ = some (.int .i64 a.k) ∧ W.cell? ⟨w.heap.size, 1, none⟩ = some (.string ⟨a.n.toArray⟩) ∧ W.cell? ⟨w.heap.size, 2, none⟩ = some (.slice A a.s.length C) ∧ W.cell? ⟨w.heap.size, 3, none⟩ = some (.int .i64 a.f) ∧ W.cell? ⟨w.heap.size, 4, none⟩ = some (.int .i64 a.t) ∧ W.cell? ⟨w.heap.size, 5, none⟩ = some (.int .i64 a.wn)) := Lib.hid (fun W h => by
    have hr := h.row hR0 (fun f => f)
    exact ⟨hr.cell (i := 0) (by decide), hr.cell (i := 1) (by decide), hr.cell (i := 2) (by decide), hr.cell (i := 3) (by decide), hr.cell (i := 4) (by decide), hr.cell (i := 5) (by decide)⟩)
  obtain ⟨B, hB⟩ : ∃ B, B = good a := ⟨_, rfl⟩
  rw [← hB] at hgd
  have HB := Lib.hid hB
  clear hB hS hR0
  have hh := (show Fr0 (w.alloc (.cells #[.int .i64 a.k, .string ⟨a.n.toArray⟩, .slice A a.s.length C, .int .i64 a.f, .int .i64 a.t, .int .i64 a.wn] 27)) _ from Fr.refl _ _).heap (heap_alloc_new w (.cells #[.int .i64 a.k, .string ⟨a.n.toArray⟩, .slice A a.s.length C, .int .i64 a.f, .int .i64 a.t, .int .i64 a.wn] 27)) (fun f => f)
  go_enter Try.func9, Try.ntmps9
  go_wp2_with (refine wpList_load_row rfl 27 _ rfl w.heap.size rfl 27 _ (0, 0) _ hh Try.underlying27 rfl (by kernel_rfl) ?_)
  refine hgd.mono ?_
  clear hgd hh
  rintro e w1 ⟨rfl, hF1⟩
  have HF1 := Lib.hid hF1
  generalize w.alloc (.cells #[.int .i64 a.k, .string ⟨a.n.toArray⟩, .slice A a.s.length C, .int .i64 a.f, .int .i64 a.t, .int .i64 a.wn] 27) = w0 at *
  clear hF1
  cases B with
  | false =>
    have hg := HB.out.symm
    have HO : Hid (putOut a = []) := Lib.hid (by unfold putOut; rw [if_neg (by rw [hg]; decide)])
    have HE : Hid (putErr a = 1) := Lib.hid (by unfold putErr; rw [if_neg (by rw [hg]; decide)])
    clear hg
    go_wp2
    go_ret2
    exact ⟨_, by rw [HE.out]; rfl, by rw [HO.out]; exact BytesIs.nil _, HF0.out.trans' HF1.out⟩
  | true =>
    have hg := HB.out.symm
    have HO : Hid (putOut a = putB a) := Lib.hid (by unfold putOut; rw [if_pos hg])
    have HERR : Hid (putErr a = 0) := Lib.hid (by unfold putErr; rw [if_pos hg])
    have hnl := good_name hg
    have hkd := good_kind hg
    clear hg
    have hK : a.k = 1 ∨ a.k = 2 := by rcases hkd with h | h; exact .inl h.1; exact .inr h.1
    obtain ⟨K, hKK⟩ : ∃ K : Nat, a.k = (K : Int) ∧ K < 256 ∧ (K = 1 ∨ K = 2) := by
      rcases hK with h | h
      · exact ⟨1, h, by decide, .inl rfl⟩
      · exact ⟨2, h, by decide, .inr rfl⟩
    obtain ⟨hk1, hk2, hk3⟩ := hKK
    have HH : Hid (headB a = [] ++ be 1 K ++ be 2 a.n.length ++ a.n) := Lib.hid (by unfold headB; rw [hk1, be1 K hk2]; simp)
    have HK1 := Lib.hid hk1
    have HKD := Lib.hid hkd
    rw [hk1] at HC0 ⊢
    clear hkd hK hk1
    obtain ⟨d0, d1, _⟩ := HC0.out w1 HF1.out
    have hu := u8_any (.slice none 0 0) [] K hk2 (by simp) w1 (BytesIs.nil w1)
    have kw : (K : Int) % 256 = (K : Int) := by omega
    go_wp2_with fail
    refine hu.mono ?_
    clear hu
    rintro e w2 ⟨v2, rfl, hB2, hF2⟩
    have HB2 := Lib.hid hB2
    have HF2 := Lib.hid (HF1.out.trans' hF2)
    clear hB2 hF2 d0 d1 kw
    obtain ⟨_, d1, _⟩ := HC0.out w2 HF2.out
    have hsz := size_str a.n
    have hcv := Lib.run_convert_string_bytes (P := Try.prog) w2 9 33 5 ⟨a.n.toArray⟩ Try.underlying9 Try.underlying33 Try.underlying5
    have HF3 : Hid (Fr0 w0 (Lib.bytesWorld w2 5 ⟨a.n.toArray⟩)) := Lib.hid (HF2.out.trans' (bytes_conv_fr _ _ _))
    have HBN := Lib.hid (bytes_conv w2 5 a.n)
    have HB3 := Lib.hid (HB2.out.fr0 (bytes_conv_fr w2 5 ⟨a.n.toArray⟩))
    rw [hsz] at hcv
    generalize Lib.bytesWorld w2 5 ⟨a.n.toArray⟩ = w3 at *
    generalize grownCap w2 a.n.length 0 5 = c3 at *
    have hby := bytes_any v2 _ ([] ++ be 1 K) a.n (by rw [List.length_append, be_length]; simp) hn w3 HB3.out HBN.out
    have hok : bytesOk a.n = true := by unfold bytesOk; exact decide_eq_true (by omega)
    have hbw : bytesW ([] ++ be 1 K) a.n = headB a := by unfold bytesW; rw [if_neg (by omega), HH.out]
    rw [hok, hbw] at hby
    clear hok hbw
    go_wp2_with fail
    refine hby.mono ?_
    clear hby hcv d1
    rintro e w4 ⟨v4, rfl, hB4, hF4⟩
    have HB4 := Lib.hid hB4
    have HF4 := Lib.hid (HF3.out.trans' hF4)
    clear hB4 hF4
    obtain ⟨d0, _, d2, d3, d4, d5⟩ := HC0.out w4 HF4.out
    have hhl : (headB a).length ≤ 19 := by rw [HH.out]; simp [be_length]; omega
    rcases hk3 with rfl | rfl
    · obtain ⟨_, h2, h3, h4, h5, h6⟩ := HKD.out.resolve_right (fun h => by have h1 := h.1; have h2 := HK1.out; omega)
      have HPB : Hid (putB a = headB a ++ [UInt8.ofNat a.s.length] ++ sB a.s) := Lib.hid (by unfold putB; rw [if_pos (show a.k = 1 from HK1.out)])
      have hps := putSamples_any v4 (headB a) A C a.s (by omega) h3 w4 HB4.out (HS.out.fr0 (HF0.out.trans' HF4.out))
      go_wp2_with fail
      refine hps.mono ?_
      clear hps
      rintro e w5 ⟨v5, rfl, hB5, hF5⟩
      have HB5 := Lib.hid hB5
      have HF5 := Lib.hid (HF4.out.trans' hF5)
      clear hB5 hF5
      go_wp2
      go_ret2
      exact ⟨_, by rw [HERR.out]; rfl, by rw [HO.out, HPB.out]; exact HB5.out, HF0.out.trans' HF5.out⟩
    · obtain ⟨_, h2, h3, h4⟩ := HKD.out.resolve_left (fun h => by have h1 := h.1; have h2 := HK1.out; omega)
      obtain ⟨N, hN⟩ := Int.eq_ofNat_of_zero_le (show 0 ≤ a.wn by omega)
      have hN31 : N < 256 := by omega
      have HPB : Hid (putB a = headB a ++ be 8 (tw a.f) ++ be 8 (tw a.t) ++ be 1 N) := Lib.hid (by unfold putB; rw [if_neg (show ¬ a.k = 1 by rw [HK1.out]; decide), be1 N hN31, hN]; rfl)
      have hpt := putTwo_any v4 (headB a) a.f a.t (by omega) w4.drew (HB4.out.fr0 (Fr.refl _ _).drew)
      rw [hN] at HC0 d5
      have hll : (headB a ++ be 8 (tw a.f) ++ be 8 (tw a.t)).length ≤ 1000 := by rw [List.length_append, List.length_append, be_length, be_length]; omega
      clear h2 h3 h4 hN
      generalize headB a ++ be 8 (tw a.f) ++ be 8 (tw a.t) = y at *
      go_wp2
      refine Mix.law (fun W => W.cell? ⟨w.heap.size, 3, none⟩ = some (.int .i64 a.f) ∧ W.cell? ⟨w.heap.size, 4, none⟩ = some (.int .i64 a.t) ∧ W.cell? ⟨w.heap.size, 5, none⟩ = some (.int .i64 (N : Int))) [(.sure, 0), (.sure, 1), (.sure, 2), (.sure, 3), (.sure, 4), (.sure, 6), (.sure, 7), (.sure, 8), (.turn, 5), (.turn, 9), (.sure, 10), (.sure, 11)] (by kernel_rfl) (by kernel_rfl) ⟨d3, d4, d5⟩ ?_
      clear d3 d4 d5 d0 d2
      simp only [List.map_cons, List.map_nil, Mix.nth_zero, Mix.nth_succ]
      have HDR := Lib.hid ((Fr.refl (fun _ => False) w4).drew)
      generalize w4.drew = wd at *
      repeat (first
        | (refine Mix.go_skipS (by exact Mix.wanted_no rfl rfl rfl rfl) ?_; go_frame)
        | (refine Mix.go_skipL (by exact Mix.wanted_no rfl rfl rfl rfl) ?_; go_frame)
        | (refine Mix.go_move (by first | exact Mix.wanted_none rfl | exact Mix.wanted_yes rfl rfl rfl) _ rfl _ (by first | (go_simp; done) | (go_simp; rfl)) ?_; go_frame)
        | (refine Mix.go_assign (by first | exact Mix.wanted_none rfl | exact Mix.wanted_yes rfl rfl rfl) _ rfl _ (by first | (go_simp; done) | (go_simp; rfl)) ?_; go_frame)
        | (refine Mix.go_sureW (by first | exact Mix.wanted_none rfl | exact Mix.wanted_yes rfl rfl rfl) _ (by rfl) (by rfl) _ (fun w' ⟨hC1, hC2, hC3⟩ => by go_wp2_with fail; refine Mix.stays ?_; go_frame; rfl) ?_; go_frame)
        | (refine Mix.go_lookW (by first | exact Mix.wanted_none rfl | exact Mix.wanted_yes rfl rfl rfl) _ (by rfl) (by rfl) _ (by go_wp2_with fail; refine Mix.stays ?_; go_frame; rfl) ?_; go_frame))
      refine Mix.go_turn ?_
      go_wp2_with fail
      refine hpt.mono ?_
      clear hpt
      rintro e wa ⟨va, rfl, hBa, hFa⟩
      have HFA := Lib.hid (HF4.out.trans' (HDR.out.trans' hFa))
      have hz := HC0.out wa HFA.out
      have hu := u8_any va y N hN31 (by omega) wa hBa
      clear hBa hFa
      go_wp2
      refine Mix.then_go ⟨hz.2.2.2.1, hz.2.2.2.2.1, hz.2.2.2.2.2⟩ ?_
      clear hz
      repeat (first
        | (refine Mix.go_skipS (by exact Mix.wanted_no rfl rfl rfl rfl) ?_; go_frame)
        | (refine Mix.go_skipL (by exact Mix.wanted_no rfl rfl rfl rfl) ?_; go_frame)
        | (refine Mix.go_move (by first | exact Mix.wanted_none rfl | exact Mix.wanted_yes rfl rfl rfl) _ rfl _ (by first | (go_simp; done) | (go_simp; rfl)) ?_; go_frame)
        | (refine Mix.go_assign (by first | exact Mix.wanted_none rfl | exact Mix.wanted_yes rfl rfl rfl) _ rfl _ (by first | (go_simp; done) | (go_simp; rfl)) ?_; go_frame)
        | (refine Mix.go_sureW (by first | exact Mix.wanted_none rfl | exact Mix.wanted_yes rfl rfl rfl) _ (by rfl) (by rfl) _ (fun w' ⟨hC1, hC2, hC3⟩ => by go_wp2_with fail; refine Mix.stays ?_; go_frame; rfl) ?_; go_frame)
        | (refine Mix.go_lookW (by first | exact Mix.wanted_none rfl | exact Mix.wanted_yes rfl rfl rfl) _ (by rfl) (by rfl) _ (by go_wp2_with fail; refine Mix.stays ?_; go_frame; rfl) ?_; go_frame))
      refine Mix.go_turn ?_
      go_wp2_with fail
      refine hu.mono ?_
      clear hu
      rintro e wb ⟨vb, rfl, hBb, hFb⟩
      have HBB := Lib.hid hBb
      have HFB := Lib.hid (HFA.out.trans' hFb)
      have hz := HC0.out wb HFB.out
      clear hBb hFb
      go_wp2
      refine Mix.then_go ⟨hz.2.2.2.1, hz.2.2.2.2.1, hz.2.2.2.2.2⟩ ?_
      clear hz
      repeat (first
        | (refine Mix.go_skipS (by exact Mix.wanted_no rfl rfl rfl rfl) ?_; go_frame)
        | (refine Mix.go_skipL (by exact Mix.wanted_no rfl rfl rfl rfl) ?_; go_frame)
        | (refine Mix.go_move (by first | exact Mix.wanted_none rfl | exact Mix.wanted_yes rfl rfl rfl) _ rfl _ (by first | (go_simp; done) | (go_simp; rfl)) ?_; go_frame)
        | (refine Mix.go_assign (by first | exact Mix.wanted_none rfl | exact Mix.wanted_yes rfl rfl rfl) _ rfl _ (by first | (go_simp; done) | (go_simp; rfl)) ?_; go_frame)
        | (refine Mix.go_sureW (by first | exact Mix.wanted_none rfl | exact Mix.wanted_yes rfl rfl rfl) _ (by rfl) (by rfl) _ (fun w' ⟨hC1, hC2, hC3⟩ => by go_wp2_with fail; refine Mix.stays ?_; go_frame; rfl) ?_; go_frame)
        | (refine Mix.go_lookW (by first | exact Mix.wanted_none rfl | exact Mix.wanted_yes rfl rfl rfl) _ (by rfl) (by rfl) _ (by go_wp2_with fail; refine Mix.stays ?_; go_frame; rfl) ?_; go_frame))
      refine Mix.go_end ?_
      go_wp2
      go_ret2
      exact ⟨_, by rw [HERR.out]; rfl, by rw [HO.out, HPB.out]; exact HBB.out, HF0.out.trans' HFB.out⟩
end Go.Proofs.Ytmnbihpcgkgebaa.Ask
