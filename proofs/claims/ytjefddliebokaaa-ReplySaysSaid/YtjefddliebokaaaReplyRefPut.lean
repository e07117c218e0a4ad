/-
  The reference's PutReply.
-/
import Derived.Test.YtjefddliebokaaaReplyRefGood
import Derived.Test.YtjefddliebokaaaRefUB
import Derived.Test.YtjefddliebokaaaPackBe
import Derived.Test.YtjefddliebokaaaMix
import Derived.Test.YtjefddliebokaaaOwns
import Derived.Test.YtjefddliebokaaaAppend
import Derived.Lib.Hide
namespace Go.Proofs.Ytjefddliebokaaa.Reply
open Go.RowKit Base Pack RefB

set_option maxRecDepth 100000 in
set_option maxHeartbeats 4000000 in
theorem rputR_any (A : Option Addr) (C : Nat) (r : Rp) (hs : r.slot < 4294967296) (hn : r.body.length ≤ 9223372036854775807) (w : World) (hB : BytesIs w (.slice A r.body.length C) r.body) :
    Calls Try.prog 14 #[.agg (rp4 (.slice A r.body.length C) r)] w (PutPost r w) := by
  obtain ⟨w0, hw0⟩ : ∃ w0, w0 = w.alloc (.cells #[.int .i64 r.st, .bool r.hit, .int .u32 (r.slot : Int), .slice A r.body.length C] 38) := ⟨_, rfl⟩
  have hgd := rgoodR_any A C r hn w0
  have hbx := Bx.new 38 w (.slice A r.body.length C) r
  have hh := hbx.heap
  have HF0 : Hid (Fr0 w w0) := Lib.hid (by rw [hw0]; exact (Fr.refl _ _).alloc _)
  have HBY := Lib.hid hB
  rw [← hw0] at hbx
  have HC0 : Hid (∀ W, Fr0 w0 W → W.cell? ⟨w.heap.size, 0, none⟩ = some (.int .i64 r.st) ∧ W.cell? ⟨w.heap.size, 1, none⟩ = some (.bool r.hit) ∧ W.cell? ⟨w.heap.size, 2, none⟩ = some (.int .u32 (r.slot : Int)) ∧ W.cell? ⟨w.heap.size, 3, none⟩ = some (.slice A r.body.length C)) := Lib.hid (fun W h => (hbx.fr0 h).cells)
  have HW0 := Lib.hid hw0
  have HH := Lib.hid hh
  obtain ⟨b, hb⟩ : ∃ b, b = good r := ⟨_, rfl⟩
  rw [← hb] at hgd
  have HG := Lib.hid hb
  clear hb hw0 hbx hh hB
  unfold rp4 at *
  go_enter Try.func14, Try.ntmps14
  go_wp2_with (refine wpList_load_row rfl 38 _ rfl w.heap.size rfl 38 _ (0, 0) _ HH.out Try.underlying38 rfl (by kernel_rfl) ?_)
  rw [← HW0.out]
  clear HW0 HH
  refine hgd.mono ?_
  clear hgd
  rintro e w1 ⟨rfl, hF1⟩
  have HF1 := Lib.hid hF1
  clear hF1
  cases b with
  | false =>
    have HE := Lib.hid (putOut_no HG.out.symm).1
    have HO := Lib.hid (putOut_no HG.out.symm).2
    go_wp2
    go_ret2
    exact ⟨_, by rw [HE.out]; rfl, by rw [HO.out]; exact BytesIs.nil _, HF0.out.trans' HF1.out⟩
  | true =>
    have HE := Lib.hid (putOut_ok HG.out.symm).1
    have HO := Lib.hid (putOut_ok HG.out.symm).2
    obtain ⟨⟨g1, g2⟩, g3, _⟩ := (good_iff r).1 HG.out.symm
    obtain ⟨N, hN⟩ := Int.eq_ofNat_of_zero_le g1
    have hN8 : N ≤ 8 := by omega
    have HST := Lib.hid hN
    have kw : (N : Int) % 256 = (N : Int) := by omega
    have sw : (r.slot : Int) % 18446744073709551616 = (r.slot : Int) := by omega
    have lw : (r.body.length : Int) % 18446744073709551616 = (r.body.length : Int) := by omega
    obtain ⟨d0, d1, _, _⟩ := HC0.out w1 HF1.out
    rw [hN] at d0 ⊢
    clear g1 g2 hN
    have hnt : (UInt8.ofNat N).toNat = N := UInt8.toNat_ofNat_of_lt' (by show N < 256; omega)
    cases hh : r.hit with
    | false =>
      have HHIT := Lib.hid hh
      rw [hh] at d1
      obtain ⟨W2, hW2⟩ : ∃ W', W' = w1.alloc (.cells #[.int .u8 (N : Int), .int .u8 0] 5) := ⟨_, rfl⟩
      have HLIT : Hid (BytesIs W2 (.slice (some ⟨w1.heap.size, 0, none⟩) 2 2) [UInt8.ofNat N, 0]) := Lib.hid (by
        rw [hW2]
        exact BytesIs.new w1 _ _ _ 2 rfl 2 (Nat.le_refl _) (fun j hj => by
          match j, hj with
          | 0, _ =>
            show some (Value.int .u8 (N : Int)) = some (.int .u8 ((UInt8.ofNat N).toNat : Int))
            rw [hnt]
          | 1, _ => rfl) _ rfl)
      have HF12 : Hid (Fr0 w1 W2) := Lib.hid (by rw [hW2]; exact (Fr.refl _ _).alloc _)
      have e1 := (HC0.out W2 (HF1.out.trans' HF12.out)).2.1
      rw [hh, hW2] at e1
      clear hh
      go_wp2
      rw [← hW2]
      clear hW2 e1 d0 d1 kw hnt
      have hW2 : Fr0 w1 W2 := HF12.out
      have HC2 := HC0.out W2 (HF1.out.trans' hW2)
      have hu1 := u_any (.slice (some ⟨w1.heap.size, 0, none⟩) 2 2) [UInt8.ofNat N, 0] r.slot 4 (by omega) (by decide) (by simp) W2.drew (HLIT.out.fr0 (Fr.refl _ _).drew)
      rw [beb_be] at hu1
      clear hW2
      refine Mix.law (fun W => W.cell? ⟨w.heap.size, 2, none⟩ = some (.int .u32 (r.slot : Int)) ∧ W.cell? ⟨w.heap.size, 3, none⟩ = some (.slice A r.body.length C)) [(.sure, 0), (.sure, 1), (.sure, 2), (.sure, 3), (.sure, 5), (.sure, 6), (.sure, 7), (.sure, 8), (.turn, 4), (.turn, 9), (.sure, 10)] (by kernel_rfl) (by kernel_rfl) ⟨HC2.2.2.1, HC2.2.2.2⟩ ?_
      simp only [List.map_cons, List.map_nil, Mix.nth_zero, Mix.nth_succ]
      have HDR := Lib.hid ((Fr.refl (fun _ => False) W2).drew)
      generalize W2.drew = wd at *
      clear HC2
      repeat (first
        | (refine Mix.go_skipS (by first | exact Mix.wanted_no rfl rfl rfl rfl | exact Mix.wanted_void rfl rfl rfl) ?_; go_frame)
        | (refine Mix.go_skipL (by first | exact Mix.wanted_no rfl rfl rfl rfl | exact Mix.wanted_void rfl rfl rfl) ?_; go_frame)
        | (refine Mix.go_move (by first | exact Mix.wanted_none rfl | exact Mix.wanted_yes rfl rfl rfl) _ rfl _ (by first | (go_simp; done) | (go_simp; rfl)) ?_; go_frame)
        | (refine Mix.go_assign (by first | exact Mix.wanted_none rfl | exact Mix.wanted_yes rfl rfl rfl) _ rfl _ (by first | (go_simp; done) | (go_simp; rfl)) ?_; go_frame)
        | (refine Mix.go_sureW (by first | exact Mix.wanted_none rfl | exact Mix.wanted_yes rfl rfl rfl) _ (by rfl) (by rfl) _ (fun w' ⟨hC1, hC2⟩ => by go_wp2_with fail; refine Mix.stays ?_; go_frame; rfl) ?_; go_frame)
        | (refine Mix.go_lookW (by first | exact Mix.wanted_none rfl | exact Mix.wanted_yes rfl rfl rfl) _ (by rfl) (by rfl) _ (by go_wp2_with fail; refine Mix.stays ?_; go_frame; rfl) ?_; go_frame))
      refine Mix.go_turn ?_
      go_wp2_with fail
      refine hu1.mono ?_
      clear hu1
      rintro e w3 ⟨v3, rfl, hO3, hF3⟩
      have HF3 := Lib.hid (((HF1.out.trans' HF12.out).trans' HDR.out).trans' hF3)
      have hz := HC0.out w3 HF3.out
      have hu2 := u_any v3 _ r.body.length 2 (by omega) (by decide) (by simp [be_length]) w3 (BytesIs.own hO3)
      rw [beb_be] at hu2
      clear hO3 hF3
      go_wp2
      refine Mix.then_go ⟨hz.2.2.1, hz.2.2.2⟩ ?_
      clear hz
      repeat (first
        | (refine Mix.go_skipS (by first | exact Mix.wanted_no rfl rfl rfl rfl | exact Mix.wanted_void rfl rfl rfl) ?_; go_frame)
        | (refine Mix.go_skipL (by first | exact Mix.wanted_no rfl rfl rfl rfl | exact Mix.wanted_void rfl rfl rfl) ?_; go_frame)
        | (refine Mix.go_move (by first | exact Mix.wanted_none rfl | exact Mix.wanted_yes rfl rfl rfl) _ rfl _ (by first | (go_simp; done) | (go_simp; rfl)) ?_; go_frame)
        | (refine Mix.go_assign (by first | exact Mix.wanted_none rfl | exact Mix.wanted_yes rfl rfl rfl) _ rfl _ (by first | (go_simp; done) | (go_simp; rfl)) ?_; go_frame)
        | (refine Mix.go_sureW (by first | exact Mix.wanted_none rfl | exact Mix.wanted_yes rfl rfl rfl) _ (by rfl) (by rfl) _ (fun w' ⟨hC1, hC2⟩ => by go_wp2_with fail; refine Mix.stays ?_; go_frame; rfl) ?_; go_frame)
        | (refine Mix.go_lookW (by first | exact Mix.wanted_none rfl | exact Mix.wanted_yes rfl rfl rfl) _ (by rfl) (by rfl) _ (by go_wp2_with fail; refine Mix.stays ?_; go_frame; rfl) ?_; go_frame))
      refine Mix.go_turn ?_
      go_wp2_with fail
      refine hu2.mono ?_
      clear hu2
      rintro e w4 ⟨v4, rfl, hO4, hF4⟩
      have HF4 := Lib.hid (HF3.out.trans' hF4)
      have hz := HC0.out w4 HF4.out
      have hl8 : ([UInt8.ofNat N, 0] ++ be 4 r.slot ++ be 2 r.body.length).length = 8 := by simp [be_length]
      rw [hl8] at hO4
      have HO4 := Lib.hid (ownsBase hO4 (show w0.heap.size ≤ _ from HF3.out.size))
      have HPB : Hid (putB r = [UInt8.ofNat N, 0] ++ be 4 r.slot ++ be 2 r.body.length ++ r.body) := Lib.hid (by
        unfold putB hitB
        rw [HST.out, HHIT.out, Int.toNat_natCast]
        simp)
      clear hO4 hF4 hl8
      go_wp2
      refine Mix.then_go ⟨hz.2.2.1, hz.2.2.2⟩ ?_
      repeat (first
        | (refine Mix.go_skipS (by first | exact Mix.wanted_no rfl rfl rfl rfl | exact Mix.wanted_void rfl rfl rfl) ?_; go_frame)
        | (refine Mix.go_skipL (by first | exact Mix.wanted_no rfl rfl rfl rfl | exact Mix.wanted_void rfl rfl rfl) ?_; go_frame)
        | (refine Mix.go_move (by first | exact Mix.wanted_none rfl | exact Mix.wanted_yes rfl rfl rfl) _ rfl _ (by first | (go_simp; done) | (go_simp; rfl)) ?_; go_frame)
        | (refine Mix.go_assign (by first | exact Mix.wanted_none rfl | exact Mix.wanted_yes rfl rfl rfl) _ rfl _ (by first | (go_simp; done) | (go_simp; rfl)) ?_; go_frame)
        | (refine Mix.go_sureW (by first | exact Mix.wanted_none rfl | exact Mix.wanted_yes rfl rfl rfl) _ (by rfl) (by rfl) _ (fun w' ⟨hC1, hC2⟩ => by go_wp2_with fail; refine Mix.stays ?_; go_frame; rfl) ?_; go_frame)
        | (refine Mix.go_lookW (by first | exact Mix.wanted_none rfl | exact Mix.wanted_yes rfl rfl rfl) _ (by rfl) (by rfl) _ (by go_wp2_with fail; refine Mix.stays ?_; go_frame; rfl) ?_; go_frame))
      refine Mix.go_end ?_
      have c3 := hz.2.2.2
      clear hz
      go_wp2_with (refine wpList_append_bytes rfl (.tmp 26) (.tmp 28) 25 rfl w0.heap.size 5 Try.underlying25 Pack.info8 _ _ 8 ([UInt8.ofNat N, 0] ++ be 4 r.slot ++ be 2 r.body.length) r.body rfl rfl HO4.out (HBY.out.fr0 (HF0.out.trans' HF4.out)) (by omega) HF4.out.size ?_)
      intro v5 w5 hO5 hG5
      have HF5 : Hid (Fr0 w0 w5) := Lib.hid (HF4.out.grown hG5 (fun k hk e => by have := (HO4.out.lt k e).1; omega))
      have HB5 : Hid (BytesIs w5 v5 (putB r)) := Lib.hid (by rw [HPB.out]; exact BytesIs.own hO5)
      clear hO5 hG5 c3
      obtain ⟨A5, C5, hv5⟩ := HB5.out.form
      subst hv5
      go_wp2
      go_ret2
      exact ⟨_, by rw [HE.out]; rfl, by rw [HO.out]; exact HB5.out, HF0.out.trans' HF5.out⟩
    | true =>
      have HHIT := Lib.hid hh
      rw [hh] at d1
      obtain ⟨W2, hW2⟩ : ∃ W', W' = w1.alloc (.cells #[.int .u8 (N : Int), .int .u8 1] 5) := ⟨_, rfl⟩
      have HLIT : Hid (BytesIs W2 (.slice (some ⟨w1.heap.size, 0, none⟩) 2 2) [UInt8.ofNat N, 1]) := Lib.hid (by
        rw [hW2]
        exact BytesIs.new w1 _ _ _ 2 rfl 2 (Nat.le_refl _) (fun j hj => by
          match j, hj with
          | 0, _ =>
            show some (Value.int .u8 (N : Int)) = some (.int .u8 ((UInt8.ofNat N).toNat : Int))
            rw [hnt]
          | 1, _ => rfl) _ rfl)
      have HF12 : Hid (Fr0 w1 W2) := Lib.hid (by rw [hW2]; exact (Fr.refl _ _).alloc _)
      have e1 := (HC0.out (w1.alloc (.cells #[.int .u8 (N : Int), .int .u8 0] 5)) (HF1.out.trans' ((Fr.refl _ _).alloc _))).2.1
      rw [hh] at e1
      clear hh
      go_wp2
      rw [← hW2]
      clear hW2 e1 d0 d1 kw hnt
      have hW2 : Fr0 w1 W2 := HF12.out
      have HC2 := HC0.out W2 (HF1.out.trans' hW2)
      have hu1 := u_any (.slice (some ⟨w1.heap.size, 0, none⟩) 2 2) [UInt8.ofNat N, 1] r.slot 4 (by omega) (by decide) (by simp) W2.drew (HLIT.out.fr0 (Fr.refl _ _).drew)
      rw [beb_be] at hu1
      clear hW2
      refine Mix.law (fun W => W.cell? ⟨w.heap.size, 2, none⟩ = some (.int .u32 (r.slot : Int)) ∧ W.cell? ⟨w.heap.size, 3, none⟩ = some (.slice A r.body.length C)) [(.sure, 0), (.sure, 1), (.sure, 2), (.sure, 3), (.sure, 5), (.sure, 6), (.sure, 7), (.sure, 8), (.turn, 4), (.turn, 9), (.sure, 10)] (by kernel_rfl) (by kernel_rfl) ⟨HC2.2.2.1, HC2.2.2.2⟩ ?_
      simp only [List.map_cons, List.map_nil, Mix.nth_zero, Mix.nth_succ]
      have HDR := Lib.hid ((Fr.refl (fun _ => False) W2).drew)
      generalize W2.drew = wd at *
      clear HC2
      repeat (first
        | (refine Mix.go_skipS (by first | exact Mix.wanted_no rfl rfl rfl rfl | exact Mix.wanted_void rfl rfl rfl) ?_; go_frame)
        | (refine Mix.go_skipL (by first | exact Mix.wanted_no rfl rfl rfl rfl | exact Mix.wanted_void rfl rfl rfl) ?_; go_frame)
        | (refine Mix.go_move (by first | exact Mix.wanted_none rfl | exact Mix.wanted_yes rfl rfl rfl) _ rfl _ (by first | (go_simp; done) | (go_simp; rfl)) ?_; go_frame)
        | (refine Mix.go_assign (by first | exact Mix.wanted_none rfl | exact Mix.wanted_yes rfl rfl rfl) _ rfl _ (by first | (go_simp; done) | (go_simp; rfl)) ?_; go_frame)
        | (refine Mix.go_sureW (by first | exact Mix.wanted_none rfl | exact Mix.wanted_yes rfl rfl rfl) _ (by rfl) (by rfl) _ (fun w' ⟨hC1, hC2⟩ => by go_wp2_with fail; refine Mix.stays ?_; go_frame; rfl) ?_; go_frame)
        | (refine Mix.go_lookW (by first | exact Mix.wanted_none rfl | exact Mix.wanted_yes rfl rfl rfl) _ (by rfl) (by rfl) _ (by go_wp2_with fail; refine Mix.stays ?_; go_frame; rfl) ?_; go_frame))
      refine Mix.go_turn ?_
      go_wp2_with fail
      refine hu1.mono ?_
      clear hu1
      rintro e w3 ⟨v3, rfl, hO3, hF3⟩
      have HF3 := Lib.hid (((HF1.out.trans' HF12.out).trans' HDR.out).trans' hF3)
      have hz := HC0.out w3 HF3.out
      have hu2 := u_any v3 _ r.body.length 2 (by omega) (by decide) (by simp [be_length]) w3 (BytesIs.own hO3)
      rw [beb_be] at hu2
      clear hO3 hF3
      go_wp2
      refine Mix.then_go ⟨hz.2.2.1, hz.2.2.2⟩ ?_
      clear hz
      repeat (first
        | (refine Mix.go_skipS (by first | exact Mix.wanted_no rfl rfl rfl rfl | exact Mix.wanted_void rfl rfl rfl) ?_; go_frame)
        | (refine Mix.go_skipL (by first | exact Mix.wanted_no rfl rfl rfl rfl | exact Mix.wanted_void rfl rfl rfl) ?_; go_frame)
        | (refine Mix.go_move (by first | exact Mix.wanted_none rfl | exact Mix.wanted_yes rfl rfl rfl) _ rfl _ (by first | (go_simp; done) | (go_simp; rfl)) ?_; go_frame)
        | (refine Mix.go_assign (by first | exact Mix.wanted_none rfl | exact Mix.wanted_yes rfl rfl rfl) _ rfl _ (by first | (go_simp; done) | (go_simp; rfl)) ?_; go_frame)
        | (refine Mix.go_sureW (by first | exact Mix.wanted_none rfl | exact Mix.wanted_yes rfl rfl rfl) _ (by rfl) (by rfl) _ (fun w' ⟨hC1, hC2⟩ => by go_wp2_with fail; refine Mix.stays ?_; go_frame; rfl) ?_; go_frame)
        | (refine Mix.go_lookW (by first | exact Mix.wanted_none rfl | exact Mix.wanted_yes rfl rfl rfl) _ (by rfl) (by rfl) _ (by go_wp2_with fail; refine Mix.stays ?_; go_frame; rfl) ?_; go_frame))
      refine Mix.go_turn ?_
      go_wp2_with fail
      refine hu2.mono ?_
      clear hu2
      rintro e w4 ⟨v4, rfl, hO4, hF4⟩
      have HF4 := Lib.hid (HF3.out.trans' hF4)
      have hz := HC0.out w4 HF4.out
      have hl8 : ([UInt8.ofNat N, 1] ++ be 4 r.slot ++ be 2 r.body.length).length = 8 := by simp [be_length]
      rw [hl8] at hO4
      have HO4 := Lib.hid (ownsBase hO4 (show w0.heap.size ≤ _ from HF3.out.size))
      have HPB : Hid (putB r = [UInt8.ofNat N, 1] ++ be 4 r.slot ++ be 2 r.body.length ++ r.body) := Lib.hid (by
        unfold putB hitB
        rw [HST.out, HHIT.out, Int.toNat_natCast]
        simp)
      clear hO4 hF4 hl8
      go_wp2
      refine Mix.then_go ⟨hz.2.2.1, hz.2.2.2⟩ ?_
      repeat (first
        | (refine Mix.go_skipS (by first | exact Mix.wanted_no rfl rfl rfl rfl | exact Mix.wanted_void rfl rfl rfl) ?_; go_frame)
        | (refine Mix.go_skipL (by first | exact Mix.wanted_no rfl rfl rfl rfl | exact Mix.wanted_void rfl rfl rfl) ?_; go_frame)
        | (refine Mix.go_move (by first | exact Mix.wanted_none rfl | exact Mix.wanted_yes rfl rfl rfl) _ rfl _ (by first | (go_simp; done) | (go_simp; rfl)) ?_; go_frame)
        | (refine Mix.go_assign (by first | exact Mix.wanted_none rfl | exact Mix.wanted_yes rfl rfl rfl) _ rfl _ (by first | (go_simp; done) | (go_simp; rfl)) ?_; go_frame)
        | (refine Mix.go_sureW (by first | exact Mix.wanted_none rfl | exact Mix.wanted_yes rfl rfl rfl) _ (by rfl) (by rfl) _ (fun w' ⟨hC1, hC2⟩ => by go_wp2_with fail; refine Mix.stays ?_; go_frame; rfl) ?_; go_frame)
        | (refine Mix.go_lookW (by first | exact Mix.wanted_none rfl | exact Mix.wanted_yes rfl rfl rfl) _ (by rfl) (by rfl) _ (by go_wp2_with fail; refine Mix.stays ?_; go_frame; rfl) ?_; go_frame))
      refine Mix.go_end ?_
      have c3 := hz.2.2.2
      clear hz
      go_wp2_with (refine wpList_append_bytes rfl (.tmp 26) (.tmp 28) 25 rfl w0.heap.size 5 Try.underlying25 Pack.info8 _ _ 8 ([UInt8.ofNat N, 1] ++ be 4 r.slot ++ be 2 r.body.length) r.body rfl rfl HO4.out (HBY.out.fr0 (HF0.out.trans' HF4.out)) (by omega) HF4.out.size ?_)
      intro v5 w5 hO5 hG5
      have HF5 : Hid (Fr0 w0 w5) := Lib.hid (HF4.out.grown hG5 (fun k hk e => by have := (HO4.out.lt k e).1; omega))
      have HB5 : Hid (BytesIs w5 v5 (putB r)) := Lib.hid (by rw [HPB.out]; exact BytesIs.own hO5)
      clear hO5 hG5 c3
      obtain ⟨A5, C5, hv5⟩ := HB5.out.form
      subst hv5
      go_wp2
      go_ret2
      exact ⟨_, by rw [HE.out]; rfl, by rw [HO.out]; exact HB5.out, HF0.out.trans' HF5.out⟩
end Go.Proofs.Ytjefddliebokaaa.Reply
