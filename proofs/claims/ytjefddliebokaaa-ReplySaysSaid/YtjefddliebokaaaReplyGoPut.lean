/-
  The program's Put.
-/
import Derived.Test.YtjefddliebokaaaReplyGoGood
import Derived.Test.YtjefddliebokaaaPackWrite
import Derived.Test.YtjefddliebokaaaPackBe
import Derived.Test.YtjefddliebokaaaArr
namespace Go.Proofs.Ytjefddliebokaaa.Reply
open Go.RowKit Base Pack

theorem be_one (n : Nat) (h : n < 256) : be 1 n = [UInt8.ofNat n] := by
  have e1 : n % 256 = n := Nat.mod_eq_of_lt h
  simp [be, List.range_succ, e1]
set_option maxRecDepth 100000 in
set_option maxHeartbeats 4000000 in
theorem pput_any (A : Option Addr) (C : Nat) (r : Rp) (hs : r.slot < 4294967296) (hn : r.body.length ≤ 9223372036854775807) (w : World) (hB : BytesIs w (.slice A r.body.length C) r.body) :
    Calls Try.prog 10 #[.agg (rp4 (.slice A r.body.length C) r)] w (PutPost r w) := by
  obtain ⟨w0, hw0⟩ : ∃ w0, w0 = w.alloc (.cells #[.int .i64 r.st, .bool r.hit, .int .u32 (r.slot : Int), .slice A r.body.length C] 27) := ⟨_, rfl⟩
  have hgd := pgood_any A C r hn w0
  have hbx := Bx.new 27 w (.slice A r.body.length C) r
  have hh := hbx.heap
  have HF0 : Hid (Fr0 w w0) := Lib.hid (by rw [hw0]; exact (Fr.refl _ _).alloc _)
  have HBY := Lib.hid hB
  rw [← hw0] at hbx
  have HC0 : Hid (∀ W, Fr0 w0 W → W.cell? ⟨w.heap.size, 0, none⟩ = some (.int .i64 r.st) ∧ W.cell? ⟨w.heap.size, 1, none⟩ = some (.bool r.hit) ∧ W.cell? ⟨w.heap.size, 2, none⟩ = some (.int .u32 (r.slot : Int)) ∧ W.cell? ⟨w.heap.size, 3, none⟩ = some (.slice A r.body.length C)) := Lib.hid (fun W h => (hbx.fr0 h).cells)
  have HW0 := Lib.hid hw0
  have HH := Lib.hid hh
  obtain ⟨b, hb⟩ : ∃ b, b = good r := ⟨_, rfl⟩
  rw [← hb] at hgd
  have HG := Lib.hid hb
  clear hb hw0 hbx hh hB
  unfold rp4 at *
  go_enter Try.func10, Try.ntmps10
  go_wp2_with (refine wpList_load_row rfl 27 _ rfl w.heap.size rfl 27 _ (0, 0) _ HH.out Try.underlying27 rfl (by kernel_rfl) ?_)
  rw [← HW0.out]
  clear HW0 HH
  refine hgd.mono ?_
  clear hgd
  rintro e w1 ⟨rfl, hF1⟩
  have HF1 := Lib.hid hF1
  clear hF1
  cases b with
  | false =>
    have HE := Lib.hid (putOut_no HG.out.symm).1
    have HO := Lib.hid (putOut_no HG.out.symm).2
    go_wp2
    go_ret2
    exact ⟨_, by rw [HE.out]; rfl, by rw [HO.out]; exact BytesIs.nil _, HF0.out.trans' HF1.out⟩
  | true =>
    have HE := Lib.hid (putOut_ok HG.out.symm).1
    have HO := Lib.hid (putOut_ok HG.out.symm).2
    obtain ⟨⟨g1, g2⟩, g3, _⟩ := (good_iff r).1 HG.out.symm
    obtain ⟨N, hN⟩ := Int.eq_ofNat_of_zero_le g1
    have hN8 : N ≤ 8 := by omega
    obtain ⟨T, hT⟩ : ∃ T, T = (hitB r.hit).toNat := ⟨_, rfl⟩
    have hT1 : T ≤ 1 := by rw [hT]; exact (hitB_nat r.hit).1
    have HPB : Hid (putB r = bytesW ([] ++ be 1 N ++ be 1 T ++ be 4 r.slot) r.body ∧ bytesOk r.body = true) := Lib.hid (by
      constructor
      · unfold putB bytesW
        rw [if_neg (by omega), be_one N (by omega), be_one T (by omega), hN, Int.toNat_natCast, hT, UInt8.ofNat_toNat]
        simp
      · unfold bytesOk; exact decide_eq_true (by omega))
    have hhb := fun w => hitb_any r.hit w
    simp only [← hT] at hhb
    have HHB := Lib.hid hhb
    have kw : (N : Int) % 256 = (N : Int) := by omega
    obtain ⟨d0, _, _, _⟩ := HC0.out w1 HF1.out
    rw [hN] at d0 ⊢
    have HST := Lib.hid hN
    clear g1 g2 hN hT hhb
    have hu := u8_any (.slice none 0 0) [] N (by omega) (by simp) w1 (BytesIs.nil w1)
    go_wp2_with fail
    refine hu.mono ?_
    clear hu d0 kw
    rintro e w2 ⟨v2, rfl, hB2, hF2⟩
    have HF2 := Lib.hid (HF1.out.trans' hF2)
    have hu := u8_any v2 ([] ++ be 1 N) T (by omega) (by rw [List.length_append, be_length]; simp) w2 hB2
    have hhb := HHB.out w2
    obtain ⟨_, d1, _, _⟩ := HC0.out w2 HF2.out
    clear hB2 hF2
    go_wp2_with fail
    refine hhb.mono ?_
    clear hhb
    rintro e wq ⟨rfl, rfl⟩
    go_wp2_with fail
    refine hu.mono ?_
    clear hu d1
    rintro e w3 ⟨v3, rfl, hB3, hF3⟩
    have HF3 := Lib.hid (HF2.out.trans' hF3)
    have hu := u32_any v3 ([] ++ be 1 N ++ be 1 T) r.slot hs (by rw [List.length_append, List.length_append, be_length, be_length]; simp) w3 hB3
    obtain ⟨_, _, d2, _⟩ := HC0.out w3 HF3.out
    clear hB3 hF3
    go_wp2_with fail
    refine hu.mono ?_
    clear hu d2
    rintro e w4 ⟨v4, rfl, hB4, hF4⟩
    have HF4 := Lib.hid (HF3.out.trans' hF4)
    have hu := bytes_any v4 _ ([] ++ be 1 N ++ be 1 T ++ be 4 r.slot) r.body (by rw [List.length_append, List.length_append, List.length_append, be_length, be_length, be_length]; simp) hn w4 hB4 (HBY.out.fr0 (HF0.out.trans' HF4.out))
    rw [HPB.out.2, ← HPB.out.1] at hu
    obtain ⟨_, _, _, d3⟩ := HC0.out w4 HF4.out
    clear hB4 hF4
    go_wp2_with fail
    refine hu.mono ?_
    clear hu d3
    rintro e w5 ⟨v5, rfl, hB5, hF5⟩
    have HB5 := Lib.hid hB5
    have HF5 := Lib.hid (HF4.out.trans' hF5)
    obtain ⟨A5, C5, rfl⟩ := hB5.form
    clear hB5 hF5
    go_wp2
    go_ret2
    exact ⟨_, by rw [HE.out]; rfl, by rw [HO.out]; exact HB5.out, HF0.out.trans' HF5.out⟩
end Go.Proofs.Ytjefddliebokaaa.Reply
