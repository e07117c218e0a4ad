/-
  The program's appendEight, Put.
-/
import Derived.Test.YtbiokogihimboaaDoorAggGo
import Derived.Test.YtbiokogihimboaaDoorAggRefP
namespace Go.Proofs.YtbiokogihimboaaDoor.Agg
open Go.RowKit Base _root_.Go.Proofs.YtbiokogihimboaaDoor.Tenant _root_.Go.Proofs.YtbiokogihimboaaDoor.Series _root_.Go.Proofs.YtbiokogihimboaaDoor.Pack
open _root_.Go.Proofs.YtbiokogihimboaaDoor.Ask (tw tw_lt)

theorem byte_of (x : Int) (j s : Nat) (hj : j < 8) (hs : s = 8 * (8 - 1 - j)) : x / 2 ^ s % 256 = ((UInt8.ofNat (tw x / 2 ^ (8 * (8 - 1 - j)) % 256)).toNat : Int) := by
  subst hs
  rw [UInt8.toNat_ofNat']
  unfold tw
  match j, hj with
  | 0, _ => simp only [Nat.reduceSub, Nat.reduceMul, Nat.reducePow, Int.reducePow]; omega
  | 1, _ => simp only [Nat.reduceSub, Nat.reduceMul, Nat.reducePow, Int.reducePow]; omega
  | 2, _ => simp only [Nat.reduceSub, Nat.reduceMul, Nat.reducePow, Int.reducePow]; omega
  | 3, _ => simp only [Nat.reduceSub, Nat.reduceMul, Nat.reducePow, Int.reducePow]; omega
  | 4, _ => simp only [Nat.reduceSub, Nat.reduceMul, Nat.reducePow, Int.reducePow]; omega
  | 5, _ => simp only [Nat.reduceSub, Nat.reduceMul, Nat.reducePow, Int.reducePow]; omega
  | 6, _ => simp only [Nat.reduceSub, Nat.reduceMul, Nat.reducePow, Int.reducePow]; omega
  | 7, _ => simp only [Nat.reduceSub, Nat.reduceMul, Nat.reducePow, Int.reducePow]; omega
set_option maxRecDepth 100000 in
set_option maxHeartbeats 4000000 in
theorem put8_any (v : Value) (l : List UInt8) (x : Int) (hl : l.length ≤ 1099511627776) (w0 w : World) (hO : w.ownsRow w0.heap.size 5 1 v l.length (bvals l)) (hF : Fr0 w0 w) :
    Calls Tryd.prog 23 #[v, .int .i64 x] w fun e w' => ∃ v', e = .returned v' ∧ w'.ownsRow w0.heap.size 5 1 v' (l.length + 8) (bvals (l ++ be 8 (tw x))) ∧ Fr0 w0 w' := by
  have HO := Lib.hid hO
  have HF := Lib.hid hF
  have HB := Lib.hid (byte_of x)
  have HT : Hid ((be 8 (tw x)).take 0 = [] ∧ (be 8 (tw x)).take 8 = be 8 (tw x)) := Lib.hid ⟨rfl, List.take_of_length_le (by rw [be_length]; exact Nat.le_refl _)⟩
  have HN := Lib.hid (be_next 8 (tw x))
  clear hO hF
  generalize tw x = U at *
  go_enter Tryd.func23, Tryd.ntmps23
  go_wp2_with fail
  go_loopg [0, 5] 8 (fun kx vb vs wr => ∃ (j : Nat) (z : Int), vs = .int .i64 z ∧ z = 56 - 8 * (j : Int) ∧ j ≤ 8 ∧ 8 - j ≤ kx ∧ Hid (wr.ownsRow w0.heap.size 5 1 vb (l.length + j) (bvals (l ++ (be 8 U).take j))) ∧ Hid (Fr0 w0 wr))
  case atStart => exact ⟨0, 56, rfl, rfl, by omega, by omega, Lib.hid (by rw [HT.out.1, List.append_nil]; exact HO.out), HF⟩
  case round =>
    clear HO HF
    obtain ⟨j, z, rfl, hz, hj, hk, HO, HF⟩ := hrel
    by_cases hlt : j < 8
    · obtain ⟨s, rfl⟩ := Int.eq_ofNat_of_zero_le (show 0 ≤ z by omega)
      have hs : s = 8 * (8 - 1 - j) := by omega
      have HBJ := Lib.hid (HB.out j s hlt hs)
      have hs0 : 0 ≤ (s : Int) := Int.natCast_nonneg s
      have HNJ := Lib.hid (HN.out j hlt)
      have HZ2 : Hid ((s : Int) - 8 = 56 - 8 * ((j + 1 : Nat) : Int)) := Lib.hid (by omega)
      have hw : wrap64 ((s : Int) - 8) = (s : Int) - 8 := by simp only [wrap64]; omega
      have HSZ := Lib.hid HF.out.size
      have HS64 : Hid (s ≤ 64) := Lib.hid (by omega)
      clear hs hz
      go_wp2_with (refine wpList_append_bytes rfl (.tmp 10) (.tmp 15) 28 rfl w0.heap.size 5 Tryd.underlying28 info8 _ _ (l.length + j) (l ++ (be 8 U).take j) [UInt8.ofNat (U / 2 ^ (8 * (8 - 1 - j)) % 256)] rfl rfl (HO.out.alloc _) (BytesIs.one wr _ _ (by rw [← HBJ.out, Nat.min_eq_left HS64.out]) _ _ rfl) (by simp; omega) (HF.out.alloc _).size ?_; intro v2 w2 hO2 hG2)
      have HO2 : Hid (w2.ownsRow w0.heap.size 5 1 v2 (l.length + (j + 1)) (bvals (l ++ (be 8 U).take (j + 1)))) := Lib.hid (by rw [HNJ.out, ← List.append_assoc]; exact hO2)
      have HF2 : Hid (Fr0 w0 w2) := Lib.hid ((HF.out.alloc _).grown hG2 (fun q hq e => by have := HO.out.lt q e; omega))
      clear hO2 hG2
      go_wp2
      go_roundg (8 - (j + 1))
      case measure => omega
      case rel => exact ⟨j + 1, (s : Int) - 8, by rw [hw], HZ2.out, by omega, by omega, HO2, HF2⟩
    · obtain rfl : j = 8 := by omega
      obtain rfl : z = -8 := by omega
      have HE : Hid (wr.ownsRow w0.heap.size 5 1 u0 (l.length + 8) (bvals (l ++ be 8 U))) := Lib.hid (by have h := HO.out; rwa [HT.out.2] at h)
      go_wp2
      go_ret
      exact ⟨_, rfl, HE.out, HF.out⟩
theorem and_two (n : Nat) (h : n < 32) : (bits BinOp.and IntKind.i64 (n : Int) 2 != 0) = bit (n : Int) 1 := by
  have : ∀ n : Fin 32, (bits BinOp.and IntKind.i64 (n.val : Int) 2 != 0) = bit (n.val : Int) 1 := by decide +kernel
  exact this ⟨n, h⟩
theorem and_one (n : Nat) (h : n < 32) : bits BinOp.and IntKind.i64 (n : Int) 1 = (n : Int) % 2 := by
  have : ∀ n : Fin 32, bits BinOp.and IntKind.i64 (n.val : Int) 1 = (n.val : Int) % 2 := by decide +kernel
  exact this ⟨n, h⟩
theorem shr_lt (n i : Nat) (h : n < 32) : ∃ m : Nat, m < 32 ∧ (n : Int) / 2 ^ i = (m : Int) := ⟨n / 2 ^ i, Nat.lt_of_le_of_lt (Nat.div_le_self _ _) h, by rw [Int.natCast_ediv]; simp⟩
theorem idx5 (x0 x1 x2 x3 x4 : Int) (i : Nat) (hi : i < 5) (w : World) : (Instr.index 53 (.agg #[.int .i64 x0, .int .i64 x1, .int .i64 x2, .int .i64 x3, .int .i64 x4]) (.int .i64 (i : Int))).run Tryd.prog w = .ok (.int .i64 ([x0, x1, x2, x3, x4].getD i 0)) w := by
  match i, hi with
  | 0, _ => rfl
  | 1, _ => rfl
  | 2, _ => rfl
  | 3, _ => rfl
  | 4, _ => rfl
set_option maxRecDepth 100000 in
set_option maxHeartbeats 4000000 in
theorem pput_any (a : Ag) (ha : SizedA a) (want : Int) (hw : Fit want) (w : World) :
    Calls Tryd.prog 12 #[.agg (a6 a), .int .i64 want] w (PutPost a want w) := by
  have HB := Lib.hid (Bx.new 24 w a)
  have HF : Hid (Fr0 w (w.alloc (.cells #[.int .i64 a.c, .int .i64 a.s, .int .i64 a.n, .int .i64 a.x, .int .i64 a.l, .bool a.o] 24))) := Lib.hid ((Fr.refl _ _).alloc _)
  have HARG : Hid (inn want 1 31 = false → putErr a want = 1 ∧ putOut a want = []) := Lib.hid put_arg
  have HOV : Hid (inn want 1 31 = true → bit want 1 = true → a.o = true → putErr a want = 9 ∧ putOut a want = []) := Lib.hid put_over
  have HYES : Hid (inn want 1 31 = true → (bit want 1 && a.o) = false → putErr a want = 0 ∧ putOut a want = putN a want 5) := Lib.hid put_yes
  have HIFF : Hid (inn want 1 31 = true ↔ 1 ≤ want ∧ want ≤ 31) := Lib.hid (inn_iff _ _ _)
  have HNONE : Hid (∀ w', putOut a want = [] → Fr0 w w' → PutPost a want w (.returned (.tuple #[.slice none 0 0, .int .i64 (putErr a want)])) w') := Lib.hid (fun w' h hf => PutPost.nil h hf)
  have HEND : Hid (∀ A C w', BytesIs w' (.slice A (putOut a want).length C) (putOut a want) → Fr0 w w' → PutPost a want w (.returned (.tuple #[.slice A (putOut a want).length C, .int .i64 (putErr a want)])) w') := Lib.hid (fun A C w' h hf => ⟨A, C, rfl, h, hf⟩)
  have HPN := Lib.hid (putN_next a want)
  have HPL := Lib.hid (putN_length a want)
  generalize hP : PutPost a want w = post at *
  generalize putErr a want = er at *
  generalize putOut a want = out at *
  rw [show a6 a = #[.int .i64 a.c, .int .i64 a.s, .int .i64 a.n, .int .i64 a.x, .int .i64 a.l, .bool a.o] from rfl]
  generalize hW2 : w.alloc (.cells #[.int .i64 a.c, .int .i64 a.s, .int .i64 a.n, .int .i64 a.x, .int .i64 a.l, .bool a.o] 24) = W2 at *
  have HW2 := Lib.hid hW2
  clear hW2 hP ha
  obtain ⟨k0, k1, k2, k3, k4, k5⟩ := HB.out.cells
  by_cases hw1 : want < 1
  · obtain ⟨rfl, ho⟩ := HARG.out (by rw [Bool.eq_false_iff, Ne, HIFF.out]; omega)
    have HE := Lib.hid (fun w' => HNONE.out w' ho)
    clear ho
    go_enter Tryd.func12, Tryd.ntmps12
    go_wp2_with fail
    rw [HW2.out]
    exact HE.out _ HF.out
  by_cases hw2 : 31 < want
  · obtain ⟨rfl, ho⟩ := HARG.out (by rw [Bool.eq_false_iff, Ne, HIFF.out]; omega)
    have HE := Lib.hid (fun w' => HNONE.out w' ho)
    clear ho
    go_enter Tryd.func12, Tryd.ntmps12
    go_wp2_with fail
    rw [HW2.out]
    exact HE.out _ HF.out
  have hin := HIFF.out.2 ⟨by omega, by omega⟩
  obtain ⟨n, rfl⟩ := Int.eq_ofNat_of_zero_le (show 0 ≤ want by omega)
  have hn : n < 32 := by omega
  have h2 := and_two n hn
  have HIN := Lib.hid hin
  have HN32 := Lib.hid hn
  clear hw HIFF HARG hin
  generalize hoo : a.o = oo at *
  clear hoo
  by_cases hov : (bit (n : Int) 1 && oo) = true
  · obtain ⟨hb, hao⟩ : bit (n : Int) 1 = true ∧ oo = true := by simpa using hov
    subst hao
    obtain ⟨rfl, ho⟩ := HOV.out HIN.out hb rfl
    rw [hb] at h2
    have HE := Lib.hid (fun w' => HNONE.out w' ho)
    clear ho hb hov HNONE HEND HYES HOV
    go_enter Tryd.func12, Tryd.ntmps12
    go_wp2_with fail
    rw [HW2.out]
    exact HE.out _ HF.out
  have hov' : (bit (n : Int) 1 && oo) = false := by simpa using hov
  obtain ⟨rfl, ho⟩ := HYES.out HIN.out hov'
  have HOUT := Lib.hid ho
  have HC2 : Hid (oo = false ∨ oo = true ∧ (bits BinOp.and IntKind.i64 (n : Int) 2 != 0) = false) := Lib.hid (by
    cases oo with
    | false => exact .inl rfl
    | true => exact .inr ⟨rfl, by rw [h2]; simpa using hov'⟩)
  have HSH := Lib.hid (fun i => shr_lt n i HN32.out)
  have HBIT : Hid (∀ i m, (n : Int) / 2 ^ i = (m : Int) → bit (n : Int) i = ((m : Int) % 2 == 1)) := Lib.hid (fun i m h => by unfold bit; rw [h]; rfl)
  have HAND := Lib.hid and_one
  clear ho hov hov' h2 HNONE HYES HOV
  have HPOST : Hid (∀ (A : Option Addr) (C : Nat) (w' : World), w'.ownsRow W2.heap.size 5 1 (.slice A (putN a (n : Int) 5).length C) (putN a (n : Int) 5).length (bvals (putN a (n : Int) 5)) → Fr0 W2 w' → post (.returned (.tuple #[.slice A (putN a (n : Int) 5).length C, .int .i64 0])) w') := Lib.hid (fun A C w' h1 h2 => by
    have h3 := HEND.out A C w'
    rw [HOUT.out] at h3
    exact h3 (BytesIs.own h1) (HF.out.trans' h2))
  have HP0 : Hid (putN a (n : Int) 0 = []) := Lib.hid rfl
  have HP8 := Lib.hid (fun v l x hl w => put8_any v l x hl W2 w)
  clear HEND HOUT
  rcases HC2.out with rfl | ⟨rfl, hc2⟩
  · go_enter Tryd.func12, Tryd.ntmps12
    go_wp2_with fail
    rw [HW2.out]
    clear HW2 k0 k1 k2 k3 k4 k5
    go_loopg [6, 33] 5 (fun kx vb vi wr => ∃ (i : Nat) (Ab : Option Addr) (Cb : Nat), vi = .int .i64 (i : Int) ∧ vb = .slice Ab (putN a (n : Int) i).length Cb ∧ i ≤ 5 ∧ 5 - i ≤ kx ∧ Hid (wr.ownsRow W2.heap.size 5 1 (.slice Ab (putN a (n : Int) i).length Cb) (putN a (n : Int) i).length (bvals (putN a (n : Int) i))) ∧ Hid (Fr0 W2 wr))
    case atStart => exact ⟨0, none, 0, rfl, rfl, by omega, by omega, Lib.hid (World.ownsRow_nil _ _ _ _), Lib.hid (Fr.refl _ _)⟩
    case round =>
      obtain ⟨i, Ab, Cb, rfl, rfl, hi, hk, HO, HFW⟩ := hrel
      by_cases hlt : i < 5
      · obtain ⟨m, hm1, hm2⟩ := HSH.out i
        have hb := HBIT.out i m hm2
        have ha1 := HAND.out m hm1
        have i1 : (i : Int) < 5 := by omega
        have i2 : 0 ≤ (i : Int) := by omega
        have hix := idx5 a.c a.s a.n a.x a.l i hlt wr
        rw [show ([a.c, a.s, a.n, a.x, a.l] : List Int).getD i 0 = field a i from rfl] at hix
        have HPE := Lib.hid (fun v w => HP8.out v (putN a (n : Int) i) (field a i) (by have := HPL.out i; omega) w)
        have HPP := Lib.hid (HPN.out i)
        generalize field a i = fx at *
        generalize bit (n : Int) i = bi at *
        have HI2 : Hid (i + 1 ≤ 5) := Lib.hid hlt
        cases bi with
        | true =>
          have hb2 : ((m : Int) % 2 == 1) = true := hb.symm
          clear hb
          have HPX : Hid (putN a (n : Int) (i + 1) = putN a (n : Int) i ++ be 8 (tw fx)) := Lib.hid (HPP.out.trans (if_pos rfl))
          clear HPP
          go_wp2_with fail
          refine (HPE.out _ wr HO.out HFW.out).mono ?_
          rintro e w4 ⟨v4, rfl, hO4, hF4⟩
          have hlen : (putN a (n : Int) i).length + 8 = (putN a (n : Int) (i + 1)).length := by rw [HPX.out, List.length_append, be_length]
          rw [hlen, ← HPX.out] at hO4
          obtain ⟨A4, C4, hv4, _⟩ := owns_form hO4
          subst hv4
          have HO4 := Lib.hid hO4
          have HF4 := Lib.hid hF4
          clear hO4 hF4 hlen
          go_wp2
          go_roundg (5 - (i + 1))
          case measure => omega
          case rel => exact ⟨i + 1, A4, C4, by simp, rfl, by omega, by omega, HO4, HF4⟩
        | false =>
          have hb2 : ((m : Int) % 2 == 1) = false := hb.symm
          clear hb
          have HPX : Hid (putN a (n : Int) (i + 1) = putN a (n : Int) i) := Lib.hid (HPP.out.trans (if_neg (by decide)))
          clear HPP
          go_wp2
          go_roundg (5 - (i + 1))
          case measure => omega
          case rel => exact ⟨i + 1, Ab, Cb, by simp, by rw [HPX.out], by omega, by omega, by rw [HPX.out]; exact HO, HFW⟩
      · obtain rfl : i = 5 := by omega
        have HE := Lib.hid (HPOST.out Ab Cb wr HO.out HFW.out)
        go_wp2
        exact HE.out
  · go_enter Tryd.func12, Tryd.ntmps12
    go_wp2_with fail
    rw [HW2.out]
    clear HW2 k0 k1 k2 k3 k4 k5
    go_loopg [6, 33] 5 (fun kx vb vi wr => ∃ (i : Nat) (Ab : Option Addr) (Cb : Nat), vi = .int .i64 (i : Int) ∧ vb = .slice Ab (putN a (n : Int) i).length Cb ∧ i ≤ 5 ∧ 5 - i ≤ kx ∧ Hid (wr.ownsRow W2.heap.size 5 1 (.slice Ab (putN a (n : Int) i).length Cb) (putN a (n : Int) i).length (bvals (putN a (n : Int) i))) ∧ Hid (Fr0 W2 wr))
    case atStart => exact ⟨0, none, 0, rfl, rfl, by omega, by omega, Lib.hid (World.ownsRow_nil _ _ _ _), Lib.hid (Fr.refl _ _)⟩
    case round =>
      obtain ⟨i, Ab, Cb, rfl, rfl, hi, hk, HO, HFW⟩ := hrel
      by_cases hlt : i < 5
      · obtain ⟨m, hm1, hm2⟩ := HSH.out i
        have hb := HBIT.out i m hm2
        have ha1 := HAND.out m hm1
        have i1 : (i : Int) < 5 := by omega
        have i2 : 0 ≤ (i : Int) := by omega
        have hix := idx5 a.c a.s a.n a.x a.l i hlt wr
        rw [show ([a.c, a.s, a.n, a.x, a.l] : List Int).getD i 0 = field a i from rfl] at hix
        have HPE := Lib.hid (fun v w => HP8.out v (putN a (n : Int) i) (field a i) (by have := HPL.out i; omega) w)
        have HPP := Lib.hid (HPN.out i)
        generalize field a i = fx at *
        generalize bit (n : Int) i = bi at *
        have HI2 : Hid (i + 1 ≤ 5) := Lib.hid hlt
        cases bi with
        | true =>
          have hb2 : ((m : Int) % 2 == 1) = true := hb.symm
          clear hb
          have HPX : Hid (putN a (n : Int) (i + 1) = putN a (n : Int) i ++ be 8 (tw fx)) := Lib.hid (HPP.out.trans (if_pos rfl))
          clear HPP
          go_wp2_with fail
          refine (HPE.out _ wr HO.out HFW.out).mono ?_
          rintro e w4 ⟨v4, rfl, hO4, hF4⟩
          have hlen : (putN a (n : Int) i).length + 8 = (putN a (n : Int) (i + 1)).length := by rw [HPX.out, List.length_append, be_length]
          rw [hlen, ← HPX.out] at hO4
          obtain ⟨A4, C4, hv4, _⟩ := owns_form hO4
          subst hv4
          have HO4 := Lib.hid hO4
          have HF4 := Lib.hid hF4
          clear hO4 hF4 hlen
          go_wp2
          go_roundg (5 - (i + 1))
          case measure => omega
          case rel => exact ⟨i + 1, A4, C4, by simp, rfl, by omega, by omega, HO4, HF4⟩
        | false =>
          have hb2 : ((m : Int) % 2 == 1) = false := hb.symm
          clear hb
          have HPX : Hid (putN a (n : Int) (i + 1) = putN a (n : Int) i) := Lib.hid (HPP.out.trans (if_neg (by decide)))
          clear HPP
          go_wp2
          go_roundg (5 - (i + 1))
          case measure => omega
          case rel => exact ⟨i + 1, Ab, Cb, by simp, by rw [HPX.out], by omega, by omega, by rw [HPX.out]; exact HO, HFW⟩
      · obtain rfl : i = 5 := by omega
        have HE := Lib.hid (HPOST.out Ab Cb wr HO.out HFW.out)
        go_wp2
        exact HE.out
end Go.Proofs.YtbiokogihimboaaDoor.Agg
