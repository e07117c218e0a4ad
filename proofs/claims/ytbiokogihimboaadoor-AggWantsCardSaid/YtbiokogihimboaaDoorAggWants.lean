/-
  AggWants walked.
-/
import Derived.Test.YtbiokogihimboaaDoorAggAwake
import Derived.Test.YtbiokogihimboaaDoorAggPut
namespace Go.Proofs.YtbiokogihimboaaDoor.AggL
open Go.RowKit Base _root_.Go.Proofs.YtbiokogihimboaaDoor.Tenant _root_.Go.Proofs.YtbiokogihimboaaDoor.Series _root_.Go.Proofs.YtbiokogihimboaaDoor.Agg _root_.Go.Proofs.YtbiokogihimboaaDoor.Pack
open _root_.Go.Proofs.YtbiokogihimboaaDoor.Ask (tw tw_lt)

def kOf (i : Nat) : Int := [1, 2, 4, 8, 16].getD i 32
theorem kOf_lt (i : Nat) (h : i < 5) : 1 ≤ kOf i ∧ kOf i < 32 ∧ 2 * kOf i = kOf (i + 1) := by
  have : ∀ i : Fin 5, 1 ≤ kOf i.val ∧ kOf i.val < 32 ∧ 2 * kOf i.val = kOf (i.val + 1) := by decide +kernel
  exact this ⟨i, h⟩
theorem and_k (n i : Nat) (h : n < 32) (hi : i < 5) : (bits BinOp.and IntKind.i64 (n : Int) (kOf i) != 0) = bit (n : Int) i := by
  have : ∀ n : Fin 32, ∀ i : Fin 5, (bits BinOp.and IntKind.i64 (n.val : Int) (kOf i.val) != 0) = bit (n.val : Int) i.val := by decide +kernel
  exact this ⟨n, h⟩ ⟨i, hi⟩
theorem put_single (a : Ag) (i : Nat) (hi : i < 5) (ho : i = 1 → a.o = false) : putErr a (kOf i) = 0 ∧ putOut a (kOf i) = be 8 (tw (field a i)) := by
  have hin : inn (kOf i) 1 31 = true := (inn_iff _ _ _).2 (by have := kOf_lt i hi; omega)
  have hb : (bit (kOf i) 1 && a.o) = false := by
    match i, hi with
    | 0, _ => rfl
    | 1, _ => rw [ho rfl]; rfl
    | 2, _ => rfl
    | 3, _ => rfl
    | 4, _ => rfl
  obtain ⟨h1, h2⟩ := put_yes hin hb
  refine ⟨h1, h2.trans ?_⟩
  match i, hi with
  | 0, _ => exact List.append_nil _
  | 1, _ => exact List.append_nil _
  | 2, _ => exact List.append_nil _
  | 3, _ => exact List.append_nil _
  | 4, _ => exact List.append_nil _
set_option maxRecDepth 100000 in
set_option maxHeartbeats 8000000 in
theorem aggWants_walk (v : Value) (l : List Sm) (want : Int) (hs : SizedS l) (hw : -9223372036854775808 ≤ want ∧ want ≤ 9223372036854775807) (w : World) (hP : PairsIs w v l) (hL : Laid w) :
    Calls Tryd.prog 8 #[v, .int .i64 want] w fun e w' => e = .returned (.bool true) ∧ Fr0 w w' := by
  obtain ⟨A, C, rfl⟩ := pairs_form hP
  have HP := Lib.hid hP
  have HL := Lib.hid hL
  have HOF0 : Hid (¬ 60 < l.length → ∀ w, PairsIs w (.slice A l.length C) l → Calls Tryd.prog 10 #[.slice A l.length C] w fun e w' => e = .returned (.agg (a6 (agOf l))) ∧ Fr0 w w') := Lib.hid (fun h w hp => pof_any _ l (by omega) hs w hp)
  have HPU : Hid (¬ 60 < l.length → ∀ wn, Fit wn → ∀ w, Calls Tryd.prog 12 #[.agg (a6 (agOf l)), .int .i64 wn] w (PutPost (agOf l) wn w)) := Lib.hid (fun h wn hw w => pput_any _ (agOf_sized (by omega) hs) wn hw w)
  clear hP hL hs
  generalize agOf l = a at *
  generalize hN : l.length = N at *
  have HN := Lib.hid hN
  clear hN
  rw [show a6 a = #[.int .i64 a.c, .int .i64 a.s, .int .i64 a.n, .int .i64 a.x, .int .i64 a.l, .bool a.o] from rfl] at HOF0 HPU
  go_enter Tryd.func8, Tryd.ntmps8
  go_wp2_with fail
  refine (awake_any _ HL.out).mono ?_
  rintro e w1 ⟨rfl, hF⟩
  have HF1 := Lib.hid hF
  clear hF
  by_cases h1 : 60 < N
  · go_wp2
    go_ret
    exact ⟨rfl, HF1.out⟩
  by_cases h2 : want < 1
  · go_wp2
    go_ret
    exact ⟨rfl, HF1.out⟩
  by_cases h3 : 31 < want
  · go_wp2
    go_ret
    exact ⟨rfl, HF1.out⟩
  obtain ⟨n, rfl⟩ := Int.eq_ofNat_of_zero_le (show 0 ≤ want by omega)
  have hn : n < 32 := by omega
  have hx := HOF0.out h1 _ (HP.out.fr0 HF1.out)
  go_wp2_with fail
  refine hx.mono ?_
  clear hx
  rintro e w2 ⟨rfl, hF⟩
  have HF2 := Lib.hid (HF1.out.trans' hF)
  clear hF HF1 HP HOF0
  have HBX := Lib.hid (Bx.new 24 w2 a)
  have HFX := Lib.hid (HF2.out.alloc (.cells #[.int .i64 a.c, .int .i64 a.s, .int .i64 a.n, .int .i64 a.x, .int .i64 a.l, .bool a.o] 24))
  have hpu := HPU.out h1 (n : Int) (by unfold Fit; omega) (w2.alloc (.cells #[.int .i64 a.c, .int .i64 a.s, .int .i64 a.n, .int .i64 a.x, .int .i64 a.l, .bool a.o] 24))
  go_wp2_with fail
  refine hpu.mono ?_
  clear hpu
  rintro e w3 ⟨Aa, Ca, rfl, hB, hF⟩
  have HF3 := Lib.hid (HFX.out.trans' hF)
  have HB3 := Lib.hid hB
  have HX3 := Lib.hid (HBX.out.fr0 hF)
  clear hF hB HF2 HFX HBX
  have hin : inn (n : Int) 1 31 = true := (inn_iff _ _ _).2 ⟨by omega, by omega⟩
  obtain ⟨-, -, -, -, -, k5⟩ := HX3.out.cells
  have HN32 := Lib.hid hn
  by_cases hov : (bit (n : Int) 1 && a.o) = true
  · obtain ⟨hb, hao⟩ : bit (n : Int) 1 = true ∧ a.o = true := by simpa using hov
    obtain ⟨e1, e2⟩ := put_over hin hb hao
    rw [e2] at HB3 ⊢
    rw [e1]
    rw [hao] at k5
    have hbg : ((n : Int) / 2 % 2 == 1) = true := by rw [← hb]; rfl
    clear hov hb e1 e2 hin HPU
    go_wp2
    go_ret
    exact ⟨rfl, HF3.out⟩
  have hov' : (bit (n : Int) 1 && a.o) = false := by simpa using hov
  obtain ⟨e1, e2⟩ := put_yes hin hov'
  rw [e2] at HB3 ⊢
  rw [e1]
  have HK := Lib.hid (fun i hi (hb : bit (n : Int) i = true) => put_single a i hi (fun h => by
    subst h
    rw [hb] at hov'
    simpa using hov'))
  have HPN := Lib.hid (putN_next a (n : Int))
  have HPL := Lib.hid (putN_length a (n : Int))
  have HAND := Lib.hid (fun i hi => and_k n i HN32.out hi)
  clear hov hov' e1 e2 hin k5
  go_wp2_with fail
  generalize w2.heap.size = g at *
  go_loopg [8, 9] 5 (fun kx vb vk wr => ∃ (i : Nat) (Ab : Option Addr) (Cb : Nat) (K : Int), vk = .int .i64 K ∧ vb = .slice Ab (putN a (n : Int) i).length Cb ∧ i ≤ 5 ∧ 5 - i ≤ kx ∧ Hid (K = kOf i) ∧ Hid (wr.ownsRow w3.heap.size 5 1 (.slice Ab (putN a (n : Int) i).length Cb) (putN a (n : Int) i).length (bvals (putN a (n : Int) i))) ∧ Hid (Fr0 w3 wr))
  case atStart => exact ⟨0, none, 0, 1, rfl, rfl, by omega, by omega, Lib.hid rfl, Lib.hid (World.ownsRow_nil _ _ _ _), Lib.hid (Fr.refl _ _)⟩
  case round =>
    obtain ⟨i, Ab, Cb, K, rfl, rfl, hi, hk, HKO, HO, HFW⟩ := hrel
    by_cases hlt : i < 5
    · obtain ⟨K2, hK2⟩ : ∃ K2, K2 = kOf (i + 1) := ⟨_, rfl⟩
      obtain ⟨hk1, hk2, hk3⟩ := kOf_lt i hlt
      rw [← HKO.out] at hk1 hk2 hk3
      rw [← hK2] at hk3
      have HK2 := Lib.hid hK2
      have hand := HAND.out i hlt
      rw [← HKO.out] at hand
      have hpn := HPN.out i
      have hkk := HK.out i hlt
      have HXW := Lib.hid (HX3.out.fr0 HFW.out)
      clear hK2
      cases hb : bit (n : Int) i with
      | true =>
        rw [hb] at hand hpn
        obtain ⟨f1, f2⟩ := hkk hb
        rw [← HKO.out] at f1 f2
        have hpu := HPU.out h1 K (by unfold Fit; omega) wr
        unfold PutPost at hpu
        rw [f1, f2, be_length] at hpu
        have HPX : Hid (putN a (n : Int) (i + 1) = putN a (n : Int) i ++ be 8 (tw (field a i))) := Lib.hid (hpn.trans (if_pos rfl))
        have HPLI : Hid ((putN a (n : Int) i).length ≤ 40) := Lib.hid (by have := HPL.out i; omega)
        clear hb hpn hkk f1 f2
        have HBL : Hid ((be 8 (tw (field a i))).length = 8) := Lib.hid (be_length _ _)
        generalize be 8 (tw (field a i)) = bb at *
        obtain ⟨c0, c1, c2, c3, c4, c5⟩ := HXW.out.cells
        go_wp2_with fail
        refine hpu.mono ?_
        clear hpu c0 c1 c2 c3 c4 c5
        rintro e w4 ⟨Ac, Cc, rfl, hB4, hF4⟩
        have HB4 := Lib.hid hB4
        have HF4 := Lib.hid (HFW.out.trans' hF4)
        have HO4 := Lib.hid (ownsFr hF4 HO.out (fun _ _ f => f))
        have HSZ4 := Lib.hid HF4.out.size
        clear hB4 hF4
        go_wp2_with (refine wpList_append_bytes rfl (.tmp 69) (.tmp 70) 28 rfl w3.heap.size 5 Tryd.underlying28 info8 _ _ (putN a (n : Int) i).length (putN a (n : Int) i) bb rfl rfl HO4.out HB4.out (by rw [HBL.out]; have := HPLI.out; omega) (by exact HSZ4.out) ?_; intro v5 w5 hO5 hG5)
        have hlen : (putN a (n : Int) i).length + bb.length = (putN a (n : Int) (i + 1)).length := by rw [HPX.out, List.length_append]
        rw [hlen, ← HPX.out] at hO5
        obtain ⟨A5, C5, hv5, _⟩ := owns_form hO5
        subst hv5
        have HO5 := Lib.hid hO5
        have HF5 : Hid (Fr0 w3 w5) := Lib.hid (HF4.out.grown hG5 (fun q hq e => by have := HO4.out.lt q e; omega))
        clear hO5 hG5 hlen HO4 HB4 HF4
        go_wp2
        go_roundg (5 - (i + 1))
        case measure => omega
        case rel => exact ⟨i + 1, A5, C5, K2, rfl, rfl, by omega, by omega, HK2, HO5, HF5⟩
      | false =>
        rw [hb] at hand hpn
        have HPX : Hid (putN a (n : Int) (i + 1) = putN a (n : Int) i) := Lib.hid (hpn.trans (if_neg (by decide)))
        clear hb hpn hkk
        go_wp2
        go_roundg (5 - (i + 1))
        case measure => omega
        case rel => exact ⟨i + 1, Ab, Cb, K2, rfl, by rw [HPX.out], by omega, by omega, HK2, by rw [HPX.out]; exact HO, HFW⟩
    · obtain rfl : i = 5 := by omega
      obtain rfl : K = 32 := HKO.out
      have HBW := Lib.hid (HB3.out.fr0 HFW.out)
      have HBO := Lib.hid (BytesIs.own HO.out)
      have hc1 := HBW.out.convert (P := Tryd.prog) 28 9 5 Tryd.underlying28 Tryd.underlying5 Tryd.underlying9
      have hc2 := HBO.out.convert (P := Tryd.prog) 28 9 5 Tryd.underlying28 Tryd.underlying5 Tryd.underlying9
      go_wp2
      go_ret
      exact ⟨rfl, HF3.out.trans' HFW.out⟩
end Go.Proofs.YtbiokogihimboaaDoor.AggL
