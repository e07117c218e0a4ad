/-
  QuotaSays walked.
-/
import Derived.Test.YtpdmglmhbdjcmaaQuotaAwake
import Derived.Test.YtpdmglmhbdjcmaaMixS
import Derived.Deep.DeepCutAuto
import Derived.Deep.LoopGhost
namespace Go.Proofs.Ytpdmglmhbdjcmaa.QuotaL
open Go.RowKit Base _root_.Go.Proofs.Ytpdmglmhbdjcmaa.Quota

set_option maxRecDepth 100000 in
set_option maxHeartbeats 8000000 in
theorem quotaSays_walk (q : Qt) (of ev n : Int) (hq : SizedQ q) (ho : -9223372036854775808 ≤ of ∧ of ≤ 9223372036854775807) (he : -9223372036854775808 ≤ ev ∧ ev ≤ 9223372036854775807) (hn : -9223372036854775808 ≤ n ∧ n ≤ 9223372036854775807) (w : World) :
    Calls Try.prog 4 #[.agg (q4 q), .int .i64 of, .int .i64 ev, .int .i64 n] w fun e w' => e = .returned (.bool true) ∧ Fr0 w w' := by
  have HNEW := Lib.hid (fun w => pnew_any of ev ho he w)
  have HRNEW := Lib.hid (fun w => rnewQ_any of ev w)
  have HUSE := Lib.hid (fun w => puse_any q hq w)
  have HRUSE := Lib.hid (fun w => ruse_any q w)
  have HOWN := Lib.hid own_any
  have HSLOT := Lib.hid (fun w => pslot_any q hq w)
  have HRSLOT := Lib.hid rslot_any
  have HSLOTS := Lib.hid (fun w => pslots_any q n hq hn w)
  have HGOOD := Lib.hid (fun w => pgood_any q hq w)
  have HRGOOD := Lib.hid (fun w => rgoodQ_any q w)
  have hbq := Bx.new 24 w q
  have hf0 := (Fr.refl (fun _ => False) w).alloc (.cells #[.int .i64 q.o, .int .i64 q.e, .int .i64 q.l, .int .i64 q.a] 24)
  have HB0 := Lib.hid hbq
  have HF0 := Lib.hid hf0
  clear hbq hf0
  unfold q4 at *
  generalize newQ of ev = nq at *
  generalize newErr of ev = ne at *
  generalize useQ q = uq at *
  generalize useOk q = uo at *
  generalize goodQ q = gd at *
  go_enter Try.func4, Try.ntmps4
  go_wp2_with fail
  refine (awake_any _).mono ?_
  rintro e w1 ⟨rfl, hF1⟩
  have HF1 : Hid (Fr0 w w1) := Lib.hid (HF0.out.trans' hF1)
  have HBQ := Lib.hid (HB0.out.fr0 hF1)
  clear hF1 HB0 HF0
  by_cases hbig : 200 < n
  · go_wp2
    go_ret
    exact ⟨rfl, HF1.out⟩
  · have hk : Calls Try.prog 7 #[.int .i64 of, .int .i64 ev] w1 fun e w' => e = .returned (.tuple #[.agg #[.int .i64 nq.o, .int .i64 nq.e, .int .i64 nq.l, .int .i64 nq.a], .int .i64 ne]) ∧ Fr0 w1 w' := HNEW.out _
    have hc := HBQ.out.cells
    obtain ⟨c00, c01, c02, c03⟩ := hc
    go_wp2_with fail
    refine hk.mono ?_
    clear hk c00 c01 c02 c03
    rintro e V1 ⟨rfl, hF⟩
    have HFV1 := Lib.hid (HF1.out.trans' hF)
    have HB0V1 := Lib.hid (HBQ.out.fr0 hF)
    clear hF
    have hb := Bx.new 24 V1 ⟨nq.o, nq.e, nq.l, nq.a⟩
    have hf := (Fr.refl (fun _ => False) V1).alloc (.cells #[.int .i64 nq.o, .int .i64 nq.e, .int .i64 nq.l, .int .i64 nq.a] 24)
    obtain ⟨V2, hW⟩ : ∃ W', W' = V1.alloc (.cells #[.int .i64 nq.o, .int .i64 nq.e, .int .i64 nq.l, .int .i64 nq.a] 24) := ⟨_, rfl⟩
    rw [← hW] at hb
    rw [← hW] at hf
    have HWV2 := Lib.hid hW
    have HFV2 := Lib.hid (HFV1.out.trans' hf)
    have HNV2 := Lib.hid hb
    have hlt20 := HB0V1.out.lt
    have HB0V2 := Lib.hid (HB0V1.out.fr0 hf)
    clear hb hf hW
    have hk : Calls Try.prog 12 #[.int .i64 of, .int .i64 ev] V2 fun e w' => e = .returned (.tuple #[.agg #[.int .i64 nq.o, .int .i64 nq.e, .int .i64 nq.l, .int .i64 nq.a], .int .i64 ne]) ∧ Fr0 V2 w' := HRNEW.out _
    have hc := HB0V2.out.cells
    rw [HWV2.out] at hc
    obtain ⟨c00, c01, c02, c03⟩ := hc
    have hc := HNV2.out.cells
    rw [HWV2.out] at hc
    obtain ⟨c10, c11, c12, c13⟩ := hc
    go_wp2_with fail
    rw [← HWV2.out]
    refine hk.mono ?_
    clear hk c00 c01 c02 c03 c10 c11 c12 c13
    rintro e V3 ⟨rfl, hF⟩
    have HFV3 := Lib.hid (HFV2.out.trans' hF)
    have HB0V3 := Lib.hid (HB0V2.out.fr0 hF)
    have HB1V3 := Lib.hid (HNV2.out.fr0 hF)
    clear hF
    have hb := Bx.new 33 V3 ⟨nq.o, nq.e, nq.l, nq.a⟩
    have hf := (Fr.refl (fun _ => False) V3).alloc (.cells #[.int .i64 nq.o, .int .i64 nq.e, .int .i64 nq.l, .int .i64 nq.a] 33)
    obtain ⟨V4, hW⟩ : ∃ W', W' = V3.alloc (.cells #[.int .i64 nq.o, .int .i64 nq.e, .int .i64 nq.l, .int .i64 nq.a] 33) := ⟨_, rfl⟩
    rw [← hW] at hb
    rw [← hW] at hf
    have HWV4 := Lib.hid hW
    have HFV4 := Lib.hid (HFV3.out.trans' hf)
    have HNV4 := Lib.hid hb
    have hlt40 := HB0V3.out.lt
    have hlt41 := HB1V3.out.lt
    have HB0V4 := Lib.hid (HB0V3.out.fr0 hf)
    have HB1V4 := Lib.hid (HB1V3.out.fr0 hf)
    clear hb hf hW
    have hk : Calls Try.prog 8 #[.agg #[.int .i64 q.o, .int .i64 q.e, .int .i64 q.l, .int .i64 q.a]] V4 fun e w' => e = .returned (.tuple #[.agg #[.int .i64 uq.o, .int .i64 uq.e, .int .i64 uq.l, .int .i64 uq.a], .bool uo]) ∧ Fr0 V4 w' := HUSE.out _
    have hc := HB0V4.out.cells
    rw [HWV4.out] at hc
    obtain ⟨c00, c01, c02, c03⟩ := hc
    have hc := HB1V4.out.cells
    rw [HWV4.out] at hc
    obtain ⟨c10, c11, c12, c13⟩ := hc
    have hc := HNV4.out.cells
    rw [HWV4.out] at hc
    obtain ⟨c20, c21, c22, c23⟩ := hc
    go_wp2_with fail
    rw [← HWV4.out]
    refine hk.mono ?_
    clear hk c00 c01 c02 c03 c10 c11 c12 c13 c20 c21 c22 c23
    rintro e V5 ⟨rfl, hF⟩
    have HFV5 := Lib.hid (HFV4.out.trans' hF)
    have HB0V5 := Lib.hid (HB0V4.out.fr0 hF)
    have HB1V5 := Lib.hid (HB1V4.out.fr0 hF)
    have HB2V5 := Lib.hid (HNV4.out.fr0 hF)
    clear hF
    have hb := Bx.new 24 V5 ⟨uq.o, uq.e, uq.l, uq.a⟩
    have hf := (Fr.refl (fun _ => False) V5).alloc (.cells #[.int .i64 uq.o, .int .i64 uq.e, .int .i64 uq.l, .int .i64 uq.a] 24)
    obtain ⟨V6, hW⟩ : ∃ W', W' = V5.alloc (.cells #[.int .i64 uq.o, .int .i64 uq.e, .int .i64 uq.l, .int .i64 uq.a] 24) := ⟨_, rfl⟩
    rw [← hW] at hb
    rw [← hW] at hf
    have HWV6 := Lib.hid hW
    have HFV6 := Lib.hid (HFV5.out.trans' hf)
    have HNV6 := Lib.hid hb
    have hlt60 := HB0V5.out.lt
    have hlt61 := HB1V5.out.lt
    have hlt62 := HB2V5.out.lt
    have HB0V6 := Lib.hid (HB0V5.out.fr0 hf)
    have HB1V6 := Lib.hid (HB1V5.out.fr0 hf)
    have HB2V6 := Lib.hid (HB2V5.out.fr0 hf)
    clear hb hf hW
    have hk : Calls Try.prog 14 #[.agg #[.int .i64 q.o, .int .i64 q.e, .int .i64 q.l, .int .i64 q.a]] V6 fun e w' => e = .returned (.agg #[.int .i64 q.o, .int .i64 q.e, .int .i64 q.l, .int .i64 q.a]) ∧ Fr0 V6 w' := HOWN.out q _
    have hc := HB0V6.out.cells
    rw [HWV6.out] at hc
    obtain ⟨c00, c01, c02, c03⟩ := hc
    have hc := HB1V6.out.cells
    rw [HWV6.out] at hc
    obtain ⟨c10, c11, c12, c13⟩ := hc
    have hc := HB2V6.out.cells
    rw [HWV6.out] at hc
    obtain ⟨c20, c21, c22, c23⟩ := hc
    have hc := HNV6.out.cells
    rw [HWV6.out] at hc
    obtain ⟨c30, c31, c32, c33⟩ := hc
    go_wp2_with fail
    rw [← HWV6.out]
    refine hk.mono ?_
    clear hk c00 c01 c02 c03 c10 c11 c12 c13 c20 c21 c22 c23 c30 c31 c32 c33
    rintro e V7 ⟨rfl, hF⟩
    have HFV7 := Lib.hid (HFV6.out.trans' hF)
    have HB0V7 := Lib.hid (HB0V6.out.fr0 hF)
    have HB1V7 := Lib.hid (HB1V6.out.fr0 hF)
    have HB2V7 := Lib.hid (HB2V6.out.fr0 hF)
    have HB3V7 := Lib.hid (HNV6.out.fr0 hF)
    clear hF
    have hk : Calls Try.prog 13 #[.agg #[.int .i64 q.o, .int .i64 q.e, .int .i64 q.l, .int .i64 q.a]] V7 fun e w' => e = .returned (.tuple #[.agg #[.int .i64 uq.o, .int .i64 uq.e, .int .i64 uq.l, .int .i64 uq.a], .bool uo]) ∧ Fr0 V7 w' := HRUSE.out _
    have hc := HB0V7.out.cells
    obtain ⟨c00, c01, c02, c03⟩ := hc
    have hc := HB1V7.out.cells
    obtain ⟨c10, c11, c12, c13⟩ := hc
    have hc := HB2V7.out.cells
    obtain ⟨c20, c21, c22, c23⟩ := hc
    have hc := HB3V7.out.cells
    obtain ⟨c30, c31, c32, c33⟩ := hc
    go_wp2_with fail
    refine hk.mono ?_
    clear hk c00 c01 c02 c03 c10 c11 c12 c13 c20 c21 c22 c23 c30 c31 c32 c33
    rintro e V8 ⟨rfl, hF⟩
    have HFV8 := Lib.hid (HFV7.out.trans' hF)
    have HB0V8 := Lib.hid (HB0V7.out.fr0 hF)
    have HB1V8 := Lib.hid (HB1V7.out.fr0 hF)
    have HB2V8 := Lib.hid (HB2V7.out.fr0 hF)
    have HB3V8 := Lib.hid (HB3V7.out.fr0 hF)
    clear hF
    have hb := Bx.new 33 V8 ⟨uq.o, uq.e, uq.l, uq.a⟩
    have hf := (Fr.refl (fun _ => False) V8).alloc (.cells #[.int .i64 uq.o, .int .i64 uq.e, .int .i64 uq.l, .int .i64 uq.a] 33)
    obtain ⟨V9, hW⟩ : ∃ W', W' = V8.alloc (.cells #[.int .i64 uq.o, .int .i64 uq.e, .int .i64 uq.l, .int .i64 uq.a] 33) := ⟨_, rfl⟩
    rw [← hW] at hb
    rw [← hW] at hf
    have HWV9 := Lib.hid hW
    have HFV9 := Lib.hid (HFV8.out.trans' hf)
    have HNV9 := Lib.hid hb
    have hlt90 := HB0V8.out.lt
    have hlt91 := HB1V8.out.lt
    have hlt92 := HB2V8.out.lt
    have hlt93 := HB3V8.out.lt
    have HB0V9 := Lib.hid (HB0V8.out.fr0 hf)
    have HB1V9 := Lib.hid (HB1V8.out.fr0 hf)
    have HB2V9 := Lib.hid (HB2V8.out.fr0 hf)
    have HB3V9 := Lib.hid (HB3V8.out.fr0 hf)
    clear hb hf hW
    have hk : Calls Try.prog 14 #[.agg #[.int .i64 q.o, .int .i64 q.e, .int .i64 q.l, .int .i64 q.a]] V9 fun e w' => e = .returned (.agg #[.int .i64 q.o, .int .i64 q.e, .int .i64 q.l, .int .i64 q.a]) ∧ Fr0 V9 w' := HOWN.out q _
    have hc := HB0V9.out.cells
    rw [HWV9.out] at hc
    obtain ⟨c00, c01, c02, c03⟩ := hc
    have hc := HB1V9.out.cells
    rw [HWV9.out] at hc
    obtain ⟨c10, c11, c12, c13⟩ := hc
    have hc := HB2V9.out.cells
    rw [HWV9.out] at hc
    obtain ⟨c20, c21, c22, c23⟩ := hc
    have hc := HB3V9.out.cells
    rw [HWV9.out] at hc
    obtain ⟨c30, c31, c32, c33⟩ := hc
    have hc := HNV9.out.cells
    rw [HWV9.out] at hc
    obtain ⟨c40, c41, c42, c43⟩ := hc
    go_wp2_with fail
    rw [← HWV9.out]
    refine hk.mono ?_
    clear hk c00 c01 c02 c03 c10 c11 c12 c13 c20 c21 c22 c23 c30 c31 c32 c33 c40 c41 c42 c43
    rintro e V10 ⟨rfl, hF⟩
    have HFV10 := Lib.hid (HFV9.out.trans' hF)
    have HB0V10 := Lib.hid (HB0V9.out.fr0 hF)
    have HB1V10 := Lib.hid (HB1V9.out.fr0 hF)
    have HB2V10 := Lib.hid (HB2V9.out.fr0 hF)
    have HB3V10 := Lib.hid (HB3V9.out.fr0 hF)
    have HB4V10 := Lib.hid (HNV9.out.fr0 hF)
    clear hF
    have hb := Bx.new 33 V10 ⟨q.o, q.e, q.l, q.a⟩
    have hf := (Fr.refl (fun _ => False) V10).alloc (.cells #[.int .i64 q.o, .int .i64 q.e, .int .i64 q.l, .int .i64 q.a] 33)
    obtain ⟨V11, hW⟩ : ∃ W', W' = V10.alloc (.cells #[.int .i64 q.o, .int .i64 q.e, .int .i64 q.l, .int .i64 q.a] 33) := ⟨_, rfl⟩
    rw [← hW] at hb
    rw [← hW] at hf
    have HWV11 := Lib.hid hW
    have HFV11 := Lib.hid (HFV10.out.trans' hf)
    have HNV11 := Lib.hid hb
    have hlt110 := HB0V10.out.lt
    have hlt111 := HB1V10.out.lt
    have hlt112 := HB2V10.out.lt
    have hlt113 := HB3V10.out.lt
    have hlt114 := HB4V10.out.lt
    have HB0V11 := Lib.hid (HB0V10.out.fr0 hf)
    have HB1V11 := Lib.hid (HB1V10.out.fr0 hf)
    have HB2V11 := Lib.hid (HB2V10.out.fr0 hf)
    have HB3V11 := Lib.hid (HB3V10.out.fr0 hf)
    have HB4V11 := Lib.hid (HB4V10.out.fr0 hf)
    clear hb hf hW
    have HEND := HFV11
    have HZ0 := HB0V11
    have HZ1 := HB1V11
    have HZ2 := HB2V11
    have HZ3 := HB3V11
    have HZ4 := HB4V11
    have HZ5 := HNV11
    rw [HWV11.out] at HEND HZ0 HZ1 HZ2 HZ3 HZ4 HZ5
    have hltE := HB4V11.out.lt
    have HGW := HFV10.out.size
    go_wp2_with fail
    go_loopg [18] n.toNat (fun kx vi wr => ∃ (i : Nat), vi = .int .i64 (i : Int) ∧ i ≤ n.toNat ∧ n.toNat - i ≤ kx ∧ Hid (Bx 24 wr w.heap.size ⟨q.o, q.e, q.l, q.a⟩) ∧ Hid (Bx 24 wr V1.heap.size ⟨nq.o, nq.e, nq.l, nq.a⟩) ∧ Hid (Bx 33 wr V3.heap.size ⟨nq.o, nq.e, nq.l, nq.a⟩) ∧ Hid (Bx 24 wr V5.heap.size ⟨uq.o, uq.e, uq.l, uq.a⟩) ∧ Hid (Bx 33 wr V8.heap.size ⟨uq.o, uq.e, uq.l, uq.a⟩) ∧ Hid (Bx 33 wr V10.heap.size (slotsQ q i)) ∧ Hid (Fr0 w wr))
    case atStart => exact ⟨0, rfl, Nat.zero_le _, by omega, HZ0, HZ1, HZ2, HZ3, HZ4, HZ5, HEND⟩
    case round =>
      obtain ⟨i, rfl, hi, hk, HK0, HK1, HK2, HK3, HK4, HKW, HFr⟩ := hrel
      clear HEND HZ0 HZ1 HZ2 HZ3 HZ4 HZ5
      by_cases hlt : (i : Int) < n
      · have hsx : slotsQ q (i + 1) = slotQ (slotsQ q i) := rfl
        have HRS := Lib.hid (fun w => HRSLOT.out (slotsQ q i) w)
        rw [← hsx] at HRS
        have HSX := Lib.hid hsx
        clear hsx
        generalize slotsQ q i = sx at *
        obtain ⟨sy, hsy⟩ : ∃ sy, sy = slotsQ q (i + 1) := ⟨_, rfl⟩
        rw [← hsy] at HRS
        have HSY := Lib.hid hsy
        clear hsy
        have hk : Calls Try.prog 15 #[.agg #[.int .i64 sx.o, .int .i64 sx.e, .int .i64 sx.l, .int .i64 sx.a]] wr fun e w' => e = .returned (.agg #[.int .i64 sy.o, .int .i64 sy.e, .int .i64 sy.l, .int .i64 sy.a]) ∧ Fr0 wr w' := HRS.out _
        have hc := HK0.out.cells
        obtain ⟨c00, c01, c02, c03⟩ := hc
        have hc := HK1.out.cells
        obtain ⟨c10, c11, c12, c13⟩ := hc
        have hc := HK2.out.cells
        obtain ⟨c20, c21, c22, c23⟩ := hc
        have hc := HK3.out.cells
        obtain ⟨c30, c31, c32, c33⟩ := hc
        have hc := HK4.out.cells
        obtain ⟨c40, c41, c42, c43⟩ := hc
        have hc := HKW.out.cells
        obtain ⟨c50, c51, c52, c53⟩ := hc
        go_wp2_with fail
        refine hk.mono ?_
        clear hk c00 c01 c02 c03 c10 c11 c12 c13 c20 c21 c22 c23 c30 c31 c32 c33 c40 c41 c42 c43 c50 c51 c52 c53
        rintro e V41 ⟨rfl, hF⟩
        have HFV41 := Lib.hid (HFr.out.trans' hF)
        have HB0V41 := Lib.hid (HK0.out.fr0 hF)
        have HB1V41 := Lib.hid (HK1.out.fr0 hF)
        have HB2V41 := Lib.hid (HK2.out.fr0 hF)
        have HB3V41 := Lib.hid (HK3.out.fr0 hF)
        have HB4V41 := Lib.hid (HK4.out.fr0 hF)
        have HB5V41 := Lib.hid (HKW.out.fr0 hF)
        clear hF
        have hb := HB5V41.out.setRow ⟨sy.o, sy.e, sy.l, sy.a⟩
        have hf : Fr0 w (V41.setRow V10.heap.size #[.int .i64 sy.o, .int .i64 sy.e, .int .i64 sy.l, .int .i64 sy.a]) := Fr.setRow HFV41.out (fun h => by have := HGW; omega) _
        obtain ⟨V42, hW⟩ : ∃ W', W' = V41.setRow V10.heap.size #[.int .i64 sy.o, .int .i64 sy.e, .int .i64 sy.l, .int .i64 sy.a] := ⟨_, rfl⟩
        replace hb : Bx 33 V42 V10.heap.size ⟨sy.o, sy.e, sy.l, sy.a⟩ := by rw [hW]; exact hb
        rw [← hW] at hf
        have HWV42 := Lib.hid hW
        have HGV42 := Lib.hid HB5V41.out.heap
        have HFV42 := Lib.hid hf
        have HNV42 := Lib.hid hb
        have HB0V42 : Hid (Bx 24 V42 w.heap.size ⟨q.o, q.e, q.l, q.a⟩) := Lib.hid (by rw [hW]; exact HB0V41.out.otherRow (by omega) _)
        have HB1V42 : Hid (Bx 24 V42 V1.heap.size ⟨nq.o, nq.e, nq.l, nq.a⟩) := Lib.hid (by rw [hW]; exact HB1V41.out.otherRow (by omega) _)
        have HB2V42 : Hid (Bx 33 V42 V3.heap.size ⟨nq.o, nq.e, nq.l, nq.a⟩) := Lib.hid (by rw [hW]; exact HB2V41.out.otherRow (by omega) _)
        have HB3V42 : Hid (Bx 24 V42 V5.heap.size ⟨uq.o, uq.e, uq.l, uq.a⟩) := Lib.hid (by rw [hW]; exact HB3V41.out.otherRow (by omega) _)
        have HB4V42 : Hid (Bx 33 V42 V8.heap.size ⟨uq.o, uq.e, uq.l, uq.a⟩) := Lib.hid (by rw [hW]; exact HB4V41.out.otherRow (by omega) _)
        clear hb hf hW
        go_wp2_with ((with_reducible change wpList _ _ _ (⟨_, Op.store 33 _ _, _, _, _, _⟩ :: _) _ _); refine wpList_store_row rfl 33 _ _ rfl V10.heap.size #[.int .i64 sy.o, .int .i64 sy.e, .int .i64 sy.l, .int .i64 sy.a] rfl rfl 33 _ HGV42.out infoR rfl (q4_one ⟨sy.o, sy.e, sy.l, sy.a⟩) ?_; rw [← HWV42.out])
        go_roundg (n.toNat - (i + 1))
        case measure => omega
        case rel => exact ⟨i + 1, by simp, by omega, by omega, HB0V42, HB1V42, HB2V42, HB3V42, HB4V42, by rw [← HSY.out]; exact HNV42, HFV42⟩
      · obtain rfl : i = n.toNat := by omega
        have HRSL := Lib.hid (fun w => HRSLOT.out q w)
        generalize slotsQ q n.toNat = zq at *
        generalize slotQ q = sq at *
        have HR0 := Lib.hid HK0.out.heap
        have HR1 := Lib.hid HK1.out.heap
        have HR2 := Lib.hid HK2.out.heap
        have HR3 := Lib.hid HK3.out.heap
        have HR4 := Lib.hid HK4.out.heap
        have HRW := Lib.hid HKW.out.heap
        clear HKW HK0 HK1 HK2 HK3 HK4
        go_wp2_with fail
        refine Mix.law (fun X => Fr0 wr X) [(.sure, 0), (.sure, 2), (.turn, 1), (.sure, 3), (.sure, 4), (.sure, 5), (.sure, 6), (.sure, 7), (.sure, 8), (.sure, 9), (.sure, 10), (.sure, 12), (.turn, 11), (.sure, 13), (.sure, 14), (.sure, 15), (.sure, 16), (.sure, 17), (.sure, 18), (.sure, 19), (.sure, 20), (.sure, 21), (.sure, 24), (.turn, 22), (.turn, 23), (.turn, 25), (.turn, 26), (.sure, 27), (.sure, 28), (.sure, 29), (.sure, 30), (.sure, 31), (.sure, 34), (.turn, 32), (.turn, 33), (.sure, 35), (.sure, 36), (.sure, 37), (.sure, 38), (.sure, 40), (.turn, 39), (.turn, 41), (.turn, 42), (.sure, 43), (.sure, 44), (.sure, 45)] (by kernel_rfl) (by kernel_rfl) (Fr.refl _ _).drew ?_
        simp only [List.map_cons, List.map_nil, Mix.nth_zero, Mix.nth_succ]
        have HX0 := Lib.hid ((Fr.refl (fun _ => False) wr).drew)
        generalize wr.drew = x0 at *
        repeat (first
          | ((with_reducible refine Mix.go_skipS ?_ ?_); (focus (first | exact Mix.wanted_no rfl rfl rfl rfl | exact Mix.wanted_void rfl rfl rfl)); go_frame)
          | ((with_reducible refine Mix.go_skipL ?_ ?_); (focus (first | exact Mix.wanted_no rfl rfl rfl rfl | exact Mix.wanted_void rfl rfl rfl)); go_frame)
          | (refine Mix.go_move (by first | exact Mix.wanted_none rfl | exact Mix.wanted_yes rfl rfl rfl) _ rfl _ (by first | (go_simp; done) | (go_simp; rfl)) ?_; go_frame)
          | (refine Mix.go_assign (by first | exact Mix.wanted_none rfl | exact Mix.wanted_yes rfl rfl rfl) _ rfl _ (by first | (go_simp; done) | (go_simp; rfl)) ?_; go_frame)
          | (refine Mix.go_sure_row (by first | exact Mix.wanted_none rfl | exact Mix.wanted_yes rfl rfl rfl) 24 _ rfl (w.heap.size) rfl 24 _ (0, 0) _ (fun w1 hC1 => hC1.heap HR0.out (fun f => f)) Try.underlying24 rfl (by kernel_rfl) ?_; go_frame)
          | (refine Mix.go_sure_row (by first | exact Mix.wanted_none rfl | exact Mix.wanted_yes rfl rfl rfl) 24 _ rfl (V1.heap.size) rfl 24 _ (0, 0) _ (fun w1 hC1 => hC1.heap HR1.out (fun f => f)) Try.underlying24 rfl (by kernel_rfl) ?_; go_frame)
          | (refine Mix.go_sure_row (by first | exact Mix.wanted_none rfl | exact Mix.wanted_yes rfl rfl rfl) 33 _ rfl (V3.heap.size) rfl 33 _ (0, 0) _ (fun w1 hC1 => hC1.heap HR2.out (fun f => f)) Try.underlying33 rfl (by kernel_rfl) ?_; go_frame)
          | (refine Mix.go_sure_row (by first | exact Mix.wanted_none rfl | exact Mix.wanted_yes rfl rfl rfl) 24 _ rfl (V5.heap.size) rfl 24 _ (0, 0) _ (fun w1 hC1 => hC1.heap HR3.out (fun f => f)) Try.underlying24 rfl (by kernel_rfl) ?_; go_frame)
          | (refine Mix.go_sure_row (by first | exact Mix.wanted_none rfl | exact Mix.wanted_yes rfl rfl rfl) 33 _ rfl (V8.heap.size) rfl 33 _ (0, 0) _ (fun w1 hC1 => hC1.heap HR4.out (fun f => f)) Try.underlying33 rfl (by kernel_rfl) ?_; go_frame)
          | (refine Mix.go_sure_row (by first | exact Mix.wanted_none rfl | exact Mix.wanted_yes rfl rfl rfl) 33 _ rfl (V10.heap.size) rfl 33 _ (0, 0) _ (fun w1 hC1 => hC1.heap HRW.out (fun f => f)) Try.underlying33 rfl (by kernel_rfl) ?_; go_frame)
          | (refine Mix.go_sureW (by first | exact Mix.wanted_none rfl | exact Mix.wanted_yes rfl rfl rfl) _ (by rfl) (by rfl) _ (fun w' hC' => by go_wp2_with fail; refine Mix.stays ?_; go_frame; rfl) ?_; go_frame)
          | (refine Mix.go_lookW (by first | exact Mix.wanted_none rfl | exact Mix.wanted_yes rfl rfl rfl) _ (by rfl) (by rfl) _ (by go_wp2_with fail; refine Mix.stays ?_; go_frame; rfl) ?_; go_frame))
        refine Mix.go_turn ?_
        go_wp2_with fail
        refine (HOWN.out nq _).mono ?_
        rintro e x1 ⟨rfl, hF⟩
        have HX1 := Lib.hid (HX0.out.trans' hF)
        clear hF
        go_wp2
        refine Mix.then_go HX1.out ?_
        repeat (first
          | ((with_reducible refine Mix.go_skipS ?_ ?_); (focus (first | exact Mix.wanted_no rfl rfl rfl rfl | exact Mix.wanted_void rfl rfl rfl)); go_frame)
          | ((with_reducible refine Mix.go_skipL ?_ ?_); (focus (first | exact Mix.wanted_no rfl rfl rfl rfl | exact Mix.wanted_void rfl rfl rfl)); go_frame)
          | (refine Mix.go_move (by first | exact Mix.wanted_none rfl | exact Mix.wanted_yes rfl rfl rfl) _ rfl _ (by first | (go_simp; done) | (go_simp; rfl)) ?_; go_frame)
          | (refine Mix.go_assign (by first | exact Mix.wanted_none rfl | exact Mix.wanted_yes rfl rfl rfl) _ rfl _ (by first | (go_simp; done) | (go_simp; rfl)) ?_; go_frame)
          | (refine Mix.go_sure_row (by first | exact Mix.wanted_none rfl | exact Mix.wanted_yes rfl rfl rfl) 24 _ rfl (w.heap.size) rfl 24 _ (0, 0) _ (fun w1 hC1 => hC1.heap HR0.out (fun f => f)) Try.underlying24 rfl (by kernel_rfl) ?_; go_frame)
          | (refine Mix.go_sure_row (by first | exact Mix.wanted_none rfl | exact Mix.wanted_yes rfl rfl rfl) 24 _ rfl (V1.heap.size) rfl 24 _ (0, 0) _ (fun w1 hC1 => hC1.heap HR1.out (fun f => f)) Try.underlying24 rfl (by kernel_rfl) ?_; go_frame)
          | (refine Mix.go_sure_row (by first | exact Mix.wanted_none rfl | exact Mix.wanted_yes rfl rfl rfl) 33 _ rfl (V3.heap.size) rfl 33 _ (0, 0) _ (fun w1 hC1 => hC1.heap HR2.out (fun f => f)) Try.underlying33 rfl (by kernel_rfl) ?_; go_frame)
          | (refine Mix.go_sure_row (by first | exact Mix.wanted_none rfl | exact Mix.wanted_yes rfl rfl rfl) 24 _ rfl (V5.heap.size) rfl 24 _ (0, 0) _ (fun w1 hC1 => hC1.heap HR3.out (fun f => f)) Try.underlying24 rfl (by kernel_rfl) ?_; go_frame)
          | (refine Mix.go_sure_row (by first | exact Mix.wanted_none rfl | exact Mix.wanted_yes rfl rfl rfl) 33 _ rfl (V8.heap.size) rfl 33 _ (0, 0) _ (fun w1 hC1 => hC1.heap HR4.out (fun f => f)) Try.underlying33 rfl (by kernel_rfl) ?_; go_frame)
          | (refine Mix.go_sure_row (by first | exact Mix.wanted_none rfl | exact Mix.wanted_yes rfl rfl rfl) 33 _ rfl (V10.heap.size) rfl 33 _ (0, 0) _ (fun w1 hC1 => hC1.heap HRW.out (fun f => f)) Try.underlying33 rfl (by kernel_rfl) ?_; go_frame)
          | (refine Mix.go_sureW (by first | exact Mix.wanted_none rfl | exact Mix.wanted_yes rfl rfl rfl) _ (by rfl) (by rfl) _ (fun w' hC' => by go_wp2_with fail; refine Mix.stays ?_; go_frame; rfl) ?_; go_frame)
          | (refine Mix.go_lookW (by first | exact Mix.wanted_none rfl | exact Mix.wanted_yes rfl rfl rfl) _ (by rfl) (by rfl) _ (by go_wp2_with fail; refine Mix.stays ?_; go_frame; rfl) ?_; go_frame))
        refine Mix.go_turn ?_
        go_wp2_with fail
        refine (HOWN.out uq _).mono ?_
        rintro e x2 ⟨rfl, hF⟩
        have HX2 := Lib.hid (HX1.out.trans' hF)
        clear hF
        go_wp2
        refine Mix.then_go HX2.out ?_
        repeat (first
          | ((with_reducible refine Mix.go_skipS ?_ ?_); (focus (first | exact Mix.wanted_no rfl rfl rfl rfl | exact Mix.wanted_void rfl rfl rfl)); go_frame)
          | ((with_reducible refine Mix.go_skipL ?_ ?_); (focus (first | exact Mix.wanted_no rfl rfl rfl rfl | exact Mix.wanted_void rfl rfl rfl)); go_frame)
          | (refine Mix.go_move (by first | exact Mix.wanted_none rfl | exact Mix.wanted_yes rfl rfl rfl) _ rfl _ (by first | (go_simp; done) | (go_simp; rfl)) ?_; go_frame)
          | (refine Mix.go_assign (by first | exact Mix.wanted_none rfl | exact Mix.wanted_yes rfl rfl rfl) _ rfl _ (by first | (go_simp; done) | (go_simp; rfl)) ?_; go_frame)
          | (refine Mix.go_sure_row (by first | exact Mix.wanted_none rfl | exact Mix.wanted_yes rfl rfl rfl) 24 _ rfl (w.heap.size) rfl 24 _ (0, 0) _ (fun w1 hC1 => hC1.heap HR0.out (fun f => f)) Try.underlying24 rfl (by kernel_rfl) ?_; go_frame)
          | (refine Mix.go_sure_row (by first | exact Mix.wanted_none rfl | exact Mix.wanted_yes rfl rfl rfl) 24 _ rfl (V1.heap.size) rfl 24 _ (0, 0) _ (fun w1 hC1 => hC1.heap HR1.out (fun f => f)) Try.underlying24 rfl (by kernel_rfl) ?_; go_frame)
          | (refine Mix.go_sure_row (by first | exact Mix.wanted_none rfl | exact Mix.wanted_yes rfl rfl rfl) 33 _ rfl (V3.heap.size) rfl 33 _ (0, 0) _ (fun w1 hC1 => hC1.heap HR2.out (fun f => f)) Try.underlying33 rfl (by kernel_rfl) ?_; go_frame)
          | (refine Mix.go_sure_row (by first | exact Mix.wanted_none rfl | exact Mix.wanted_yes rfl rfl rfl) 24 _ rfl (V5.heap.size) rfl 24 _ (0, 0) _ (fun w1 hC1 => hC1.heap HR3.out (fun f => f)) Try.underlying24 rfl (by kernel_rfl) ?_; go_frame)
          | (refine Mix.go_sure_row (by first | exact Mix.wanted_none rfl | exact Mix.wanted_yes rfl rfl rfl) 33 _ rfl (V8.heap.size) rfl 33 _ (0, 0) _ (fun w1 hC1 => hC1.heap HR4.out (fun f => f)) Try.underlying33 rfl (by kernel_rfl) ?_; go_frame)
          | (refine Mix.go_sure_row (by first | exact Mix.wanted_none rfl | exact Mix.wanted_yes rfl rfl rfl) 33 _ rfl (V10.heap.size) rfl 33 _ (0, 0) _ (fun w1 hC1 => hC1.heap HRW.out (fun f => f)) Try.underlying33 rfl (by kernel_rfl) ?_; go_frame)
          | (refine Mix.go_sureW (by first | exact Mix.wanted_none rfl | exact Mix.wanted_yes rfl rfl rfl) _ (by rfl) (by rfl) _ (fun w' hC' => by go_wp2_with fail; refine Mix.stays ?_; go_frame; rfl) ?_; go_frame)
          | (refine Mix.go_lookW (by first | exact Mix.wanted_none rfl | exact Mix.wanted_yes rfl rfl rfl) _ (by rfl) (by rfl) _ (by go_wp2_with fail; refine Mix.stays ?_; go_frame; rfl) ?_; go_frame))
        refine Mix.go_turn ?_
        go_wp2_with fail
        refine (HSLOT.out _).mono ?_
        rintro e x3 ⟨rfl, hF⟩
        have HX3 := Lib.hid (HX2.out.trans' hF)
        clear hF
        go_wp2
        refine Mix.then_go HX3.out ?_
        repeat (first
          | ((with_reducible refine Mix.go_skipS ?_ ?_); (focus (first | exact Mix.wanted_no rfl rfl rfl rfl | exact Mix.wanted_void rfl rfl rfl)); go_frame)
          | ((with_reducible refine Mix.go_skipL ?_ ?_); (focus (first | exact Mix.wanted_no rfl rfl rfl rfl | exact Mix.wanted_void rfl rfl rfl)); go_frame)
          | (refine Mix.go_move (by first | exact Mix.wanted_none rfl | exact Mix.wanted_yes rfl rfl rfl) _ rfl _ (by first | (go_simp; done) | (go_simp; rfl)) ?_; go_frame)
          | (refine Mix.go_assign (by first | exact Mix.wanted_none rfl | exact Mix.wanted_yes rfl rfl rfl) _ rfl _ (by first | (go_simp; done) | (go_simp; rfl)) ?_; go_frame)
          | (refine Mix.go_sure_row (by first | exact Mix.wanted_none rfl | exact Mix.wanted_yes rfl rfl rfl) 24 _ rfl (w.heap.size) rfl 24 _ (0, 0) _ (fun w1 hC1 => hC1.heap HR0.out (fun f => f)) Try.underlying24 rfl (by kernel_rfl) ?_; go_frame)
          | (refine Mix.go_sure_row (by first | exact Mix.wanted_none rfl | exact Mix.wanted_yes rfl rfl rfl) 24 _ rfl (V1.heap.size) rfl 24 _ (0, 0) _ (fun w1 hC1 => hC1.heap HR1.out (fun f => f)) Try.underlying24 rfl (by kernel_rfl) ?_; go_frame)
          | (refine Mix.go_sure_row (by first | exact Mix.wanted_none rfl | exact Mix.wanted_yes rfl rfl rfl) 33 _ rfl (V3.heap.size) rfl 33 _ (0, 0) _ (fun w1 hC1 => hC1.heap HR2.out (fun f => f)) Try.underlying33 rfl (by kernel_rfl) ?_; go_frame)
          | (refine Mix.go_sure_row (by first | exact Mix.wanted_none rfl | exact Mix.wanted_yes rfl rfl rfl) 24 _ rfl (V5.heap.size) rfl 24 _ (0, 0) _ (fun w1 hC1 => hC1.heap HR3.out (fun f => f)) Try.underlying24 rfl (by kernel_rfl) ?_; go_frame)
          | (refine Mix.go_sure_row (by first | exact Mix.wanted_none rfl | exact Mix.wanted_yes rfl rfl rfl) 33 _ rfl (V8.heap.size) rfl 33 _ (0, 0) _ (fun w1 hC1 => hC1.heap HR4.out (fun f => f)) Try.underlying33 rfl (by kernel_rfl) ?_; go_frame)
          | (refine Mix.go_sure_row (by first | exact Mix.wanted_none rfl | exact Mix.wanted_yes rfl rfl rfl) 33 _ rfl (V10.heap.size) rfl 33 _ (0, 0) _ (fun w1 hC1 => hC1.heap HRW.out (fun f => f)) Try.underlying33 rfl (by kernel_rfl) ?_; go_frame)
          | (refine Mix.go_sureW (by first | exact Mix.wanted_none rfl | exact Mix.wanted_yes rfl rfl rfl) _ (by rfl) (by rfl) _ (fun w' hC' => by go_wp2_with fail; refine Mix.stays ?_; go_frame; rfl) ?_; go_frame)
          | (refine Mix.go_lookW (by first | exact Mix.wanted_none rfl | exact Mix.wanted_yes rfl rfl rfl) _ (by rfl) (by rfl) _ (by go_wp2_with fail; refine Mix.stays ?_; go_frame; rfl) ?_; go_frame))
        refine Mix.go_turn ?_
        go_wp2_with fail
        refine (HOWN.out sq _).mono ?_
        rintro e x4 ⟨rfl, hF⟩
        have HX4 := Lib.hid (HX3.out.trans' hF)
        clear hF
        go_wp2
        refine Mix.then_go HX4.out ?_
        repeat (first
          | ((with_reducible refine Mix.go_skipS ?_ ?_); (focus (first | exact Mix.wanted_no rfl rfl rfl rfl | exact Mix.wanted_void rfl rfl rfl)); go_frame)
          | ((with_reducible refine Mix.go_skipL ?_ ?_); (focus (first | exact Mix.wanted_no rfl rfl rfl rfl | exact Mix.wanted_void rfl rfl rfl)); go_frame)
          | (refine Mix.go_move (by first | exact Mix.wanted_none rfl | exact Mix.wanted_yes rfl rfl rfl) _ rfl _ (by first | (go_simp; done) | (go_simp; rfl)) ?_; go_frame)
          | (refine Mix.go_assign (by first | exact Mix.wanted_none rfl | exact Mix.wanted_yes rfl rfl rfl) _ rfl _ (by first | (go_simp; done) | (go_simp; rfl)) ?_; go_frame)
          | (refine Mix.go_sure_row (by first | exact Mix.wanted_none rfl | exact Mix.wanted_yes rfl rfl rfl) 24 _ rfl (w.heap.size) rfl 24 _ (0, 0) _ (fun w1 hC1 => hC1.heap HR0.out (fun f => f)) Try.underlying24 rfl (by kernel_rfl) ?_; go_frame)
          | (refine Mix.go_sure_row (by first | exact Mix.wanted_none rfl | exact Mix.wanted_yes rfl rfl rfl) 24 _ rfl (V1.heap.size) rfl 24 _ (0, 0) _ (fun w1 hC1 => hC1.heap HR1.out (fun f => f)) Try.underlying24 rfl (by kernel_rfl) ?_; go_frame)
          | (refine Mix.go_sure_row (by first | exact Mix.wanted_none rfl | exact Mix.wanted_yes rfl rfl rfl) 33 _ rfl (V3.heap.size) rfl 33 _ (0, 0) _ (fun w1 hC1 => hC1.heap HR2.out (fun f => f)) Try.underlying33 rfl (by kernel_rfl) ?_; go_frame)
          | (refine Mix.go_sure_row (by first | exact Mix.wanted_none rfl | exact Mix.wanted_yes rfl rfl rfl) 24 _ rfl (V5.heap.size) rfl 24 _ (0, 0) _ (fun w1 hC1 => hC1.heap HR3.out (fun f => f)) Try.underlying24 rfl (by kernel_rfl) ?_; go_frame)
          | (refine Mix.go_sure_row (by first | exact Mix.wanted_none rfl | exact Mix.wanted_yes rfl rfl rfl) 33 _ rfl (V8.heap.size) rfl 33 _ (0, 0) _ (fun w1 hC1 => hC1.heap HR4.out (fun f => f)) Try.underlying33 rfl (by kernel_rfl) ?_; go_frame)
          | (refine Mix.go_sure_row (by first | exact Mix.wanted_none rfl | exact Mix.wanted_yes rfl rfl rfl) 33 _ rfl (V10.heap.size) rfl 33 _ (0, 0) _ (fun w1 hC1 => hC1.heap HRW.out (fun f => f)) Try.underlying33 rfl (by kernel_rfl) ?_; go_frame)
          | (refine Mix.go_sureW (by first | exact Mix.wanted_none rfl | exact Mix.wanted_yes rfl rfl rfl) _ (by rfl) (by rfl) _ (fun w' hC' => by go_wp2_with fail; refine Mix.stays ?_; go_frame; rfl) ?_; go_frame)
          | (refine Mix.go_lookW (by first | exact Mix.wanted_none rfl | exact Mix.wanted_yes rfl rfl rfl) _ (by rfl) (by rfl) _ (by go_wp2_with fail; refine Mix.stays ?_; go_frame; rfl) ?_; go_frame))
        refine Mix.go_turn ?_
        go_wp2_with fail
        refine (HOWN.out q _).mono ?_
        rintro e x5 ⟨rfl, hF⟩
        have HX5 := Lib.hid (HX4.out.trans' hF)
        clear hF
        go_wp2
        refine Mix.then_go HX5.out ?_
        repeat (first
          | ((with_reducible refine Mix.go_skipS ?_ ?_); (focus (first | exact Mix.wanted_no rfl rfl rfl rfl | exact Mix.wanted_void rfl rfl rfl)); go_frame)
          | ((with_reducible refine Mix.go_skipL ?_ ?_); (focus (first | exact Mix.wanted_no rfl rfl rfl rfl | exact Mix.wanted_void rfl rfl rfl)); go_frame)
          | (refine Mix.go_move (by first | exact Mix.wanted_none rfl | exact Mix.wanted_yes rfl rfl rfl) _ rfl _ (by first | (go_simp; done) | (go_simp; rfl)) ?_; go_frame)
          | (refine Mix.go_assign (by first | exact Mix.wanted_none rfl | exact Mix.wanted_yes rfl rfl rfl) _ rfl _ (by first | (go_simp; done) | (go_simp; rfl)) ?_; go_frame)
          | (refine Mix.go_sure_row (by first | exact Mix.wanted_none rfl | exact Mix.wanted_yes rfl rfl rfl) 24 _ rfl (w.heap.size) rfl 24 _ (0, 0) _ (fun w1 hC1 => hC1.heap HR0.out (fun f => f)) Try.underlying24 rfl (by kernel_rfl) ?_; go_frame)
          | (refine Mix.go_sure_row (by first | exact Mix.wanted_none rfl | exact Mix.wanted_yes rfl rfl rfl) 24 _ rfl (V1.heap.size) rfl 24 _ (0, 0) _ (fun w1 hC1 => hC1.heap HR1.out (fun f => f)) Try.underlying24 rfl (by kernel_rfl) ?_; go_frame)
          | (refine Mix.go_sure_row (by first | exact Mix.wanted_none rfl | exact Mix.wanted_yes rfl rfl rfl) 33 _ rfl (V3.heap.size) rfl 33 _ (0, 0) _ (fun w1 hC1 => hC1.heap HR2.out (fun f => f)) Try.underlying33 rfl (by kernel_rfl) ?_; go_frame)
          | (refine Mix.go_sure_row (by first | exact Mix.wanted_none rfl | exact Mix.wanted_yes rfl rfl rfl) 24 _ rfl (V5.heap.size) rfl 24 _ (0, 0) _ (fun w1 hC1 => hC1.heap HR3.out (fun f => f)) Try.underlying24 rfl (by kernel_rfl) ?_; go_frame)
          | (refine Mix.go_sure_row (by first | exact Mix.wanted_none rfl | exact Mix.wanted_yes rfl rfl rfl) 33 _ rfl (V8.heap.size) rfl 33 _ (0, 0) _ (fun w1 hC1 => hC1.heap HR4.out (fun f => f)) Try.underlying33 rfl (by kernel_rfl) ?_; go_frame)
          | (refine Mix.go_sure_row (by first | exact Mix.wanted_none rfl | exact Mix.wanted_yes rfl rfl rfl) 33 _ rfl (V10.heap.size) rfl 33 _ (0, 0) _ (fun w1 hC1 => hC1.heap HRW.out (fun f => f)) Try.underlying33 rfl (by kernel_rfl) ?_; go_frame)
          | (refine Mix.go_sureW (by first | exact Mix.wanted_none rfl | exact Mix.wanted_yes rfl rfl rfl) _ (by rfl) (by rfl) _ (fun w' hC' => by go_wp2_with fail; refine Mix.stays ?_; go_frame; rfl) ?_; go_frame)
          | (refine Mix.go_lookW (by first | exact Mix.wanted_none rfl | exact Mix.wanted_yes rfl rfl rfl) _ (by rfl) (by rfl) _ (by go_wp2_with fail; refine Mix.stays ?_; go_frame; rfl) ?_; go_frame))
        refine Mix.go_turn ?_
        go_wp2_with fail
        refine (HRSL.out _).mono ?_
        rintro e x6 ⟨rfl, hF⟩
        have HX6 := Lib.hid (HX5.out.trans' hF)
        clear hF
        go_wp2
        refine Mix.then_go HX6.out ?_
        repeat (first
          | ((with_reducible refine Mix.go_skipS ?_ ?_); (focus (first | exact Mix.wanted_no rfl rfl rfl rfl | exact Mix.wanted_void rfl rfl rfl)); go_frame)
          | ((with_reducible refine Mix.go_skipL ?_ ?_); (focus (first | exact Mix.wanted_no rfl rfl rfl rfl | exact Mix.wanted_void rfl rfl rfl)); go_frame)
          | (refine Mix.go_move (by first | exact Mix.wanted_none rfl | exact Mix.wanted_yes rfl rfl rfl) _ rfl _ (by first | (go_simp; done) | (go_simp; rfl)) ?_; go_frame)
          | (refine Mix.go_assign (by first | exact Mix.wanted_none rfl | exact Mix.wanted_yes rfl rfl rfl) _ rfl _ (by first | (go_simp; done) | (go_simp; rfl)) ?_; go_frame)
          | (refine Mix.go_sure_row (by first | exact Mix.wanted_none rfl | exact Mix.wanted_yes rfl rfl rfl) 24 _ rfl (w.heap.size) rfl 24 _ (0, 0) _ (fun w1 hC1 => hC1.heap HR0.out (fun f => f)) Try.underlying24 rfl (by kernel_rfl) ?_; go_frame)
          | (refine Mix.go_sure_row (by first | exact Mix.wanted_none rfl | exact Mix.wanted_yes rfl rfl rfl) 24 _ rfl (V1.heap.size) rfl 24 _ (0, 0) _ (fun w1 hC1 => hC1.heap HR1.out (fun f => f)) Try.underlying24 rfl (by kernel_rfl) ?_; go_frame)
          | (refine Mix.go_sure_row (by first | exact Mix.wanted_none rfl | exact Mix.wanted_yes rfl rfl rfl) 33 _ rfl (V3.heap.size) rfl 33 _ (0, 0) _ (fun w1 hC1 => hC1.heap HR2.out (fun f => f)) Try.underlying33 rfl (by kernel_rfl) ?_; go_frame)
          | (refine Mix.go_sure_row (by first | exact Mix.wanted_none rfl | exact Mix.wanted_yes rfl rfl rfl) 24 _ rfl (V5.heap.size) rfl 24 _ (0, 0) _ (fun w1 hC1 => hC1.heap HR3.out (fun f => f)) Try.underlying24 rfl (by kernel_rfl) ?_; go_frame)
          | (refine Mix.go_sure_row (by first | exact Mix.wanted_none rfl | exact Mix.wanted_yes rfl rfl rfl) 33 _ rfl (V8.heap.size) rfl 33 _ (0, 0) _ (fun w1 hC1 => hC1.heap HR4.out (fun f => f)) Try.underlying33 rfl (by kernel_rfl) ?_; go_frame)
          | (refine Mix.go_sure_row (by first | exact Mix.wanted_none rfl | exact Mix.wanted_yes rfl rfl rfl) 33 _ rfl (V10.heap.size) rfl 33 _ (0, 0) _ (fun w1 hC1 => hC1.heap HRW.out (fun f => f)) Try.underlying33 rfl (by kernel_rfl) ?_; go_frame)
          | (refine Mix.go_sureW (by first | exact Mix.wanted_none rfl | exact Mix.wanted_yes rfl rfl rfl) _ (by rfl) (by rfl) _ (fun w' hC' => by go_wp2_with fail; refine Mix.stays ?_; go_frame; rfl) ?_; go_frame)
          | (refine Mix.go_lookW (by first | exact Mix.wanted_none rfl | exact Mix.wanted_yes rfl rfl rfl) _ (by rfl) (by rfl) _ (by go_wp2_with fail; refine Mix.stays ?_; go_frame; rfl) ?_; go_frame))
        refine Mix.go_turn ?_
        go_wp2_with fail
        refine (HSLOTS.out _).mono ?_
        rintro e x7 ⟨rfl, hF⟩
        have HX7 := Lib.hid (HX6.out.trans' hF)
        clear hF
        go_wp2
        refine Mix.then_go HX7.out ?_
        repeat (first
          | ((with_reducible refine Mix.go_skipS ?_ ?_); (focus (first | exact Mix.wanted_no rfl rfl rfl rfl | exact Mix.wanted_void rfl rfl rfl)); go_frame)
          | ((with_reducible refine Mix.go_skipL ?_ ?_); (focus (first | exact Mix.wanted_no rfl rfl rfl rfl | exact Mix.wanted_void rfl rfl rfl)); go_frame)
          | (refine Mix.go_move (by first | exact Mix.wanted_none rfl | exact Mix.wanted_yes rfl rfl rfl) _ rfl _ (by first | (go_simp; done) | (go_simp; rfl)) ?_; go_frame)
          | (refine Mix.go_assign (by first | exact Mix.wanted_none rfl | exact Mix.wanted_yes rfl rfl rfl) _ rfl _ (by first | (go_simp; done) | (go_simp; rfl)) ?_; go_frame)
          | (refine Mix.go_sure_row (by first | exact Mix.wanted_none rfl | exact Mix.wanted_yes rfl rfl rfl) 24 _ rfl (w.heap.size) rfl 24 _ (0, 0) _ (fun w1 hC1 => hC1.heap HR0.out (fun f => f)) Try.underlying24 rfl (by kernel_rfl) ?_; go_frame)
          | (refine Mix.go_sure_row (by first | exact Mix.wanted_none rfl | exact Mix.wanted_yes rfl rfl rfl) 24 _ rfl (V1.heap.size) rfl 24 _ (0, 0) _ (fun w1 hC1 => hC1.heap HR1.out (fun f => f)) Try.underlying24 rfl (by kernel_rfl) ?_; go_frame)
          | (refine Mix.go_sure_row (by first | exact Mix.wanted_none rfl | exact Mix.wanted_yes rfl rfl rfl) 33 _ rfl (V3.heap.size) rfl 33 _ (0, 0) _ (fun w1 hC1 => hC1.heap HR2.out (fun f => f)) Try.underlying33 rfl (by kernel_rfl) ?_; go_frame)
          | (refine Mix.go_sure_row (by first | exact Mix.wanted_none rfl | exact Mix.wanted_yes rfl rfl rfl) 24 _ rfl (V5.heap.size) rfl 24 _ (0, 0) _ (fun w1 hC1 => hC1.heap HR3.out (fun f => f)) Try.underlying24 rfl (by kernel_rfl) ?_; go_frame)
          | (refine Mix.go_sure_row (by first | exact Mix.wanted_none rfl | exact Mix.wanted_yes rfl rfl rfl) 33 _ rfl (V8.heap.size) rfl 33 _ (0, 0) _ (fun w1 hC1 => hC1.heap HR4.out (fun f => f)) Try.underlying33 rfl (by kernel_rfl) ?_; go_frame)
          | (refine Mix.go_sure_row (by first | exact Mix.wanted_none rfl | exact Mix.wanted_yes rfl rfl rfl) 33 _ rfl (V10.heap.size) rfl 33 _ (0, 0) _ (fun w1 hC1 => hC1.heap HRW.out (fun f => f)) Try.underlying33 rfl (by kernel_rfl) ?_; go_frame)
          | (refine Mix.go_sureW (by first | exact Mix.wanted_none rfl | exact Mix.wanted_yes rfl rfl rfl) _ (by rfl) (by rfl) _ (fun w' hC' => by go_wp2_with fail; refine Mix.stays ?_; go_frame; rfl) ?_; go_frame)
          | (refine Mix.go_lookW (by first | exact Mix.wanted_none rfl | exact Mix.wanted_yes rfl rfl rfl) _ (by rfl) (by rfl) _ (by go_wp2_with fail; refine Mix.stays ?_; go_frame; rfl) ?_; go_frame))
        refine Mix.go_turn ?_
        go_wp2_with fail
        refine (HOWN.out zq _).mono ?_
        rintro e x8 ⟨rfl, hF⟩
        have HX8 := Lib.hid (HX7.out.trans' hF)
        clear hF
        go_wp2
        refine Mix.then_go HX8.out ?_
        repeat (first
          | ((with_reducible refine Mix.go_skipS ?_ ?_); (focus (first | exact Mix.wanted_no rfl rfl rfl rfl | exact Mix.wanted_void rfl rfl rfl)); go_frame)
          | ((with_reducible refine Mix.go_skipL ?_ ?_); (focus (first | exact Mix.wanted_no rfl rfl rfl rfl | exact Mix.wanted_void rfl rfl rfl)); go_frame)
          | (refine Mix.go_move (by first | exact Mix.wanted_none rfl | exact Mix.wanted_yes rfl rfl rfl) _ rfl _ (by first | (go_simp; done) | (go_simp; rfl)) ?_; go_frame)
          | (refine Mix.go_assign (by first | exact Mix.wanted_none rfl | exact Mix.wanted_yes rfl rfl rfl) _ rfl _ (by first | (go_simp; done) | (go_simp; rfl)) ?_; go_frame)
          | (refine Mix.go_sure_row (by first | exact Mix.wanted_none rfl | exact Mix.wanted_yes rfl rfl rfl) 24 _ rfl (w.heap.size) rfl 24 _ (0, 0) _ (fun w1 hC1 => hC1.heap HR0.out (fun f => f)) Try.underlying24 rfl (by kernel_rfl) ?_; go_frame)
          | (refine Mix.go_sure_row (by first | exact Mix.wanted_none rfl | exact Mix.wanted_yes rfl rfl rfl) 24 _ rfl (V1.heap.size) rfl 24 _ (0, 0) _ (fun w1 hC1 => hC1.heap HR1.out (fun f => f)) Try.underlying24 rfl (by kernel_rfl) ?_; go_frame)
          | (refine Mix.go_sure_row (by first | exact Mix.wanted_none rfl | exact Mix.wanted_yes rfl rfl rfl) 33 _ rfl (V3.heap.size) rfl 33 _ (0, 0) _ (fun w1 hC1 => hC1.heap HR2.out (fun f => f)) Try.underlying33 rfl (by kernel_rfl) ?_; go_frame)
          | (refine Mix.go_sure_row (by first | exact Mix.wanted_none rfl | exact Mix.wanted_yes rfl rfl rfl) 24 _ rfl (V5.heap.size) rfl 24 _ (0, 0) _ (fun w1 hC1 => hC1.heap HR3.out (fun f => f)) Try.underlying24 rfl (by kernel_rfl) ?_; go_frame)
          | (refine Mix.go_sure_row (by first | exact Mix.wanted_none rfl | exact Mix.wanted_yes rfl rfl rfl) 33 _ rfl (V8.heap.size) rfl 33 _ (0, 0) _ (fun w1 hC1 => hC1.heap HR4.out (fun f => f)) Try.underlying33 rfl (by kernel_rfl) ?_; go_frame)
          | (refine Mix.go_sure_row (by first | exact Mix.wanted_none rfl | exact Mix.wanted_yes rfl rfl rfl) 33 _ rfl (V10.heap.size) rfl 33 _ (0, 0) _ (fun w1 hC1 => hC1.heap HRW.out (fun f => f)) Try.underlying33 rfl (by kernel_rfl) ?_; go_frame)
          | (refine Mix.go_sureW (by first | exact Mix.wanted_none rfl | exact Mix.wanted_yes rfl rfl rfl) _ (by rfl) (by rfl) _ (fun w' hC' => by go_wp2_with fail; refine Mix.stays ?_; go_frame; rfl) ?_; go_frame)
          | (refine Mix.go_lookW (by first | exact Mix.wanted_none rfl | exact Mix.wanted_yes rfl rfl rfl) _ (by rfl) (by rfl) _ (by go_wp2_with fail; refine Mix.stays ?_; go_frame; rfl) ?_; go_frame))
        refine Mix.go_turn ?_
        go_wp2_with fail
        refine (HGOOD.out _).mono ?_
        rintro e x9 ⟨rfl, hF⟩
        have HX9 := Lib.hid (HX8.out.trans' hF)
        clear hF
        go_wp2
        refine Mix.then_go HX9.out ?_
        repeat (first
          | ((with_reducible refine Mix.go_skipS ?_ ?_); (focus (first | exact Mix.wanted_no rfl rfl rfl rfl | exact Mix.wanted_void rfl rfl rfl)); go_frame)
          | ((with_reducible refine Mix.go_skipL ?_ ?_); (focus (first | exact Mix.wanted_no rfl rfl rfl rfl | exact Mix.wanted_void rfl rfl rfl)); go_frame)
          | (refine Mix.go_move (by first | exact Mix.wanted_none rfl | exact Mix.wanted_yes rfl rfl rfl) _ rfl _ (by first | (go_simp; done) | (go_simp; rfl)) ?_; go_frame)
          | (refine Mix.go_assign (by first | exact Mix.wanted_none rfl | exact Mix.wanted_yes rfl rfl rfl) _ rfl _ (by first | (go_simp; done) | (go_simp; rfl)) ?_; go_frame)
          | (refine Mix.go_sure_row (by first | exact Mix.wanted_none rfl | exact Mix.wanted_yes rfl rfl rfl) 24 _ rfl (w.heap.size) rfl 24 _ (0, 0) _ (fun w1 hC1 => hC1.heap HR0.out (fun f => f)) Try.underlying24 rfl (by kernel_rfl) ?_; go_frame)
          | (refine Mix.go_sure_row (by first | exact Mix.wanted_none rfl | exact Mix.wanted_yes rfl rfl rfl) 24 _ rfl (V1.heap.size) rfl 24 _ (0, 0) _ (fun w1 hC1 => hC1.heap HR1.out (fun f => f)) Try.underlying24 rfl (by kernel_rfl) ?_; go_frame)
          | (refine Mix.go_sure_row (by first | exact Mix.wanted_none rfl | exact Mix.wanted_yes rfl rfl rfl) 33 _ rfl (V3.heap.size) rfl 33 _ (0, 0) _ (fun w1 hC1 => hC1.heap HR2.out (fun f => f)) Try.underlying33 rfl (by kernel_rfl) ?_; go_frame)
          | (refine Mix.go_sure_row (by first | exact Mix.wanted_none rfl | exact Mix.wanted_yes rfl rfl rfl) 24 _ rfl (V5.heap.size) rfl 24 _ (0, 0) _ (fun w1 hC1 => hC1.heap HR3.out (fun f => f)) Try.underlying24 rfl (by kernel_rfl) ?_; go_frame)
          | (refine Mix.go_sure_row (by first | exact Mix.wanted_none rfl | exact Mix.wanted_yes rfl rfl rfl) 33 _ rfl (V8.heap.size) rfl 33 _ (0, 0) _ (fun w1 hC1 => hC1.heap HR4.out (fun f => f)) Try.underlying33 rfl (by kernel_rfl) ?_; go_frame)
          | (refine Mix.go_sure_row (by first | exact Mix.wanted_none rfl | exact Mix.wanted_yes rfl rfl rfl) 33 _ rfl (V10.heap.size) rfl 33 _ (0, 0) _ (fun w1 hC1 => hC1.heap HRW.out (fun f => f)) Try.underlying33 rfl (by kernel_rfl) ?_; go_frame)
          | (refine Mix.go_sureW (by first | exact Mix.wanted_none rfl | exact Mix.wanted_yes rfl rfl rfl) _ (by rfl) (by rfl) _ (fun w' hC' => by go_wp2_with fail; refine Mix.stays ?_; go_frame; rfl) ?_; go_frame)
          | (refine Mix.go_lookW (by first | exact Mix.wanted_none rfl | exact Mix.wanted_yes rfl rfl rfl) _ (by rfl) (by rfl) _ (by go_wp2_with fail; refine Mix.stays ?_; go_frame; rfl) ?_; go_frame))
        refine Mix.go_turn ?_
        go_wp2_with fail
        refine (HOWN.out q _).mono ?_
        rintro e x10 ⟨rfl, hF⟩
        have HX10 := Lib.hid (HX9.out.trans' hF)
        clear hF
        go_wp2
        refine Mix.then_go HX10.out ?_
        repeat (first
          | ((with_reducible refine Mix.go_skipS ?_ ?_); (focus (first | exact Mix.wanted_no rfl rfl rfl rfl | exact Mix.wanted_void rfl rfl rfl)); go_frame)
          | ((with_reducible refine Mix.go_skipL ?_ ?_); (focus (first | exact Mix.wanted_no rfl rfl rfl rfl | exact Mix.wanted_void rfl rfl rfl)); go_frame)
          | (refine Mix.go_move (by first | exact Mix.wanted_none rfl | exact Mix.wanted_yes rfl rfl rfl) _ rfl _ (by first | (go_simp; done) | (go_simp; rfl)) ?_; go_frame)
          | (refine Mix.go_assign (by first | exact Mix.wanted_none rfl | exact Mix.wanted_yes rfl rfl rfl) _ rfl _ (by first | (go_simp; done) | (go_simp; rfl)) ?_; go_frame)
          | (refine Mix.go_sure_row (by first | exact Mix.wanted_none rfl | exact Mix.wanted_yes rfl rfl rfl) 24 _ rfl (w.heap.size) rfl 24 _ (0, 0) _ (fun w1 hC1 => hC1.heap HR0.out (fun f => f)) Try.underlying24 rfl (by kernel_rfl) ?_; go_frame)
          | (refine Mix.go_sure_row (by first | exact Mix.wanted_none rfl | exact Mix.wanted_yes rfl rfl rfl) 24 _ rfl (V1.heap.size) rfl 24 _ (0, 0) _ (fun w1 hC1 => hC1.heap HR1.out (fun f => f)) Try.underlying24 rfl (by kernel_rfl) ?_; go_frame)
          | (refine Mix.go_sure_row (by first | exact Mix.wanted_none rfl | exact Mix.wanted_yes rfl rfl rfl) 33 _ rfl (V3.heap.size) rfl 33 _ (0, 0) _ (fun w1 hC1 => hC1.heap HR2.out (fun f => f)) Try.underlying33 rfl (by kernel_rfl) ?_; go_frame)
          | (refine Mix.go_sure_row (by first | exact Mix.wanted_none rfl | exact Mix.wanted_yes rfl rfl rfl) 24 _ rfl (V5.heap.size) rfl 24 _ (0, 0) _ (fun w1 hC1 => hC1.heap HR3.out (fun f => f)) Try.underlying24 rfl (by kernel_rfl) ?_; go_frame)
          | (refine Mix.go_sure_row (by first | exact Mix.wanted_none rfl | exact Mix.wanted_yes rfl rfl rfl) 33 _ rfl (V8.heap.size) rfl 33 _ (0, 0) _ (fun w1 hC1 => hC1.heap HR4.out (fun f => f)) Try.underlying33 rfl (by kernel_rfl) ?_; go_frame)
          | (refine Mix.go_sure_row (by first | exact Mix.wanted_none rfl | exact Mix.wanted_yes rfl rfl rfl) 33 _ rfl (V10.heap.size) rfl 33 _ (0, 0) _ (fun w1 hC1 => hC1.heap HRW.out (fun f => f)) Try.underlying33 rfl (by kernel_rfl) ?_; go_frame)
          | (refine Mix.go_sureW (by first | exact Mix.wanted_none rfl | exact Mix.wanted_yes rfl rfl rfl) _ (by rfl) (by rfl) _ (fun w' hC' => by go_wp2_with fail; refine Mix.stays ?_; go_frame; rfl) ?_; go_frame)
          | (refine Mix.go_lookW (by first | exact Mix.wanted_none rfl | exact Mix.wanted_yes rfl rfl rfl) _ (by rfl) (by rfl) _ (by go_wp2_with fail; refine Mix.stays ?_; go_frame; rfl) ?_; go_frame))
        refine Mix.go_turn ?_
        go_wp2_with fail
        refine (HRGOOD.out _).mono ?_
        rintro e x11 ⟨rfl, hF⟩
        have HX11 := Lib.hid (HX10.out.trans' hF)
        clear hF
        go_wp2
        refine Mix.then_go HX11.out ?_
        repeat (first
          | ((with_reducible refine Mix.go_skipS ?_ ?_); (focus (first | exact Mix.wanted_no rfl rfl rfl rfl | exact Mix.wanted_void rfl rfl rfl)); go_frame)
          | ((with_reducible refine Mix.go_skipL ?_ ?_); (focus (first | exact Mix.wanted_no rfl rfl rfl rfl | exact Mix.wanted_void rfl rfl rfl)); go_frame)
          | (refine Mix.go_move (by first | exact Mix.wanted_none rfl | exact Mix.wanted_yes rfl rfl rfl) _ rfl _ (by first | (go_simp; done) | (go_simp; rfl)) ?_; go_frame)
          | (refine Mix.go_assign (by first | exact Mix.wanted_none rfl | exact Mix.wanted_yes rfl rfl rfl) _ rfl _ (by first | (go_simp; done) | (go_simp; rfl)) ?_; go_frame)
          | (refine Mix.go_sure_row (by first | exact Mix.wanted_none rfl | exact Mix.wanted_yes rfl rfl rfl) 24 _ rfl (w.heap.size) rfl 24 _ (0, 0) _ (fun w1 hC1 => hC1.heap HR0.out (fun f => f)) Try.underlying24 rfl (by kernel_rfl) ?_; go_frame)
          | (refine Mix.go_sure_row (by first | exact Mix.wanted_none rfl | exact Mix.wanted_yes rfl rfl rfl) 24 _ rfl (V1.heap.size) rfl 24 _ (0, 0) _ (fun w1 hC1 => hC1.heap HR1.out (fun f => f)) Try.underlying24 rfl (by kernel_rfl) ?_; go_frame)
          | (refine Mix.go_sure_row (by first | exact Mix.wanted_none rfl | exact Mix.wanted_yes rfl rfl rfl) 33 _ rfl (V3.heap.size) rfl 33 _ (0, 0) _ (fun w1 hC1 => hC1.heap HR2.out (fun f => f)) Try.underlying33 rfl (by kernel_rfl) ?_; go_frame)
          | (refine Mix.go_sure_row (by first | exact Mix.wanted_none rfl | exact Mix.wanted_yes rfl rfl rfl) 24 _ rfl (V5.heap.size) rfl 24 _ (0, 0) _ (fun w1 hC1 => hC1.heap HR3.out (fun f => f)) Try.underlying24 rfl (by kernel_rfl) ?_; go_frame)
          | (refine Mix.go_sure_row (by first | exact Mix.wanted_none rfl | exact Mix.wanted_yes rfl rfl rfl) 33 _ rfl (V8.heap.size) rfl 33 _ (0, 0) _ (fun w1 hC1 => hC1.heap HR4.out (fun f => f)) Try.underlying33 rfl (by kernel_rfl) ?_; go_frame)
          | (refine Mix.go_sure_row (by first | exact Mix.wanted_none rfl | exact Mix.wanted_yes rfl rfl rfl) 33 _ rfl (V10.heap.size) rfl 33 _ (0, 0) _ (fun w1 hC1 => hC1.heap HRW.out (fun f => f)) Try.underlying33 rfl (by kernel_rfl) ?_; go_frame)
          | (refine Mix.go_sureW (by first | exact Mix.wanted_none rfl | exact Mix.wanted_yes rfl rfl rfl) _ (by rfl) (by rfl) _ (fun w' hC' => by go_wp2_with fail; refine Mix.stays ?_; go_frame; rfl) ?_; go_frame)
          | (refine Mix.go_lookW (by first | exact Mix.wanted_none rfl | exact Mix.wanted_yes rfl rfl rfl) _ (by rfl) (by rfl) _ (by go_wp2_with fail; refine Mix.stays ?_; go_frame; rfl) ?_; go_frame))
        refine Mix.go_end ?_
        go_wp2
        go_ret
        exact ⟨rfl, HFr.out.trans' HX11.out⟩
end Go.Proofs.Ytpdmglmhbdjcmaa.QuotaL
