/-
  BlocksPlays: any calls: which are given out is as the document says: the walk.
-/
import Derived.Test.YtagniipldmagdaaBlkPlaysR
import Derived.Test.YtagniipldmagdaaLawI
import Derived.Shelf.RegionOpenPlain
namespace Go.Proofs.Ytagniipldmagdaa.Blocks
open Go.RowKit Base Arena Pw

theorem fr0_of_two {w0 w w' : World} {g h : Nat} (hf : Fr0 w0 w) (hg : Fr (fun k => k = g ∨ k = h) w w') (h1 : w0.heap.size ≤ g) (h2 : w0.heap.size ≤ h) : Fr0 w0 w' := hf.trans hg (fun i hi e => by rcases e with e | e <;> omega)
set_option maxHeartbeats 16000000 in
set_option maxRecDepth 100000 in
theorem blocksPlays_walk (bytes : Int) (v1 : Value) (Q : List Trio) (hb : I64 bytes) (hQ : Q.length ≤ 9223372036854775807) (hqb : ∀ q ∈ Q, I64 q.1 ∧ I64 q.2.1 ∧ q.2.2.length ≤ 9223372036854775807 ∧ ∀ n ∈ q.2.2, I64 n) (w : World) (hI : TriosIs w v1 Q) :
    Calls Try.prog 4 #[.int .i64 bytes, v1] w fun e w' => e = .returned (.bool true) ∧ Fr0 w w' := by
  have HQB := Lib.hid hqb
  obtain ⟨a2, cap2, xb, xo, rfl, hcap2, ha2, hc2⟩ := hI
  have HA2 := Lib.hid ha2
  have HC2 := Lib.hid hc2
  clear ha2 hc2 hqb hcap2
  by_cases hbad : 100 < Q.length ∨ 4000 < bytes
  · have HX := Lib.hid hbad
    clear hbad
    go_enter Try.func4, Try.ntmps4
    go_wp2_with fail
    refine (awake_any w).mono ?_
    rintro e w1 ⟨rfl, hF1⟩
    have HF1 := Lib.hid hF1
    clear hF1
    by_cases h1 : 100 < Q.length
    · go_wp2
      go_ret
      exact ⟨rfl, HF1.out⟩
    · have h2 : 4000 < bytes := by have := HX.out; omega
      go_wp2
      go_ret
      exact ⟨rfl, HF1.out⟩
  · have h100 : ¬ 100 < Q.length := by omega
    have h4000 : ¬ 4000 < bytes := by omega
    clear hbad
    go_enter Try.func4, Try.ntmps4
    go_wp2_with fail
    refine (awake_any w).mono ?_
    rintro e w1 ⟨rfl, hF1⟩
    have HF1 := Lib.hid hF1
    clear hF1
    go_wp2_with fail
    refine (new_any bytes hb w1).mono ?_
    rintro e w2 ⟨g, ob0, rfl, hB, hf⟩
    obtain ⟨O0, hO0⟩ : ∃ O0, List.replicate (whole bytes) false = O0 := ⟨_, rfl⟩
    have HO0 := Lib.hid hO0
    rw [hO0] at hB
    have HB2 : Hid (BlkP w2 w.heap.size g ob0 O0) := Lib.hid (hB.base HF1.out.size)
    have HF2 : Hid (Fr0 w w2) := Lib.hid (HF1.out.trans' hf)
    clear hB hf HF1 hO0
    go_wp2_with fail
    refine (refNew_any bytes hb w2).mono ?_
    rintro e w3 ⟨h, qb, rfl, hR, hf⟩
    rw [HO0.out] at hR
    have HR3 : Hid (BlkR w3 w.heap.size h qb O0) := Lib.hid (hR.base HF2.out.size)
    have HB3 : Hid (BlkP w3 w.heap.size g ob0 O0) := Lib.hid (HB2.out.fr0 hf)
    have HF3 : Hid (Fr0 w w3) := Lib.hid (HF2.out.trans' hf)
    have HNE : Hid ((h ≠ g ∧ qb ≠ g) ∧ (ob0 ≠ h ∧ ob0 ≠ qb)) := Lib.hid (by
      have h1 := HB2.out.g_lt
      have h2 := HB2.out.ob_lt
      have h3 := hR.gB
      have h4 := hR.oB
      omega)
    have HGB : Hid (w.heap.size ≤ g ∧ w.heap.size ≤ qb) := Lib.hid ⟨HB2.out.gB, HR3.out.oB⟩
    have HN1 : Hid (h ≠ g ∧ qb ≠ g) := Lib.hid HNE.out.1
    clear hR hf HB2 HF2 HO0
    go_wp2
    go_loopg [7] Q.length (fun kx i wr => ∃ (k ob : Nat) (O : List Bool), i = .int .i64 k ∧ k ≤ Q.length ∧ Q.length - k ≤ kx ∧ Hid (BlkP wr w.heap.size g ob O) ∧ Hid (BlkR wr w.heap.size h qb O) ∧ Hid (ob ≠ h ∧ ob ≠ qb) ∧ Hid (Fr0 w wr))
    case atStart => exact ⟨0, ob0, O0, rfl, Nat.zero_le _, by omega, HB3, HR3, Lib.hid HNE.out.2, HF3⟩
    case round =>
      clear HB3 HR3 HF3 HNE
      obtain ⟨k, ob, O, rfl, hk, hg, HB, HR, HN2, HF⟩ := hrel
      by_cases hlt : k < Q.length
      · obtain ⟨t, ht⟩ : ∃ t, Q[k]? = some t := ⟨_, List.getElem?_eq_getElem hlt⟩
        obtain ⟨t0, t1, t2, t3⟩ := HQB.out t (List.mem_of_getElem? ht)
        obtain rfl := HA2.out (by omega)
        obtain ⟨q0, q1, pv, q2, qB⟩ := HC2.out k t ht
        obtain ⟨op, N, L⟩ := t
        simp only at q0 q1 q2 qB t0 t1 t2 t3
        have HL := Lib.hid qB
        have HT3 := Lib.hid t3
        obtain ⟨A, C, pa, po, rfl, _⟩ := qB
        have HCEL : Hid (∀ W, Fr0 w W → W.cell? ⟨xb, xo + k * 3, none⟩ = some (.int .i64 op) ∧ W.cell? ⟨xb, xo + k * 3 + 1, none⟩ = some (.int .i64 N) ∧ W.cell? ⟨xb, xo + k * 3 + 2, none⟩ = some (.slice A L.length C)) := Lib.hid (fun W hW =>
          ⟨(hW.cell (p := ⟨xb, xo + k * 3, none⟩) (World.block_lt_of_cell? w _ q0) (fun f => f)).trans q0, (hW.cell (p := ⟨xb, xo + k * 3 + 1, none⟩) (World.block_lt_of_cell? w _ q1) (fun f => f)).trans q1, (hW.cell (p := ⟨xb, xo + k * 3 + 2, none⟩) (World.block_lt_of_cell? w _ q2) (fun f => f)).trans q2⟩)
        obtain ⟨k0, k1, k2⟩ := HCEL.out wr HF.out
        have hi1 : (k : Int) < (Q.length : Int) := by omega
        have hi2 : 0 ≤ (k : Int) := by omega
        clear ht q0 q1 q2 t3
        by_cases h50 : 50 < L.length
        · go_wp2
          go_ret
          exact ⟨rfl, HF.out⟩
        · by_cases hop : op = 1
          · subst hop
            go_wp2
            obtain ⟨O2, hO2⟩ : ∃ O2, gave O L = O2 := ⟨_, rfl⟩
            obtain ⟨ec, hec⟩ : ∃ ec, gerr O L = ec := ⟨_, rfl⟩
            have hIL : ∀ W, Fr (fun k => k = g ∨ k = qb) wr.drew W → IntsIs W (.slice A L.length C) L := fun W hW => HL.out.fr0 (fr0_of_two HF.out.drew hW HGB.out.1 HGB.out.2)
            refine pg_region (B := w.heap.size) (g := g) (ob := ob) (h := h) (qb := qb) (O := O) (O2 := O2) (V := .slice A L.length C) (ec := ec) (pb := xb) (po := xo) (n1 := Q.length) (c1 := cap2) (i := k)
              ⟨rfl, rfl, rfl, rfl, rfl, hi1, hi2, by omega, HN1.out, HN2.out, fun W hW => (HCEL.out W (fr0_of_two HF.out.drew hW HGB.out.1 HGB.out.2)).2.2,
                fun W hW hP => by rw [← hO2, ← hec]; exact give_any _ g ob O _ L t2 HT3.out W hP (hIL W hW),
                fun W hW hP => by
                  rw [← hO2, ← hec]
                  refine refGive_any _ h qb O _ L t2 HT3.out W hP (hIL W hW) (fun a n c hL0 hv e => ?_)
                  cases hv
                  obtain ⟨_, _, p', o', hv, _, h2, h3⟩ := HL.out
                  simp only [Value.slice.injEq] at hv
                  obtain ⟨rfl, _, _⟩ := hv
                  have h4 := h2 hL0
                  have h5 := World.block_lt_of_cell? w _ (h3 0 hL0)
                  have h6 := HGB.out.2
                  simp only [Option.some.injEq] at h4
                  subst h4
                  simp only at h5 e
                  omega⟩
              ⟨HB.out.fr0 (Fr.refl _ _).drew, HR.out.fr0 (Fr.refl _ _).drew⟩ ?_
            intro vals w8 hG8 hJ8 hv
            obtain ⟨⟨q, hq, hq1, hq2⟩, hr⟩ := hJ8
            have HBz := Lib.hid hq
            have HRz := Lib.hid hr
            have HNz : Hid (q ≠ h ∧ q ≠ qb) := Lib.hid ⟨hq1, hq2⟩
            have HFz := Lib.hid (fr0_of_two HF.out hG8.fr HGB.out.1 HGB.out.2)
            have h58 : vals 58 = .bool false := hv 58 (List.contains_iff_mem.1 (by kernel_rfl))
            clear hv hG8 hq hq1 hq2 hr hIL hO2 hec HB HR HF HN2 k0 k1 k2
            rw [show dsts pgOps = [44, 45, 46, 47, 48, 49, 50, 51, 52, 53, 54, 55, 56, 57, 58] by kernel_rfl]
            simp only [frm, List.mapIdx_toArray, List.mapIdx_cons, List.mapIdx_nil, Nat.zero_add, Nat.reduceAdd, List.contains_cons, List.contains_nil, Nat.reduceBEq, Bool.or_false, Bool.false_or, Bool.or_true, Bool.true_or, Bool.or_self, Bool.false_eq_true, if_true, if_false, h58]
            clear h58
            go_wp2
            obtain ⟨C9, hC9, c9⟩ := HRz.out.cell0
            have hln : (nints (outs O2)).length ≤ 9223372036854775807 := by rw [nints_length]; have := outs_length O2; have := HBz.out.len; omega
            have hlb : ∀ n ∈ nints (outs O2), -9223372036854775808 ≤ n ∧ n ≤ 9223372036854775807 := fun n hn => by
              obtain ⟨y, hy, rfl⟩ := nints_mem.1 hn
              have h4 := (outs_mem.1 hy).1
              have := HBz.out.len
              omega
            refine pq_region (B := w.heap.size) (g := g) (ob := q) (h := h) (qb := qb) (O := O2) (C := C9)
              ⟨rfl, rfl, rfl, hln, hlb, fun W hW => (hW.cell (p := ⟨h, 0, none⟩) HRz.out.g_lt (fun f => f)).trans c9⟩
              ⟨HBz.out.fr0 (Fr.refl _ _).drew, HRz.out.fr0 (Fr.refl _ _).drew⟩ ?_
            intro vals9 w9 hG9 hJ9 hv9
            have HB9 := Lib.hid hJ9.1
            have HR9 := Lib.hid hJ9.2
            have HF9 : Hid (Fr0 w w9) := Lib.hid (HFz.out.trans' hG9.fr)
            have h110 : vals9 110 = .bool false := hv9 110 (List.contains_iff_mem.1 (by kernel_rfl))
            clear hv9 hG9 hJ9 HBz HRz HFz c9 hln hlb
            rw [show dsts pqOps = [88, 89, 90, 91, 92, 93, 94, 95, 96, 97, 98, 99, 100, 101, 102, 103, 104, 105, 106, 107, 108, 109, 110] by kernel_rfl]
            simp only [frm, List.mapIdx_toArray, List.mapIdx_cons, List.mapIdx_nil, Nat.zero_add, Nat.reduceAdd, List.contains_cons, List.contains_nil, Nat.reduceBEq, Bool.or_false, Bool.false_or, Bool.or_true, Bool.true_or, Bool.or_self, Bool.false_eq_true, if_true, if_false, h110]
            clear h110
            go_wp2
            go_roundg (Q.length - (k + 1))
            case measure => omega
            case rel => exact ⟨k + 1, q, O2, by simp, by omega, by omega, HB9, HR9, HNz, HF9⟩
          · go_wp2_with fail
            refine (take_any _ g ob O N t1 wr HB.out).mono ?_
            rintro e w4 ⟨vt, rfl, hI4, hn4, hB4, hf⟩
            have hRf : BlkR w4 w.heap.size h qb O := HR.out.fr hf (fun e => HN2.out.1 e.symm) (fun e => HN2.out.2 e.symm)
            have HB4 : Hid (BlkP w4 w.heap.size g ob (took O N)) := Lib.hid hB4
            have HR4 := Lib.hid hRf
            have HI4 := Lib.hid hI4
            have HS4 := Lib.hid hn4
            have HF4 : Hid (Fr0 w w4) := Lib.hid (fr0_of_fr1 HF.out hf hB4.oB)
            have HQL : Hid (qb < wr.heap.size) := Lib.hid HR.out.ob_lt
            obtain ⟨j0, j1, j2⟩ := HCEL.out w4 HF4.out
            clear hI4 hn4 hB4 hf hRf HB HR HF k0 k1 k2
            go_wp2_with fail
            refine (refTake_any _ h qb O N t1 w4 HR4.out).mono ?_
            rintro e w5 ⟨vr, rfl, hI5, _, hR5, hf⟩
            have HR5 : Hid (BlkR w5 w.heap.size h qb (took O N)) := Lib.hid hR5
            have HB5 : Hid (BlkP w5 w.heap.size g ob (took O N)) := Lib.hid (HB4.out.fr hf (fun e => HN1.out.2 e.symm) HN2.out.2)
            have HF5 : Hid (Fr0 w w5) := Lib.hid (fr0_of_fr1 HF4.out hf hR5.oB)
            have HI5 := Lib.hid (fr0_ints HI4.out HS4.out hf HQL.out)
            have HJ5 := Lib.hid hI5
            have HBL : Hid (O.length ≤ 2048) := Lib.hid (by have := HB4.out.len; rwa [took_length] at this)
            clear hI5 hR5 hf HB4 HR4 HI4 HF4 HS4 HQL j0 j1 j2
            go_wp2_with fail
            refine (alike_any _ _ (nints (tout O N)) (nints (tout O N)) (by rw [nints_length]; have := tout_length O N; have := HBL.out; omega) (fun x hx => by
              obtain ⟨y, hy, rfl⟩ := nints_mem.1 hx
              have h4 := (tout_free hy).1
              have := HBL.out
              omega) w5 HI5.out HJ5.out).mono ?_
            rintro e w6 ⟨rfl, hf⟩
            rw [nints_dec]
            have HBz := Lib.hid (HB5.out.fr0 hf)
            have HRz := Lib.hid (HR5.out.fr0 hf)
            have HFz := Lib.hid (HF5.out.trans' hf)
            have HNz := HN2
            obtain ⟨q, hq⟩ : ∃ q, ob = q := ⟨_, rfl⟩
            subst hq
            generalize took O N = O2 at *
            generalize terr O N = ec at *
            clear hf HB5 HR5 HF5 HI5 HJ5 HBL
            go_wp2
            obtain ⟨C9, hC9, c9⟩ := HRz.out.cell0
            have hln : (nints (outs O2)).length ≤ 9223372036854775807 := by rw [nints_length]; have := outs_length O2; have := HBz.out.len; omega
            have hlb : ∀ n ∈ nints (outs O2), -9223372036854775808 ≤ n ∧ n ≤ 9223372036854775807 := fun n hn => by
              obtain ⟨y, hy, rfl⟩ := nints_mem.1 hn
              have h4 := (outs_mem.1 hy).1
              have := HBz.out.len
              omega
            refine pq_region (B := w.heap.size) (g := g) (ob := ob) (h := h) (qb := qb) (O := O2) (C := C9)
              ⟨rfl, rfl, rfl, hln, hlb, fun W hW => (hW.cell (p := ⟨h, 0, none⟩) HRz.out.g_lt (fun f => f)).trans c9⟩
              ⟨HBz.out.fr0 (Fr.refl _ _).drew, HRz.out.fr0 (Fr.refl _ _).drew⟩ ?_
            intro vals9 w9 hG9 hJ9 hv9
            have HB9 := Lib.hid hJ9.1
            have HR9 := Lib.hid hJ9.2
            have HF9 : Hid (Fr0 w w9) := Lib.hid (HFz.out.trans' hG9.fr)
            have h110 : vals9 110 = .bool false := hv9 110 (List.contains_iff_mem.1 (by kernel_rfl))
            clear hv9 hG9 hJ9 HBz HRz HFz c9 hln hlb
            rw [show dsts pqOps = [88, 89, 90, 91, 92, 93, 94, 95, 96, 97, 98, 99, 100, 101, 102, 103, 104, 105, 106, 107, 108, 109, 110] by kernel_rfl]
            simp only [frm, List.mapIdx_toArray, List.mapIdx_cons, List.mapIdx_nil, Nat.zero_add, Nat.reduceAdd, List.contains_cons, List.contains_nil, Nat.reduceBEq, Bool.or_false, Bool.false_or, Bool.or_true, Bool.true_or, Bool.or_self, Bool.false_eq_true, if_true, if_false, h110]
            clear h110
            go_wp2
            go_roundg (Q.length - (k + 1))
            case measure => omega
            case rel => exact ⟨k + 1, ob, O2, by simp, by omega, by omega, HB9, HR9, HNz, HF9⟩
      · obtain rfl : k = Q.length := by omega
        go_wp2_with fail
        refine (need_any bytes hb wr).mono ?_
        rintro e wz ⟨rfl, hz⟩
        obtain rfl : wr = wz := hz.symm
        go_wp2_with fail
        refine (refNeed_any bytes hb wr).mono ?_
        rintro e wz ⟨rfl, hz⟩
        obtain rfl : wr = wz := hz.symm
        go_wp2
        go_ret
        exact ⟨by simp, HF.out⟩
end Go.Proofs.Ytagniipldmagdaa.Blocks
