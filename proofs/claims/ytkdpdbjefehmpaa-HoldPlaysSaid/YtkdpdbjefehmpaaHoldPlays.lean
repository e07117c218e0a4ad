/-
  HoldPlays: two holds of two parts, any calls: what is held, where it lies, is as the document says: the walk.
-/
import Derived.Test.YtkdpdbjefehmpaaHoldPlaysS
import Derived.Test.YtkdpdbjefehmpaaHoldPlaysR
import Derived.Test.YtkdpdbjefehmpaaHoldAwake
import Derived.Test.YtkdpdbjefehmpaaLawQ
import Derived.Deep.DeepCutAuto
import Derived.Deep.CutBlock
import Derived.Shelf.RegionOpenPlain
namespace Go.Proofs.Ytkdpdbjefehmpaa.Hold
open Go.RowKit Base Go.Maps Arena Pw
open Blocks (BlkR whole whole_le frees nints nvals tout took terr give gave gerr)

set_option maxRecDepth 100000 in
set_option maxHeartbeats 16000000 in
theorem holdPlays_walk (x y : Int) (v2 : Value) (Q : List Quad) (hx : -9223372036854775808 ≤ x ∧ x ≤ 9223372036854775807) (hy : -9223372036854775808 ≤ y ∧ y ≤ 9223372036854775807) (hQ : Q.length ≤ 9223372036854775807) (hqb : ∀ q ∈ Q, inI64 q.1 ∧ inI64 q.2.1 ∧ inI64 q.2.2.1 ∧ q.2.2.2.length ≤ 9223372036854775807) (w : World) (hI : QuadsIs w v2 Q) :
    Calls Try.prog 4 #[.int .i64 x, .int .i64 y, v2] w fun e w' => e = .returned (.bool true) ∧ Fr0 w w' := by
  obtain ⟨a2, cap2, xb, xo, rfl, hcap2, ha2, hc2⟩ := hI
  have HA2 := Lib.hid ha2
  have HC2 := Lib.hid hc2
  have HQB := Lib.hid hqb
  have haw := awake_any w
  clear ha2 hc2 hqb hcap2
  by_cases hbad : x < 0 ∨ 600 < x ∨ y < 0 ∨ 600 < y ∨ 80 < Q.length
  · have HX := Lib.hid hbad
    clear hbad
    go_enter Try.func4, Try.ntmps4
    go_wp2_with fail
    refine haw.mono ?_
    rintro e w1 ⟨rfl, hF1⟩
    have HF1 := Lib.hid hF1
    clear hF1 haw
    by_cases h1 : x < 0
    · go_wp2
      go_ret
      exact ⟨rfl, HF1.out⟩
    · by_cases h2 : 600 < x
      · go_wp2
        go_ret
        exact ⟨rfl, HF1.out⟩
      · by_cases h3 : y < 0
        · go_wp2
          go_ret
          exact ⟨rfl, HF1.out⟩
        · by_cases h4 : 600 < y
          · go_wp2
            go_ret
            exact ⟨rfl, HF1.out⟩
          · have h5 : 80 < Q.length := by have := HX.out; omega
            go_wp2
            go_ret
            exact ⟨rfl, HF1.out⟩
  · have h1 : ¬ x < 0 := by omega
    have h2 : ¬ 600 < x := by omega
    have h3 : ¬ y < 0 := by omega
    have h4 : ¬ 600 < y := by omega
    have h5 : ¬ 80 < Q.length := by omega
    clear hbad
    have hfit := Lib.hid (fits_two (x := x) (y := y) (by omega) (by omega))
    have HLB : Hid (∀ n ∈ [x, y], -9223372036854775808 ≤ n ∧ n ≤ 9223372036854775807) := Lib.hid (by simpa using ⟨hx, hy⟩)
    go_enter Try.func4, Try.ntmps4
    go_wp2_with fail
    refine haw.mono ?_
    rintro e w1 ⟨rfl, hf⟩
    have HF1 := Lib.hid hf
    clear hf haw
    go_wp2_with fail
    refine (Arena.new_any (x + y + 9) _ [x, y] (by simp) HLB.out (by omega) _ (ints_lit w1 _ [x, y] rfl _ _ _ rfl rfl)).mono ?_
    rintro e wA ⟨hn, -, hf⟩
    obtain ⟨ga, pb, cb, rfl, hA⟩ := hn hfit.out
    have HFA : Hid (Fr0 w wA) := Lib.hid (HF1.out.trans' (((Fr.refl _ _).alloc _).trans' hf))
    have HAA := Lib.hid (hA.base (B' := w.heap.size) (by have := HF1.out.size; simp; omega))
    clear hA hf hn HF1
    unfold ptr
    go_wp2_with fail
    refine (refNew_any (x + y + 9) _ [x, y] (by simp) HLB.out (by omega) _ (ints_lit wA _ [x, y] rfl _ _ _ rfl rfl)).mono ?_
    rintro e wB ⟨hn, -, hf⟩
    obtain ⟨ra, rb, rc, rfl, hR⟩ := hn hfit.out
    have hf' : Fr0 wA wB := ((Fr.refl _ _).alloc _).trans' hf
    have HFB : Hid (Fr0 w wB) := Lib.hid (HFA.out.trans' hf')
    obtain ⟨bs0, hbs⟩ : ∃ bs0, List.replicate (x + y + 9).toNat (0 : UInt8) = bs0 := ⟨_, rfl⟩
    rw [hbs] at HAA hR
    have HM0 : Hid (Made w wB 0 ⟨ga, pb, cb, ra, rb, rc, [x, y], fun _ => 0, fun _ => 0⟩ (Vs.start [x, y] bs0) (Vs.start [x, y] bs0) (.slice none 0 0) (.slice none 0 0)) := Lib.hid (by
      have k1 := HAA.out.g_lt
      have k2 := HAA.out.pb_lt
      have k3 := HAA.out.cb_lt
      have k4 := hR.gB
      have k5 := hR.pB
      have k6 := hR.cB
      have hz := (heap_alloc_new wA (.cells #[.int .i64 x, .int .i64 y] 3))
      simp at k4 k5 k6
      refine ⟨(two_start _ _ _ (HAA.out.fr0 hf') (hR.base (by have := HFA.out.size; simp; omega)) (by show (ra ≠ pb ∧ rb ≠ pb ∧ rc ≠ pb) ∧ (ga ≠ rb ∧ pb ≠ rb ∧ cb ≠ rb); omega)).fr (S := fun _ => False) (Fr.refl _ _) (fun _ _ f => f.elim) (fun j e => ?_), World.ownsRow_nil wB _ _ _, World.ownsRow_nil wB _ _ _, (fun j e => by cases e), HFB.out⟩
      rcases e with e | e <;> cases e)
    clear hR hf hf' hn HAA HFA HFB hbs hfit HLB
    unfold ptr
    go_wp2
    go_loopg [11, 12, 13] 2 (fun kx hs us i wr => ∃ (n : Nat) (G V : Nat → Nat), i = .int .i64 (n : Int) ∧ n ≤ 2 ∧ 2 - n ≤ kx ∧ Hid (Made w wr n ⟨ga, pb, cb, ra, rb, rc, [x, y], G, V⟩ (Vs.start [x, y] bs0) (Vs.start [x, y] bs0) hs us))
    case atStart => exact ⟨0, _, _, rfl, Nat.zero_le _, by omega, HM0⟩
    case round =>
      clear HM0
      obtain ⟨n, G, V, rfl, hn2, hgn, HM⟩ := hrel
      by_cases hlt : n < 2
      · have hi1 : (n : Int) < 2 := by omega
        go_wp2_with fail
        refine (two_newP (c := ⟨ga, pb, cb, ra, rb, rc, [x, y], G, V⟩) HM.out.two hlt).mono ?_
        rintro e w5 ⟨g, rfl, ht, hf⟩
        have HT5 := Lib.hid ht
        have HF5 := Lib.hid hf
        clear ht hf
        unfold ptr
        go_wp2_with fail
        refine (two_newR (c := ⟨ga, pb, cb, ra, rb, rc, [x, y], upd G n g, V⟩) HT5.out hlt).mono ?_
        rintro e w6 ⟨h, rfl, ht, hf⟩
        have HT6 := Lib.hid ht
        have HF6 : Hid (Fr0 wr w6) := Lib.hid (HF5.out.trans' hf)
        have HO : Hid (w6.ownsRow w.heap.size 27 1 u11 n ((List.range n).map fun k => ptr (G k))) := Lib.hid (owns_fr HM.out.hv HF6.out (fun _ _ f => f))
        have HU : Hid (∀ w7, Fr (fun j => u11.ownBlock = some j) w6 w7 → w7.ownsRow w.heap.size 47 1 u12 n ((List.range n).map fun k => ptr (V k))) := Lib.hid (fun w7 hf7 => owns_fr (owns_fr HM.out.hu HF6.out (fun _ _ f => f)) hf7 (fun j e e' => HM.out.ne j e' e))
        have HSZ : Hid (w.heap.size ≤ w6.heap.size) := Lib.hid (HM.out.fr.trans' HF6.out).size
        clear ht hf HT5 HF5
        unfold ptr
        go_wp2_with (first
          | (refine wpList_append_valsN rfl (.tmp 100) (.tmp 102) 45 rfl w.heap.size 27 Try.underlying45 (.pointer none) 1 8 infoH rfl (by decide) _ _ n 1 ((List.range n).map fun k => ptr (G k)) [ptr g] rfl rfl (HO.out.alloc _) (one_intR w6 _ _ _ rfl) (by decide) rfl (by intro u hu; simp at hu; subst hu; rfl) (by unfold maxLen; omega) (by omega) (Nat.le_trans HSZ.out ((Fr.refl (fun _ => False) w6).alloc _).size) ?_; intro v7 w7 hO7 hG7 hN7; have HF7 : Hid (Fr (fun j => u11.ownBlock = some j) w6 w7) := Lib.hid (((Fr.refl _ _).alloc _).trans' (Fr.of_grown hG7 (fun _ _ e => e))))
          | (refine wpList_append_valsN rfl (.tmp 104) (.tmp 106) 46 rfl w.heap.size 47 Try.underlying46 (.pointer none) 1 8 infoV rfl (by decide) _ _ n 1 ((List.range n).map fun k => ptr (V k)) [ptr h] rfl rfl ((HU.out _ HF7.out).alloc _) (one_intR w7 _ _ _ rfl) (by decide) rfl (by intro u hu; simp at hu; subst hu; rfl) (by unfold maxLen; omega) (by omega) (Nat.le_trans (Nat.le_trans HSZ.out HF7.out.size) ((Fr.refl (fun _ => False) w7).alloc _).size) ?_; intro v8 w8 hO8 hG8 hN8))
        have HM8 : Hid (Made w w8 (n + 1) ⟨ga, pb, cb, ra, rb, rc, [x, y], upd G n g, upd V n h⟩ (Vs.start [x, y] bs0) (Vs.start [x, y] bs0) v7 v8) := Lib.hid (HM.out.push HF6.out HT6.out rfl rfl ((Fr.refl _ _).alloc _) hO7 hG7 hN7 ((Fr.refl _ _).alloc _) hO8 hG8 hN8)
        clear hO7 hG7 hN7 hO8 hG8 hN8 HF7 HSZ HU HO HF6 HT6
        go_roundg (2 - (n + 1))
        case measure => omega
        case rel => exact ⟨n + 1, _, _, by simp, by omega, by omega, HM8⟩
      · obtain rfl : n = 2 := by omega
        obtain ⟨hb, C, ub, D, rfl, rfl, hp⟩ := HM.out.play
        have HP0 := Lib.hid hp
        have HS0 := Lib.hid (Vs.start_same [x, y] bs0)
        have hp0 : ∀ k, (Vs.start [x, y] bs0).p k ≤ 0 := fun _ => Nat.le_refl 0
        generalize Vs.start [x, y] bs0 = s0 at *
        clear hp HM hn2 hgn hlt
        go_wp2
        go_loopg [18] Q.length (fun kx i wx => ∃ (j : Nat) (s t : Vs), i = .int .i64 (j : Int) ∧ j ≤ Q.length ∧ Q.length - j ≤ kx ∧ Hid (Play w wx ⟨ga, pb, cb, ra, rb, rc, [x, y], G, V⟩ hb ub s t) ∧ Hid (Same s t) ∧ Hid (∀ k, s.p k ≤ j))
        case atStart => exact ⟨0, s0, s0, rfl, Nat.zero_le _, by omega, HP0, HS0, Lib.hid hp0⟩
        case round =>
          clear HP0 HS0 hp0
          obtain ⟨j, s, t, rfl, hj, hgj, HP, HS, HPU⟩ := hrel
          by_cases hlt : j < Q.length
          · obtain ⟨q, hq⟩ : ∃ q, Q[j]? = some q := ⟨_, List.getElem?_eq_getElem hlt⟩
            obtain ⟨t0, t1, t2, t3⟩ := HQB.out q (List.mem_of_getElem? hq)
            obtain rfl := HA2.out (by omega)
            obtain ⟨q0, q1, q2, pv, q3, qB⟩ := HC2.out j q hq
            obtain ⟨op, who, N, bx⟩ := q
            simp only at q0 q1 q2 q3 qB t0 t1 t2 t3
            have HB := Lib.hid qB
            obtain ⟨A, CB, px, po, rfl, hxC, hxA, hxc⟩ := qB
            have HXA : Hid (bx ≠ [] → ∀ a n c, Value.slice A bx.length CB = .slice (some a) n c → a.block < w.heap.size) := Lib.hid (fun hx0 a n c h => by
              have hpos : 0 < bx.length := List.length_pos_iff.2 hx0
              simp only [Value.slice.injEq] at h
              have h4 := hxA hpos
              rw [h.1] at h4
              cases h4
              exact World.block_lt_of_cell? w _ (hxc 0 hpos))
            have HCEL : Hid (∀ W, Fr0 w W → W.cell? ⟨xb, xo + j * 4, none⟩ = some (.int .i64 op) ∧ W.cell? ⟨xb, xo + j * 4 + 1, none⟩ = some (.int .i64 who) ∧ W.cell? ⟨xb, xo + j * 4 + 2, none⟩ = some (.int .i64 N) ∧ W.cell? ⟨xb, xo + j * 4 + 3, none⟩ = some (.slice A bx.length CB)) := Lib.hid (fun W hW =>
              ⟨(hW.cell (p := ⟨xb, xo + j * 4, none⟩) (World.block_lt_of_cell? w _ q0) (fun f => f)).trans q0, (hW.cell (p := ⟨xb, xo + j * 4 + 1, none⟩) (World.block_lt_of_cell? w _ q1) (fun f => f)).trans q1, (hW.cell (p := ⟨xb, xo + j * 4 + 2, none⟩) (World.block_lt_of_cell? w _ q2) (fun f => f)).trans q2, (hW.cell (p := ⟨xb, xo + j * 4 + 3, none⟩) (World.block_lt_of_cell? w _ q3) (fun f => f)).trans q3⟩)
            obtain ⟨k0, k1, k2, k3⟩ := HCEL.out wr HP.out.fr
            obtain ⟨i, hi, hwho⟩ := and_who who
            have v0 : wr.cell? ⟨hb, i, none⟩ = some (.pointer (some ⟨G i, 0, none⟩)) := HP.out.hv i hi
            have v1 : wr.cell? ⟨ub, i, none⟩ = some (.pointer (some ⟨V i, 0, none⟩)) := HP.out.hu i hi
            have hi1 : (j : Int) < (Q.length : Int) := by omega
            have hi2 : 0 ≤ (j : Int) := by omega
            have hi3 : (i : Int) < 2 := by omega
            have hi4 : 0 ≤ (i : Int) := by omega
            clear hq q0 q1 q2 q3 hxC hxA hxc
            unfold inI64 at t0 t2
            go_wp2
            go_quiet (fail)
            have HP5 := Lib.hid (HP.out.fr0 ((Fr.refl _ _).drewN nq))
            clear k0 k1 k2 k3 v0 v1 HP hwho hi3 hi4
            generalize wr.drewN nq = w5 at *
            obtain ⟨k0, k1, k2, k3⟩ := HCEL.out w5 HP5.out.fr
            by_cases h7 : 700 < bx.length
            · have HE := Lib.hid HP5.out.fr
              go_wp2
              go_ret
              exact ⟨rfl, HE.out⟩
            · go_upto_block 4 with fail
              go_cut [] (fun wx => ∃ (s' t' : Vs), Hid (Play w wx ⟨ga, pb, cb, ra, rb, rc, [x, y], G, V⟩ hb ub s' t') ∧ Hid (Same s' t') ∧ Hid (∀ k, s'.p k ≤ j + 1))
              case first =>
                have hps : s.p i ≤ 1000000 := by have := HPU.out i; omega
                have hpt : t.p i ≤ 1000000 := by rw [HS.out.p]; exact hps
                by_cases hop : op = 0
                · subst hop
                  go_wp2_with fail
                  refine (two_putP HP5.out.two hi bx _ (by omega) hps (HB.out.fr0 HP5.out.fr) (fun hx0 a n c h => HXA.out hx0 a n c h)).mono ?_
                  rintro e w6 ⟨d, rfl, hd, ht, hf⟩
                  have HP6 := Lib.hid (HP5.out.step ht hf)
                  have HD := Lib.hid hd
                  obtain ⟨pa, hpa⟩ : ∃ pa, pq (s.O i) (s.p i) bx.length = pa := ⟨_, rfl⟩
                  obtain ⟨pe1, hpe⟩ : ∃ pe1, pe (s.O i) bx.length = pe1 := ⟨_, rfl⟩
                  have HPA := Lib.hid hpa
                  have HPE := Lib.hid hpe
                  rw [hpa, hpe]
                  obtain ⟨_, _, _, l3⟩ := HCEL.out w6 HP6.out.fr
                  clear hd ht hf hpa hpe k0 k1 k2 k3
                  go_wp2_with fail
                  refine (two_putR HP6.out.two hi bx _ (by omega) hpt (HB.out.fr0 HP6.out.fr) (fun hx0 a n c h => HXA.out hx0 a n c h)).mono ?_
                  rintro e w7 ⟨d', rfl, hd', ht, hf⟩
                  have HP7 := Lib.hid (HP6.out.step ht hf)
                  have HS7 := Lib.hid (HS.out.put (L := [x, y]) (i := i) (x := bx) (d := d) (d' := d') (by rw [HD.out, hd', HS.out.p, HS.out.O]))
                  have HU7 := Lib.hid (fun k => Vs.put_p (L := [x, y]) (i := i) (x := bx) (d := d) HPU.out k)
                  rw [show pq (t.O i) (t.p i) bx.length = pa by rw [HS.out.O, HS.out.p]; exact HPA.out, show pe (t.O i) bx.length = pe1 by rw [HS.out.O]; exact HPE.out]
                  clear hd' ht hf l3 HD HPA HPE
                  go_wp2
                  go_meet
                  case rel => exact ⟨_, _, HP7, HS7, HU7⟩
                · by_cases hop1 : op = 1
                  · subst hop1
                    go_wp2
                    obtain ⟨ec, hec⟩ : ∃ ec, err N (s.es i) = ec := ⟨_, rfl⟩
                    refine hd_region (w0 := w) (Ex := (fun j => j = hb ∨ j = ub)) (c := ⟨ga, pb, cb, ra, rb, rc, [x, y], G, V⟩) (s := s) (t := t) (i := i) (N := N) (ec := ec) (pb := xb) (po := xo) (n1 := Q.length) (c1 := cap2) (j := j)
                      ⟨rfl, rfl, rfl, rfl, rfl, hi1, hi2, by omega, hi, hpt, t2, hec, (same_err (HS.out.es i) N).trans hec, fun W hW => (HCEL.out W (HP5.out.fr.drew.trans hW (fun i hi e => by have := e.1; omega))).2.2.1⟩
                      (HP5.out.fr0 (Fr.refl _ _).drew).two ?_
                    intro vals w8 hG8 hJ8 hv
                    have HP8 := Lib.hid (HP5.out.step hJ8 hG8.fr)
                    have HS8 := Lib.hid (HS.out.drop i N)
                    have HU8 : Hid (∀ k, (s.drop i N).p k ≤ j + 1) := Lib.hid (fun k => Nat.le_succ_of_le (HPU.out k))
                    have h220 : vals 220 = .bool false := hv 220 (List.contains_iff_mem.1 (by kernel_rfl))
                    clear hv hG8 hJ8 hec k0 k1 k2 k3
                    rw [show dsts hdOps = [206, 207, 208, 209, 210, 211, 212, 213, 214, 215, 216, 217, 218, 219, 220] by kernel_rfl]
                    simp only [frm, List.mapIdx_toArray, List.mapIdx_cons, List.mapIdx_nil, Nat.zero_add, Nat.reduceAdd, List.contains_cons, List.contains_nil, Nat.reduceBEq, Bool.or_false, Bool.false_or, Bool.or_true, Bool.true_or, Bool.or_self, Bool.false_eq_true, if_true, if_false, h220]
                    clear h220
                    go_wp2
                    go_meet
                    case rel => exact ⟨_, _, HP8, HS8, HU8⟩
                  · go_wp2_with fail
                    refine (two_getP HP5.out.two hi N t2).mono ?_
                    rintro e w6 ⟨va, rfl, hb6, hf⟩
                    have HP6 := Lib.hid (HP5.out.fr0 hf)
                    have HB6 := Lib.hid hb6
                    obtain ⟨_, _, l2, _⟩ := HCEL.out w6 HP6.out.fr
                    clear hb6 hf k0 k1 k2 k3
                    go_wp2_with fail
                    refine (two_getR HP6.out.two hi hpt N t2).mono ?_
                    rintro e w7 ⟨vb, rfl, hb7, hf⟩
                    have HP7 := Lib.hid (HP6.out.fr0 hf)
                    rw [same_err (HS.out.es i) N]
                    rw [same_getX (HS.out.es i) N] at hb7
                    have hcu := (HB6.out.fr0 hf).convert (P := Try.prog) 32 9 5 Try.underlying32 Try.underlying5 Try.underlying9
                    have hcv := hb7.convert (P := Try.prog) 32 9 5 Try.underlying32 Try.underlying5 Try.underlying9
                    have HU7 : Hid (∀ k, s.p k ≤ j + 1) := Lib.hid (fun k => Nat.le_succ_of_le (HPU.out k))
                    generalize getX N (s.es i) = X at *
                    generalize err N (s.es i) = ec at *
                    clear hb7 hf l2 HB6
                    go_wp2
                    go_meet
                    case rel => exact ⟨_, _, HP7, HS, HU7⟩
              case rest =>
                obtain ⟨s', t', HP9, HS9, HU9⟩ := hcut
                clear k0 k1 k2 k3
                have hps : s'.p i ≤ 1000000 := by have := HU9.out i; omega
                have hpt : t'.p i ≤ 1000000 := by rw [HS9.out.p]; exact hps
                obtain ⟨xg, hX⟩ := two_X HP9.out.two hi
                have HXX := Lib.hid hX
                have hAR := two_arR HP9.out.two
                have HAR := Lib.hid hAR
                have HID := Lib.hid (two_ids HP9.out.two hi)
                have HOO := Lib.hid (two_O HP9.out.two hi)
                clear hX hAR
                go_wp2
                refine hq_region (w0 := w) (Ex := (fun j => j = hb ∨ j = ub)) (c := ⟨ga, pb, cb, ra, rb, rc, [x, y], G, V⟩) (s := s') (t := t') (i := i) (xg := xg) (VB := .slice (some ⟨rb, 0, none⟩) t'.b.length t'.b.length)
                  ⟨rfl, rfl, rfl, rfl, rfl, hi, hpt, hps, same_live (HS9.out.es i), same_ids (HS9.out.es i), by have := Blocks.frees_length (s'.O i); have := HOO.out; omega, by have := HID.out.1; omega, fun n hn => by have := HID.out.2 n hn; omega,
                    fun W hW => (HAR.out.fr0 ((Fr.refl _ _).drew.trans' hW)).cell0, fun W hW => by rw [← HS9.out.b]; exact (HAR.out.fr0 ((Fr.refl _ _).drew.trans' hW)).all, fun W hW => (HXX.out W ((Fr.refl _ _).drew.trans' hW)).1, fun W hW => by rw [← HS9.out.O]; exact (HXX.out W ((Fr.refl _ _).drew.trans' hW)).2⟩
                  (HP9.out.fr0 (Fr.refl _ _).drew).two ?_
                intro vals w9 hG9 hJ9 hv
                have HPz := Lib.hid (HP9.out.fr0 hG9.fr)
                have h255 : vals 255 = .bool false := hv 255 (List.contains_iff_mem.1 (by kernel_rfl))
                clear hv hG9 hJ9 HP9 HXX HAR HID HOO
                rw [show dsts hqOps = [221, 222, 223, 224, 225, 226, 227, 228, 229, 230, 231, 232, 233, 234, 235, 236, 237, 238, 239, 240, 241, 242, 243, 244, 245, 246, 247, 248, 249, 250, 251, 252, 253, 254, 255] by kernel_rfl]
                simp only [frm, List.mapIdx_toArray, List.mapIdx_cons, List.mapIdx_nil, Nat.zero_add, Nat.reduceAdd, List.contains_cons, List.contains_nil, Nat.reduceBEq, Bool.or_false, Bool.false_or, Bool.or_true, Bool.true_or, Bool.or_self, Bool.false_eq_true, if_true, if_false, h255]
                clear h255
                go_wp2
                go_roundg (Q.length - (j + 1))
                case measure => omega
                case rel => exact ⟨j + 1, s', t', by simp, by omega, by omega, HPz, HS9, HU9⟩
          · obtain rfl : j = Q.length := by omega
            have HE := Lib.hid HP.out.fr
            go_wp2
            go_ret
            exact ⟨rfl, HE.out⟩
end Go.Proofs.Ytkdpdbjefehmpaa.Hold
