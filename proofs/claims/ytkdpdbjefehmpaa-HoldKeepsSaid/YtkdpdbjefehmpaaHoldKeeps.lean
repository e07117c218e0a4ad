/-
  HoldKeeps: what is kept is told as it was put, whatever is put and dropped beside it: the walk.
-/
import Derived.Test.YtkdpdbjefehmpaaHoldKeepsS
import Derived.Test.YtkdpdbjefehmpaaHoldRoom
import Derived.Test.YtkdpdbjefehmpaaLawQ
import Derived.Deep.DeepCutAuto
import Derived.BigQuiet
namespace Go.Proofs.Ytkdpdbjefehmpaa.Hold
open Go.RowKit Base Go.Maps Arena
open Blocks (whole whole_le frees nints tout took terr give gave gerr)

/-- the law's state: the hold, its map, the sum -/
structure Kept (w : World) (wr : World) (ga pb cb : Nat) (bytes : Int) (g xg mb kb : Nat) (p : Nat) (es : List Ent) : Prop where
  one : ∃ top bs O, One w.heap.size top [kb] wr ga pb cb [bytes] 0 g xg mb bs O p es
  map : ∃ n, n ≤ p ∧ wr.ownsMap Try.prog 3 RS kb n (.map (ms (assoc str es)))
  fr : Fr0 w wr
  kB : w.heap.size ≤ kb
theorem Kept.fr0 {w wr w' : World} {ga pb cb : Nat} {bytes : Int} {g xg mb kb p : Nat} {es : List Ent} (h : Kept w wr ga pb cb bytes g xg mb kb p es) (hf : Fr0 wr w') : Kept w w' ga pb cb bytes g xg mb kb p es := by
  obtain ⟨top, bs, O, h1⟩ := h.one
  obtain ⟨n, hn, hm⟩ := h.map
  exact ⟨⟨top, bs, O, h1.fr0 hf⟩, ⟨n, hn, fr_map hf (fun f => f) hm⟩, h.fr.trans' hf, h.kB⟩
set_option maxRecDepth 100000 in
set_option maxHeartbeats 16000000 in
theorem holdKeeps_walk (bytes : Int) (v1 : Value) (Q : List Quad) (hb : -9223372036854775808 ≤ bytes ∧ bytes ≤ 9223372036854775807) (hQ : Q.length ≤ 9223372036854775807) (hqb : ∀ q ∈ Q, inI64 q.1 ∧ inI64 q.2.1 ∧ inI64 q.2.2.1 ∧ q.2.2.2.length ≤ 9223372036854775807) (w : World) (hI : QuadsIs w v1 Q) :
    Calls Try.prog 5 #[.int .i64 bytes, v1] w fun e w' => e = .returned (.bool true) ∧ Fr0 w w' := by
  obtain ⟨a2, cap2, xb, xo, rfl, hcap2, ha2, hc2⟩ := hI
  have HA2 := Lib.hid ha2
  have HC2 := Lib.hid hc2
  have HQB := Lib.hid hqb
  have haw := awake_any w
  clear ha2 hc2 hqb hcap2
  by_cases hbad : bytes < 0 ∨ 800 < bytes ∨ 80 < Q.length
  · have HX := Lib.hid hbad
    clear hbad
    go_enter Try.func5, Try.ntmps5
    go_wp2_with fail
    refine haw.mono ?_
    rintro e w1 ⟨rfl, hF1⟩
    have HF1 := Lib.hid hF1
    clear hF1 haw
    by_cases h1 : bytes < 0
    · go_wp2
      go_ret
      exact ⟨rfl, HF1.out⟩
    · by_cases h2 : 800 < bytes
      · go_wp2
        go_ret
        exact ⟨rfl, HF1.out⟩
      · have h3 : 80 < Q.length := by have := HX.out; omega
        go_wp2
        go_ret
        exact ⟨rfl, HF1.out⟩
  · have h1 : ¬ bytes < 0 := by omega
    have h2 : ¬ 800 < bytes := by omega
    have h3 : ¬ 80 < Q.length := by omega
    clear hbad
    have hfit := Lib.hid (fits_one (n := bytes) (by omega) (by omega))
    go_enter Try.func5, Try.ntmps5
    go_wp2_with fail
    refine haw.mono ?_
    rintro e w1 ⟨rfl, hf⟩
    have HF1 := Lib.hid hf
    clear hf haw
    go_wp2_with fail
    refine (Arena.new_any bytes _ [bytes] (by simp) (by simpa using ⟨hb.1, hb.2⟩) hb _ (ints_lit w1 _ [bytes] rfl _ _ _ rfl rfl)).mono ?_
    rintro e w2 ⟨hn, _, hf⟩
    obtain ⟨ga, pb, cb, rfl, hA⟩ := hn hfit.out
    have HF2 : Hid (Fr0 w w2) := Lib.hid (HF1.out.trans' (((Fr.refl _ _).alloc _).trans' hf))
    have HA2' := Lib.hid (hA.base (B' := w.heap.size) (by have := HF1.out.size; simp; omega))
    clear hA hf hn
    unfold ptr
    go_wp2_with fail
    refine (one_new w.heap.size ga pb cb [bytes] _ 0 w2 HA2'.out (by simp) HF2.out.size).mono ?_
    rintro e w3 ⟨hf, g, xg, mb, rfl, ho⟩
    have HK0 : Hid (Kept w (w3.alloc (.map #[] 0)) ga pb cb bytes g xg mb w3.heap.size 0 []) := Lib.hid (by
      have f3 := HF2.out.trans' hf
      refine ⟨⟨_, _, _, (ho.fr0 ((Fr.refl _ _).alloc _)).add (Nat.le_refl _) (by simp)⟩, ⟨0, Nat.le_refl _, World.ownsMap_made w3 Try.prog 3 RS⟩, f3.trans' ((Fr.refl _ _).alloc _), f3.size⟩)
    clear hf ho HA2' HF2 HF1
    unfold ptr
    have hmm := @run_makeMap Try.prog
    go_wp2
    clear hmm
    generalize w3.alloc (.map #[] 0) = w4 at *
    generalize w3.heap.size = kb at *
    go_loopg [10, 11] Q.length (fun kx s i wr => ∃ (j p : Nat) (es : List Ent), s = .int .i64 (live es : Int) ∧ i = .int .i64 (j : Int) ∧ j ≤ Q.length ∧ Q.length - j ≤ kx ∧ p ≤ j ∧ live es ≤ 70000 ∧ Hid (Kept w wr ga pb cb bytes g xg mb kb p es))
    case atStart => exact ⟨0, 0, [], rfl, rfl, Nat.zero_le _, by omega, Nat.le_refl _, by simp [live], HK0⟩
    case round =>
      clear HK0
      obtain ⟨j, p, es, rfl, rfl, hj, hgj, hpj, hlv, HK⟩ := hrel
      by_cases hlt : j < Q.length
      · obtain ⟨t, ht⟩ : ∃ t, Q[j]? = some t := ⟨_, List.getElem?_eq_getElem hlt⟩
        obtain ⟨t0, t1, t2, t3⟩ := HQB.out t (List.mem_of_getElem? ht)
        obtain rfl := HA2.out (by omega)
        obtain ⟨q0, q1, q2, pv, q3, qB⟩ := HC2.out j t ht
        obtain ⟨op, who, N, x⟩ := t
        simp only at q0 q1 q2 q3 qB t0 t1 t2 t3
        have HB := Lib.hid qB
        obtain ⟨A, C, px, po, rfl, hxC, hxA, hxc⟩ := qB
        have HXA : Hid (x ≠ [] → ∀ a n c, Value.slice A x.length C = .slice (some a) n c → a.block < w.heap.size) := Lib.hid (fun hx0 a n c h => by
          have hpos : 0 < x.length := List.length_pos_iff.2 hx0
          simp only [Value.slice.injEq] at h
          have h4 := hxA hpos
          rw [h.1] at h4
          cases h4
          exact World.block_lt_of_cell? w _ (hxc 0 hpos))
        have HF := Lib.hid HK.out.fr
        have k0 := (HF.out.cell (p := ⟨xb, xo + j * 4, none⟩) (World.block_lt_of_cell? w _ q0) (fun f => f)).trans q0
        have k2 := (HF.out.cell (p := ⟨xb, xo + j * 4 + 2, none⟩) (World.block_lt_of_cell? w _ q2) (fun f => f)).trans q2
        have k3 := (HF.out.cell (p := ⟨xb, xo + j * 4 + 3, none⟩) (World.block_lt_of_cell? w _ q3) (fun f => f)).trans q3
        have K2 : Hid (∀ wx, Fr0 w wx → wx.cell? ⟨xb, xo + j * 4 + 2, none⟩ = some (.int .i64 N) ∧ wx.cell? ⟨xb, xo + j * 4 + 3, none⟩ = some (.slice A x.length C)) := Lib.hid (fun wx hx => ⟨(hx.cell (p := ⟨xb, xo + j * 4 + 2, none⟩) (World.block_lt_of_cell? w _ q2) (fun f => f)).trans q2, (hx.cell (p := ⟨xb, xo + j * 4 + 3, none⟩) (World.block_lt_of_cell? w _ q3) (fun f => f)).trans q3⟩)
        have hi1 : (j : Int) < (Q.length : Int) := by omega
        have hi2 : 0 ≤ (j : Int) := by omega
        clear ht q0 q1 q2 q3 hxC hxA hxc
        unfold inI64 at t0 t2
        by_cases hx8 : 800 < x.length
        · go_wp2
          go_ret
          exact ⟨rfl, HF.out⟩
        · go_upto_if 69 with fail
          go_cut [10] (fun s wx => ∃ (p' : Nat) (es' : List Ent), s = .int .i64 (live es' : Int) ∧ p' ≤ j + 1 ∧ live es' ≤ 70000 ∧ Hid (Kept w wx ga pb cb bytes g xg mb kb p' es'))
          case first =>
            obtain ⟨top, bs, O, ho⟩ := HK.out.one
            obtain ⟨n, hn, hm⟩ := HK.out.map
            have HO := Lib.hid ho
            have HM := Lib.hid hm
            have HKB := Lib.hid HK.out.kB
            clear ho hm
            by_cases hop : op = 0
            · subst hop
              go_wp2_with fail
              refine (one_put w.heap.size top [kb] ga pb cb [bytes] 0 g xg mb bs O p es x _ _ (by omega) (by omega) HO.out (HB.out.fr0 HF.out) (fun hx0 a n c h => .inl (HXA.out hx0 a n c h))).mono ?_
              rintro e w5 ⟨hf5, hc⟩
              have hm5 := fr_map hf5 (fun h => h.2 (by simp)) HM.out
              have HF5 : Hid (Fr0 w w5) := Lib.hid (HF.out.trans hf5 (fun i hi h => by have := h.1.1; omega))
              rcases hc with ⟨hfits, d, bs', rfl, hid, hdx, ho⟩ | ⟨hfits, rfl, ho⟩
              · have HO5 := Lib.hid ho
                obtain ⟨l2, l3⟩ := K2.out w5 HF5.out
                have hlk := lookS_none hm5 (id := (p : Int) + 1) ⟨by omega, by omega⟩ (find_top HO.out.most)
                have hcv := (HB.out.fr0 HF5.out).convert (P := Try.prog) 32 9 5 Try.underlying32 Try.underlying5 Try.underlying9
                have HKEY : Hid (keyOf Try.prog 3 (.int .i64 ((p : Int) + 1)) = some (key ((p : Int) + 1))) := Lib.hid (keyOf_int_mk Try.underlying3 (WalkArith.wf_i64 ⟨by omega, by omega⟩))
                have HID := Lib.hid hid
                have HDX := Lib.hid hdx
                have HM5 := Lib.hid hm5
                have HMOST : Hid (∀ a ∈ assoc str es, a.1 < (p : Int) + 1) := Lib.hid (fun b hb => by
                  obtain ⟨e, he, rfl⟩ := List.mem_map.1 hb
                  have := HO.out.most e he
                  show e.id < _
                  omega)
                have hq1 : 1 ≤ (p : Int) + 1 := by omega
                have hq2 : (p : Int) + 1 ≤ 1000 := by omega
                generalize (p : Int) + 1 = pid at *
                clear hf5 hm5 ho k0 k2 k3 hfits hid hdx
                go_wp2_with (at_mapUpdate; refine wpList_mapUpdate_in _ rfl _ _ _ 59 rfl 3 9 (int_keyed Try.underlying3) Try.underlying59 RS kb n (.map (ms (assoc str es))) rfl HM5.out (by unfold maxLen; omega) _ _ (key pid) rfl rfl HKEY.out (.held (.string ⟨x.toArray⟩)) [] rfl ?_; intro w6 hown6 hturn6; have hf6 : Fr1 kb w5 w6 := Fr.of_grown hturn6.grown (fun i _ e => by cases e; rfl); have HF6 : Hid (Fr0 w w6) := Lib.hid (HF5.out.trans hf6 (fun i hi h => by have h' : i = kb := h; have := HKB.out; omega)); have l6 := (K2.out w6 HF6.out).2; clear l2 l3)
                rw [map_put _ HMOST.out] at hown6
                have HK6 : Hid (Kept w w6 ga pb cb bytes g xg mb kb (p + 1) (es ++ [d])) := Lib.hid (by
                  refine ⟨⟨_, _, _, HO5.out.turn hf6 (by simp)⟩, ⟨n + 1, by omega, ?_⟩, HF6.out, HKB.out⟩
                  rw [assoc_snoc, HID.out]
                  unfold str
                  rw [HDX.out]
                  exact hown6)
                have hlive : live (es ++ [d]) = live es + x.length := by rw [live_snoc, HDX.out]
                have hl5 : live (es ++ [d]) ≤ 70000 := by have h1 := HO5.out.good.live; have h2 := HO5.out.len; omega
                clear hown6 hturn6 hf6 HO5 HM5 hlk hcv HKEY
                go_meet
                case rel => exact ⟨p + 1, es ++ [d], by rw [hlive]; simp, by omega, hl5, HK6⟩
              · have HK5 : Hid (Kept w w5 ga pb cb bytes g xg mb kb p es) := Lib.hid ⟨⟨_, _, _, ho⟩, ⟨n, hn, hm5⟩, HF5.out, HKB.out⟩
                clear hf5 hm5 ho k0 k2 k3 hfits
                go_wp2
                go_meet
                case rel => exact ⟨p, es, rfl, by omega, hlv, HK5⟩
            · cases hfd : find N es with
              | some d =>
                have hlk := lookS_some HM.out t2 hfd
                go_wp2_with fail
                refine (one_drop w.heap.size top [kb] ga pb cb [bytes] 0 g xg mb bs O p es N t2 _ HO.out).mono ?_
                rintro e w5 ⟨hf5, O', ho, hc⟩
                rcases hc with ⟨hno, _⟩ | ⟨d', hd', rfl, _⟩
                · rw [hfd] at hno; cases hno
                · have hm5 := fr_map hf5 (fun h => h.2 (by simp)) HM.out
                  have HF5 : Hid (Fr0 w w5) := Lib.hid (HF.out.trans hf5 (fun i hi h => by have := h.1.1; omega))
                  have HO5 := Lib.hid ho
                  have HM5 := Lib.hid hm5
                  obtain ⟨l2, l3⟩ := K2.out w5 HF5.out
                  have hkey : keyOf Try.prog 3 (.int .i64 N) = some (key N) := keyOf_int_mk Try.underlying3 (WalkArith.wf_i64 t2)
                  have HLV := Lib.hid (live_drop HO.out.rise hfd)
                  have hsz : (⟨d.x.toArray⟩ : ByteArray).size = d.x.length := by simp [ByteArray.size]
                  have hdl : d.x.length ≤ 70000 := by have := HLV.out; omega
                  clear hf5 hm5 ho hd' k0 k2 k3 hfd
                  go_wp2_with (at_delete; refine wpList_delete_own _ rfl _ _ 59 3 rfl 9 (int_keyed Try.underlying3) Try.underlying59 RS kb n (.map (ms (assoc str es))) rfl HM5.out _ _ rfl hkey ?_; intro w6 hown6 hturn6)
                  have hf6 : Fr1 kb w5 w6 := Fr.of_grown hturn6.grown (fun i _ e => by cases e; rfl)
                  have HF6 : Hid (Fr0 w w6) := Lib.hid (HF5.out.trans hf6 (fun i hi h => by have h' : i = kb := h; have := HKB.out; omega))
                  rw [map_del, assoc_drop] at hown6
                  have HK6 : Hid (Kept w w6 ga pb cb bytes g xg mb kb p (drop N es)) := Lib.hid ⟨⟨_, _, _, HO5.out.turn hf6 (by simp)⟩, ⟨n, hn, hown6⟩, HF6.out, HKB.out⟩
                  have hlive : (live (drop N es) : Int) = (live es : Int) - (d.x.length : Int) := by have := HLV.out; omega
                  have hl5 : live (drop N es) ≤ 70000 := by omega
                  clear hown6 hturn6 hf6 HO5 HM5 hlk hkey hsz
                  go_meet
                  case rel => exact ⟨p, drop N es, by rw [hlive], by omega, hl5, HK6⟩
              | none =>
                have hlk := lookS_none HM.out t2 hfd
                go_wp2_with fail
                refine (one_drop w.heap.size top [kb] ga pb cb [bytes] 0 g xg mb bs O p es N t2 _ HO.out).mono ?_
                rintro e w5 ⟨hf5, O', ho, hc⟩
                rcases hc with ⟨hno, rfl, rfl, hdd⟩ | ⟨d', hd', _⟩
                · have hm5 := fr_map hf5 (fun h => h.2 (by simp)) HM.out
                  have HF5 : Hid (Fr0 w w5) := Lib.hid (HF.out.trans hf5 (fun i hi h => by have := h.1.1; omega))
                  rw [hdd] at ho
                  have HK5 : Hid (Kept w w5 ga pb cb bytes g xg mb kb p es) := Lib.hid ⟨⟨_, _, _, ho⟩, ⟨n, hn, hm5⟩, HF5.out, HKB.out⟩
                  clear hf5 hm5 ho k0 k2 k3 hno hfd hdd
                  go_wp2
                  go_meet
                  case rel => exact ⟨p, es, rfl, by omega, hlv, HK5⟩
                · rw [hfd] at hd'; cases hd'
          case rest =>
            obtain ⟨p2, es2, rfl, hp2, hlv2, HK2⟩ := hcut
            clear k0 k2 k3
            obtain ⟨top, bs, O, ho⟩ := HK2.out.one
            obtain ⟨n, hn, hm⟩ := HK2.out.map
            have HO := Lib.hid ho
            have hlb : (live es2 : Int) ≤ bytes := by
              have h4 := ho.good.live
              have h5 := ho.good.room
              have h6 : ([bytes] : List Int).getD 0 0 = bytes := rfl
              rw [h6] at h5
              omega
            have hel : es2.length ≤ 100 := by have := ids_length ho.rise ho.good.pos ho.most; omega
            have hls := one_list w.heap.size top [kb] ga pb cb [bytes] 0 g xg mb bs O p2 es2 (by omega) wc ho
            clear ho hm
            go_wp2_with fail
            refine hls.mono ?_
            rintro e w5 ⟨v, rfl, hI5, hf5, _⟩
            have HK5 := Lib.hid (HK2.out.fr0 hf5)
            have HI5 := Lib.hid hI5
            obtain ⟨A5, C5, ib, io, rfl, hiC, _, _⟩ := hI5
            rw [ids_len] at hiC ⊢
            have hlen5 : ∀ ty, (Builtin.len_ #[59] ty #[.map (some kb)]).run Try.prog w5 = .ok (.int .i64 (es2.length : Int)) w5 := fun ty => by
              obtain ⟨n, _, hm⟩ := HK5.out.map
              exact lenS hm ty
            have hlv5 := one_live w.heap.size top [kb] ga pb cb [bytes] 0 g xg mb bs O p2 es2 w5 (HO.out.fr0 hf5)
            clear hls hf5
            go_wp2_with fail
            refine hlv5.mono ?_
            rintro e w6 ⟨rfl, hf6⟩
            have HK6 := Lib.hid (HK5.out.fr0 hf6)
            have HI6 := Lib.hid (HI5.out.fr0 hf6)
            clear hlv5 hf6 hlen5
            go_wp2
            go_loopg [20] es2.length (fun kx s wx => ∃ m : Nat, s = .int .i64 (m : Int) ∧ m ≤ es2.length ∧ es2.length - m ≤ kx ∧ Hid (Fr0 w6 wx))
            case atStart => exact ⟨0, rfl, Nat.zero_le _, by omega, Lib.hid (Fr.refl _ _)⟩
            case round =>
              obtain ⟨m, rfl, hm, hgm, HFx⟩ := hrel
              have HKx := Lib.hid (HK6.out.fr0 HFx.out)
              by_cases hmlt : m < es2.length
              · obtain ⟨A6, C6, ib, io, hv6, hic, hia, hiv⟩ := HI6.out.fr0 HFx.out
                rw [ids_len] at hv6 hic hia hiv
                simp only [Value.slice.injEq, true_and] at hv6
                obtain ⟨rfl, rfl⟩ := hv6
                obtain rfl := hia (by omega)
                have d0 := hiv m hmlt
                obtain ⟨e, he, _, hid⟩ := ids_at hmlt
                have HPREV : Hid (∀ q, q < m → (ids es2).getD q 0 < (ids es2).getD m 0 ∧ wr.cell? ⟨ib, io + q, none⟩ = some (.int .i64 ((ids es2).getD q 0))) := Lib.hid (fun q hq => ⟨by
                  obtain ⟨top, bs, O, ho⟩ := HKx.out.one
                  exact ids_lt ho.rise hq hmlt, hiv q (by omega)⟩)
                obtain ⟨top2, bs2, O2, ho2⟩ := HKx.out.one
                have HFD := Lib.hid (find_of_mem ho2.rise he)
                have hn1 := ho2.good.pos e he
                have hn2 := ho2.most e he
                have hg := one_get w.heap.size top2 [kb] ga pb cb [bytes] 0 g xg mb bs2 O2 p2 es2 e.id ⟨by omega, by omega⟩ e HFD.out wr ho2
                rw [hid] at d0
                rw [hid] at HPREV
                generalize e.id = nid at *
                clear hiv hid ho2 he hia
                go_wp2_with fail
                refine hg.mono ?_
                rintro e' w7 ⟨v7, rfl, hb7, hf7⟩
                have HF7 : Hid (Fr0 w6 w7) := Lib.hid (HFx.out.trans' hf7)
                have d7 := (hf7.cell (p := ⟨ib, io + m, none⟩) (World.block_lt_of_cell? wr _ d0) (fun f => f)).trans d0
                have hcv := fun nq : Nat => (hb7.fr0 ((Fr.refl _ w7).drewN nq)).convert (P := Try.prog) 32 9 5 Try.underlying32 Try.underlying5 Try.underlying9
                have hlk : ∀ nq : Nat, (Instr.lookup 59 (.map (some kb)) (.int .i64 nid) false).run Try.prog (w7.drewN nq) = .ok (.string ⟨e.x.toArray⟩) (w7.drewN nq) := fun nq => by
                  obtain ⟨n, _, hmm⟩ := (HKx.out.fr0 (hf7.trans' ((Fr.refl _ _).drewN nq))).map
                  exact lookS_one hmm ⟨by omega, by omega⟩ HFD.out
                generalize (⟨e.x.toArray⟩ : ByteArray) = sx at *
                have HP7 : Hid (∀ q, q < m → (ids es2).getD q 0 < nid ∧ w7.cell? ⟨ib, io + q, none⟩ = some (.int .i64 ((ids es2).getD q 0))) := Lib.hid (fun q hq => by
                  obtain ⟨h4, h5⟩ := HPREV.out q hq
                  exact ⟨h4, (hf7.cell (p := ⟨ib, io + q, none⟩) (World.block_lt_of_cell? wr _ h5) (fun f => f)).trans h5⟩)
                clear hg hb7 hf7 d0 HPREV
                cases m with
                | zero =>
                  rw [Nat.add_zero] at d7
                  go_wp2
                  go_quiet (fail)
                  go_wp2
                  go_roundg (es2.length - (0 + 1))
                  case measure => omega
                  case rel => exact ⟨0 + 1, by simp, by omega, by omega, Lib.hid (HF7.out.drewN _)⟩
                | succ q =>
                  obtain ⟨hpl, dp⟩ := HP7.out q (by omega)
                  generalize (ids es2).getD q 0 = pid at *
                  go_wp2
                  go_quiet (fail)
                  go_wp2
                  go_roundg (es2.length - (q + 1 + 1))
                  case measure => omega
                  case rel => exact ⟨q + 1 + 1, by simp, by omega, by omega, Lib.hid (HF7.out.drewN _)⟩
              · obtain rfl : m = es2.length := by omega
                have HK9 := HKx
                go_wp2
                go_roundg (Q.length - (j + 1))
                case measure => omega
                case rel => exact ⟨j + 1, p2, es2, rfl, by simp, by omega, by omega, by omega, hlv2, HK9⟩
      · obtain rfl : j = Q.length := by omega
        have HF := Lib.hid HK.out.fr
        go_wp2
        go_ret
        exact ⟨rfl, HF.out⟩
end Go.Proofs.Ytkdpdbjefehmpaa.Hold
