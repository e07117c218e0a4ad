/-
  The walk of the reference's Feed.
-/
import Derived.Test.YtggdpmfghbnhcaaDoorFrameRefGo
import Derived.Test.YtggdpmfghbnhcaaDoorFrameRef
import Derived.Test.YtggdpmfghbnhcaaDoorFrameFeed
namespace Go.Proofs.YtggdpmfghbnhcaaDoor.Frame
open Go.RowKit Base Pack Crc

theorem ref_whole {W : List UInt8} {F : St} {acc : List Pc} (h2 : len2 W ≤ 512) (h3 : len2 W + 6 ≤ W.length) (hF : F = ⟨acc ++ (cut W).l, (cut W).w, (cut W).d⟩) :
    F = ⟨(acc ++ [if frameOf ((W.drop 2).take (len2 W)) = W.take (len2 W + 6) then ⟨(W.drop 2).take (len2 W), 0⟩ else ⟨[], 4⟩]) ++ (cut (W.drop (len2 W + 6))).l, (cut (W.drop (len2 W + 6))).w, (cut (W.drop (len2 W + 6))).d⟩ := by
  have hj : judge W = if frameOf ((W.drop 2).take (len2 W)) = W.take (len2 W + 6) then ⟨(W.drop 2).take (len2 W), 0⟩ else ⟨[], 4⟩ := by
    unfold judge
    rw [sound_iff (by omega) h2 h3]
    by_cases h : frameOf ((W.drop 2).take (len2 W)) = W.take (len2 W + 6) <;> simp [h]
  rw [hF, cut_whole h2 h3, hj]
  simp
theorem ref_dies {W : List UInt8} {F : St} {acc : List Pc} (h1 : 2 ≤ W.length) (h2 : 512 < len2 W) (hF : F = ⟨acc ++ (cut W).l, (cut W).w, (cut W).d⟩) : F = ⟨acc ++ [⟨[], 2⟩], [], true⟩ := by
  rw [hF, cut_dead h1 h2]
set_option maxHeartbeats 1000000 in
theorem refFeed_dead (g : Nat) (q : Option Nat) (l b : List UInt8) (v : Value) (w : World) (h : RefAt w g q l true) (hl : l = []) :
    Calls Tryd.prog 17 #[ptr g, v] w (RFeedPost g q l true b w) := by
  have HR := Lib.hid h
  obtain ⟨sv, hq, hr, hb⟩ := h
  have c1 : w.cell? ⟨g, 1, none⟩ = some (.bool true) := hr.cell (i := 1) (by decide)
  have hF : feed l true b = ⟨[], [], true⟩ := rfl
  subst hl
  clear hr hb hq
  unfold ptr
  go_enter Tryd.func17, Tryd.ntmps17
  go_wp2
  go_ret
  exact ⟨_, q, rfl, by rw [hF]; exact HR.out, .inl rfl, by rw [hF]; exact ⟨[], Lie.nil _ _, ValsIs.nil _, fun a n c h => by cases h⟩, Fr.refl _ _⟩
set_option maxRecDepth 100000 in
set_option maxHeartbeats 4000000 in
theorem refFeed_live (g : Nat) (q : Option Nat) (l b : List UInt8) (v : Value) (w : World) (h : RefAt w g q l false) (hll : l.length ≤ 1000) (hbl : b.length ≤ 1000000000) (hB : BytesIs w v b) :
    Calls Tryd.prog 17 #[ptr g, v] w (RFeedPost g q l false b w) := by
  obtain ⟨sv, hq, hr, hb⟩ := h
  have c0 : w.cell? ⟨g, 0, none⟩ = some sv := hr.cell (i := 0) (by decide)
  have c1 : w.cell? ⟨g, 1, none⟩ = some (.bool false) := hr.cell (i := 1) (by decide)
  obtain ⟨a0, cp0, rfl⟩ := hb.form
  obtain ⟨a1, cp1, rfl⟩ := hB.form
  have HR := Lib.hid hr
  have HBL := Lib.hid hb
  have HB := Lib.hid hB
  have hgw := hr.lt
  clear hq hr hb hB
  have HF0 := Lib.hid ((Fr.refl (fun _ => False) w).alloc (.cells #[] 5))
  have hfeed : feed l false b = cut (l ++ b) := rfl
  have HFEED := Lib.hid hfeed
  clear hfeed
  unfold ptr
  go_enter Tryd.func17, Tryd.ntmps17
  go_wp2_with (refine wpList_append_bytes rfl (.tmp 14) (.tmp 18) 23 rfl w.heap.size 5 Tryd.underlying23 info8 _ _ 0 [] l rfl rfl (owns_empty w w.heap.size 5 (Nat.le_refl _) w.heap.size rfl) (HBL.out.fr0 HF0.out) (by omega) HF0.out.size ?_)
  intro v1 w1 hO1 hG1
  have HF1 : Hid (Fr0 w w1) := Lib.hid (HF0.out.grown hG1 (fun k hk e => by cases e; exact absurd hk (Nat.lt_irrefl _)))
  have HO1 := Lib.hid hO1
  have c0' : w1.cell? ⟨g, 0, none⟩ = some (.slice a0 l.length cp0) := (HF1.out.cell (p := ⟨g, 0, none⟩) hgw (fun f => f)).trans c0
  clear hO1 hG1 c0 c1
  go_wp2_with (refine wpList_append_bytes rfl (.tmp 19) (.tmp 20) 23 rfl w.heap.size 5 Tryd.underlying23 info8 _ _ l.length l b rfl rfl HO1.out (HB.out.fr0 HF1.out) (by omega) HF1.out.size ?_)
  intro v2 w2 hO2 hG2
  have HF2 : Hid (Fr0 w w2) := Lib.hid (HF1.out.grown hG2 (fun k hk e => by have := (HO1.out.lt k e).1; omega))
  obtain ⟨A2, C2, rfl, hA2⟩ := owns_form hO2
  have c2 : w2.cell? ⟨g, 0, none⟩ = some (.slice a0 l.length cp0) := (HF2.out.cell (p := ⟨g, 0, none⟩) hgw (fun f => f)).trans ((HF1.out.cell (p := ⟨g, 0, none⟩) hgw (fun f => f)).symm.trans c0')
  have d2 : w2.frozen? ⟨g, 0, none⟩ = false := (HF2.out.row HR.out (fun f => f)).frozen 0
  have hlen : l.length + b.length = (l ++ b).length := by rw [List.length_append]
  have HI0 : Hid (RefIn w g (.slice none 0 0) A2 C2 (l ++ b) (w2.setCell ⟨g, 0, none⟩ (.slice A2 (l.length + b.length) C2))) := Lib.hid (by
    rw [hlen] at hO2 ⊢
    refine ⟨((HF2.out.row HR.out (fun f => f)).set 0 _).congr (fun i hi => ?_), bytes_keep (BytesIs.own hO2) (Fr.setCell (S := fun k => k = g) (p := ⟨g, 0, none⟩) (Fr.refl _ _) (fun _ => rfl) _) (fun a n c hv _ e => ?_), fun p hp => ⟨(hA2 p hp).1, fun e => by cases e⟩⟩
    · match i, hi with
      | 0, _ => rfl
      | 1, _ => rfl
    · simp only [Value.slice.injEq] at hv
      have := (hA2 a hv.1).1
      omega)
  have HAL0 : Hid (∀ p, A2 = some p → p.block < (w2.setCell ⟨g, 0, none⟩ (.slice A2 (l.length + b.length) C2)).heap.size) := Lib.hid (fun p hp => by have := (hA2 p hp).2; simpa [World.setCell] using this)
  have HK0 : Hid (CarryR w g (.slice none 0 0) [] [] (w2.setCell ⟨g, 0, none⟩ (.slice A2 (l.length + b.length) C2))) := Lib.hid ⟨World.ownsRow_nil _ _ _ _, Lie.nil _ _, Fr.setCell (S := fun k => k = g) (p := ⟨g, 0, none⟩) (HF2.out.mono (fun _ _ f => f.elim)) (fun _ => rfl) _, hgw⟩
  clear hO2 hG2 c0' hlen hA2
  obtain ⟨F, hF⟩ : ∃ F, F = feed l false b := ⟨_, rfl⟩
  have HFE := Lib.hid hF
  have HS0 : Hid (F = ⟨[] ++ (cut (l ++ b)).l, (cut (l ++ b)).w, (cut (l ++ b)).d⟩) := Lib.hid (by rw [hF, HFEED.out]; rfl)
  have hlb : (l ++ b).length ≤ 1000001000 := by rw [List.length_append]; omega
  clear hF
  go_wp2_with fail
  go_loopg [5] (l ++ b).length (fun kx vl wr => ∃ W A C acc X, W.length ≤ kx ∧ acc.length + W.length ≤ 1000001000 ∧ Hid (RefIn w g vl A C W wr) ∧ Hid (∀ p, A = some p → p.block < wr.heap.size) ∧ Hid (CarryR w g vl acc X wr) ∧ Hid (F = ⟨acc ++ (cut W).l, (cut W).w, (cut W).d⟩))
  case atStart => exact ⟨l ++ b, A2, C2, [], [], Nat.le_refl _, by simpa using hlb, HI0, HAL0, HK0, HS0⟩
  case round =>
    clear HI0 HAL0 HK0 HS0
    obtain ⟨W, A, C, acc, X, hkx, hroom, HI, HAL, HK, HS⟩ := hrel
    have c3 : wr.cell? ⟨g, 0, none⟩ = some (.slice A W.length C) := HI.out.1.cell (i := 0) (by decide)
    have HEND : Hid (errOf W = 3 → ∀ w5, Fr0 wr w5 → RFeedPost g q l false b w (.returned u5) w5) := Lib.hid (fun he w5 hf5 => by
      have hfr := round_more he
      have hFF : F = ⟨acc, W, false⟩ := by rw [HS.out, hfr.cut]; simp
      have hi5 := HI.out.fr0 hf5
      have hk5 := HK.out.fr0 hf5
      exact ⟨u5, _, rfl, by rw [← HFE.out, hFF]; exact ⟨_, rfl, hi5.1, hi5.2.1⟩, .inr (fun k hk => by
        cases A with
        | none => cases hk
        | some p => cases hk; exact (HI.out.2.2 p rfl).1), by rw [← HFE.out, hFF]; exact hk5.pieces, hk5.fr⟩)
    by_cases h2 : W.length < 2
    · have he : errOf W = 3 := by unfold errOf; rw [if_pos h2]
      go_wp2
      go_ret
      exact HEND.out he wr (Fr.refl _ _)
    · have hW2 := len2_eq (W := W) (by omega)
      obtain ⟨A', C', pb, po, hv, hWC, hAa, hcell⟩ := HI.out.2.1
      simp only [Value.slice.injEq] at hv
      obtain ⟨rfl, _, rfl⟩ := hv
      obtain rfl := hAa (by omega)
      have e0 := hcell 0 (by omega)
      have e1 := hcell 1 (by omega)
      rw [Nat.add_zero] at e0
      have hx := (W.getD 0 0).toNat_lt
      have hy := (W.getD 1 0).toNat_lt
      generalize (W.getD 0 0).toNat = x at *
      generalize (W.getD 1 0).toNat = y at *
      have i1 : (0 : Int) < (W.length : Int) := by omega
      have i2 : (1 : Int) < (W.length : Int) := by omega
      obtain ⟨n, hn⟩ : ∃ n, n = len2 W := ⟨_, rfl⟩
      rw [← hn] at hW2
      have HN := Lib.hid hn
      have hxy : (x : Int) * 256 + (y : Int) = (n : Int) := by omega
      have HWC := Lib.hid hWC
      have HXY := Lib.hid hxy
      clear hn hcell hAa hWC hW2 hxy
      go_wp2
      go_quiet (fail)
      rw [HXY.out]
      clear hx hy e0 e1 i1 i2
      have HD := Lib.hid ((Fr.refl (fun _ => False) wr).drewN nq)
      generalize wr.drewN nq = w5 at *
      have HI5 := Lib.hid (HI.out.fr0 HD.out)
      have HK5 := Lib.hid (HK.out.fr0 HD.out)
      have c5 : w5.cell? ⟨g, 0, none⟩ = some (.slice (some ⟨pb, po, none⟩) W.length C) := HI5.out.1.cell (i := 0) (by decide)
      have c51 : w5.cell? ⟨g, 1, none⟩ = some (.bool false) := HI5.out.1.cell (i := 1) (by decide)
      have d5 : w5.frozen? ⟨g, 0, none⟩ = false := HI5.out.1.frozen 0
      have d51 : w5.frozen? ⟨g, 1, none⟩ = false := HI5.out.1.frozen 1
      clear c3
      by_cases hbig : 512 < n
      · have HDI := Lib.hid (ref_dies (by omega) (by rw [← HN.out]; exact hbig) HS.out)
        have hf6 : Fr (fun k => k = g) w5 ((w5.setCell ⟨g, 1, none⟩ (.bool true)).setCell ⟨g, 0, none⟩ (.slice none 0 0)) := Fr.setCell (S := fun k => k = g) (p := ⟨g, 0, none⟩) (Fr.setCell (S := fun k => k = g) (p := ⟨g, 1, none⟩) (Fr.refl _ _) (fun _ => rfl) _) (fun _ => rfl) _
        have HF7 := Lib.hid ((Fr.refl (fun _ => False) ((w5.setCell ⟨g, 1, none⟩ (.bool true)).setCell ⟨g, 0, none⟩ (.slice none 0 0))).alloc (.cells #[.slice none 0 0, .int .i64 2] 60))
        have HR6 : Hid (((w5.setCell ⟨g, 1, none⟩ (.bool true)).setCell ⟨g, 0, none⟩ (.slice none 0 0)).rowIs g 37 2 (fun i => if i = 0 then .slice none 0 0 else .bool true)) := Lib.hid (((HI5.out.1.set 1 _).set 0 _).congr (fun i hi => by
          match i, hi with
          | 0, _ => rfl
          | 1, _ => rfl))
        have HK7 := Lib.hid ((HK5.out.step hf6).fr0 HF7.out)
        clear hf6
        go_wp2_with (refine wpList_append_valsN rfl (.tmp 54) (.tmp 56) 39 rfl w.heap.size 60 Tryd.underlying39 (.agg #[.slice none 0 0, .int .i64 0]) 2 32 infoRPc rfl (by decide) _ _ acc.length 1 (kcells X) [(.slice none 0 0), .int .i64 2] rfl rfl HK7.out.row (pair_one ((w5.setCell ⟨g, 1, none⟩ (.bool true)).setCell ⟨g, 0, none⟩ (.slice none 0 0)) _ _ _ _ (by simp)) (by decide) rfl (by intro u hu; simp at hu; rcases hu with rfl | rfl <;> rfl) (by unfold maxLen; omega) (by omega) HK7.out.fr.size ?_)
        intro v8 w8 hO8 hG8 hN8
        have hf8 : Fr (fun k => u5.ownBlock = some k) (((w5.setCell ⟨g, 1, none⟩ (.bool true)).setCell ⟨g, 0, none⟩ (.slice none 0 0)).alloc (.cells #[.slice none 0 0, .int .i64 2] 60)) w8 := Fr.of_grown hG8 (fun k hk e => e)
        have HK8 := Lib.hid (HK7.out.snoc (.slice none 0 0) (⟨[], 2⟩ : Pc) (BytesIs.nil _) (fun a n c h => by cases h) rfl hf8 hO8 hN8)
        have HR8 := Lib.hid (hf8.row (HF7.out.row HR6.out (fun f => f)) (fun e => by have := (HK7.out.row.lt _ e).1; omega))
        clear hO8 hG8 hN8 hf8
        go_wp2
        go_ret
        exact ⟨_, none, rfl, by rw [← HFE.out, HDI.out]; exact ⟨_, rfl, HR8.out, BytesIs.nil _⟩, .inr (fun k h => by cases h), by rw [← HFE.out, HDI.out]; exact HK8.out.pieces, HK8.out.fr⟩
      · by_cases h3 : W.length < n + 6
        · have he : errOf W = 3 := by unfold errOf; rw [if_neg h2, ← HN.out, if_neg hbig, if_pos h3]
          go_wp2
          go_ret
          exact HEND.out he w5 HD.out
        · have h6 : n + 6 ≤ W.length := by omega
          have HW := Lib.hid (ref_whole (by rw [← HN.out]; omega) (by rw [← HN.out]; exact h6) HS.out)
          rw [← HN.out] at HW
          obtain ⟨A7, r7, b7, _⟩ := cut_bytes (P := Tryd.prog) 23 5 Tryd.underlying23 (by kernel_rfl) HI5.out.2.1 2 (n + 2) (by omega) (by omega) 2 ((n : Int) + 2) (by rfl) (by omega)
          simp only [Nat.add_sub_cancel] at r7 b7
          have HB7 := Lib.hid b7
          have hpl : ((W.drop 2).take n).length = n := by rw [List.length_take, List.length_drop]; omega
          have HPL := Lib.hid hpl
          have r8 : ∀ wx : World, (Instr.sliceAt 23 (.slice (some ⟨pb, po, none⟩) W.length C) none (some (.int .i64 ((n : Int) + 6))) none).run Tryd.prog wx = .ok (.slice (some ⟨pb, po, none⟩) (n + 6) C) wx := fun wx => by
            rw [show (n : Int) + 6 = ((n + 6 : Nat) : Int) from by omega]
            exact cut_hi_at (P := Tryd.prog) 23 5 Tryd.underlying23 (by kernel_rfl) _ W.length C (n + 6) (by have := HWC.out; omega) wx
          have HB8 : Hid (BytesIs w5 (.slice (some ⟨pb, po, none⟩) (n + 6) C) (W.take (n + 6))) := Lib.hid (BytesIs.takeHi h6 HI5.out.2.1)
          generalize (W.drop 2).take n = p at *
          clear b7 hpl
          have hfm := refFrame_any (.slice A7 n (C - 2)) p (by have := HPL.out; omega) w5 HB7.out
          have HPO : Hid (putOut p = frameOf p) := Lib.hid (by unfold putOut; rw [if_neg (by have := HPL.out; omega)])
          go_wp2_with fail
          refine hfm.mono ?_
          rintro e w6 ⟨v6, rfl, hB6, hF6⟩
          rw [HPO.out] at hB6
          generalize putErr p = pe at *
          obtain ⟨a6, n6, c6, rfl⟩ := hB6.slice
          have c60 : w6.cell? ⟨g, 0, none⟩ = some (.slice (some ⟨pb, po, none⟩) W.length C) := (hF6.cell (p := ⟨g, 0, none⟩) HI5.out.1.lt (fun f => f)).trans c5
          have hcv1 := fun nq : Nat => (hB6.fr0 ((Fr.refl _ w6).drewN nq)).convert (P := Tryd.prog) 23 9 5 Tryd.underlying23 Tryd.underlying5 Tryd.underlying9
          have hcv2 := fun nq : Nat => (HB8.out.fr0 (hF6.drewN nq)).convert (P := Tryd.prog) 23 9 5 Tryd.underlying23 Tryd.underlying5 Tryd.underlying9
          have HF6 := Lib.hid hF6
          have hss : (⟨(frameOf p).toArray⟩ : ByteArray) = ⟨(W.take (n + 6)).toArray⟩ ↔ frameOf p = W.take (n + 6) := by
            constructor
            · intro h
              have h := congrArg (fun x : ByteArray => x.data.toList) h
              simpa using h
            · intro h; rw [h]
          have HSS := Lib.hid hss
          clear hfm hB6 hF6 c5 c51 d5 d51 hss
          generalize (⟨(frameOf p).toArray⟩ : ByteArray) = s1 at *
          generalize (⟨(W.take (n + 6)).toArray⟩ : ByteArray) = s2 at *
          by_cases hs : s1 = s2
          · have HEQ := Lib.hid (HSS.out.1 hs)
            subst hs
            go_wp2
            go_quiet (fail)
            have HF8 := Lib.hid (HF6.out.drewN nq)
            have c8 : (w6.drewN nq).cell? ⟨g, 0, none⟩ = some (.slice (some ⟨pb, po, none⟩) W.length C) := c60
            clear hcv1 hcv2 c60
            generalize w6.drewN nq = w8 at *
            have HW1 := Lib.hid (by have := HW.out; rw [if_pos HEQ.out] at this; exact this)
            have HB8' := Lib.hid (HB7.out.fr0 (HF8.out.alloc (.cells #[] 5)))
            have hpn := HPL.out
            have c8a : (w8.alloc (.cells #[] 5)).cell? ⟨g, 0, none⟩ = some (.slice (some ⟨pb, po, none⟩) W.length C) := (((Fr.refl (fun _ => False) w8).alloc (.cells #[] 5)).cell (p := ⟨g, 0, none⟩) (World.block_lt_of_cell? w8 _ c8) (fun f => f)).trans c8
            clear HW HEQ HSS HB8 r8
            go_wp2_with (refine wpList_append_bytes rfl (.tmp 89) (.tmp 96) 23 rfl w8.heap.size 5 Tryd.underlying23 info8 _ _ 0 [] p rfl rfl (owns_empty w8 w8.heap.size 5 (Nat.le_refl _) w8.heap.size rfl) HB8'.out (by omega) (by simp) ?_)
            intro v9 w9 hO9 hG9
            have HF9 : Hid (Fr0 w8 w9) := Lib.hid (((Fr.refl (fun _ => False) w8).alloc (.cells #[] 5)).grown hG9 (fun k hk e => by cases e; exact absurd hk (Nat.lt_irrefl _)))
            obtain ⟨A9, C9, rfl, hA9⟩ := owns_form hO9
            have HB9 := Lib.hid (BytesIs.own hO9)
            have HA9 := Lib.hid hA9
            clear hO9 hG9 hA9 hpn
            have HF10 : Hid (Fr0 w5 (w9.alloc (.cells #[(.slice A9 n C9), .int .i64 0] 60))) := Lib.hid ((HF8.out.trans' HF9.out).alloc _)
            have HK10 := Lib.hid (HK5.out.fr0 HF10.out)
            have HI10 := Lib.hid (HI5.out.fr0 HF10.out)
            have HAL10 : Hid (∀ q, some (⟨pb, po, none⟩ : Addr) = some q → q.block < (w9.alloc (.cells #[(.slice A9 n C9), .int .i64 0] 60)).heap.size) := Lib.hid (fun q hq => Nat.lt_of_lt_of_le (HAL.out q hq) (HD.out.trans' HF10.out).size)
            have HPC : Hid (Clear (fun k => k < w.heap.size ∨ u5.ownBlock = some k) (.slice A9 n C9) (⟨p, 0⟩ : Pc).b) := Lib.hid (fun a m c hv _ e => by
              simp only [Value.slice.injEq] at hv
              have h1 := (HA9.out a hv.1).1
              have h2 := (HK5.out.fr0 HF8.out).fr.size
              rcases e with e | e
              · omega
              · have := ((HK5.out.fr0 HF8.out).row.lt _ e).2; omega)
            have HPB : Hid (BytesIs (w9.alloc (.cells #[(.slice A9 n C9), .int .i64 0] 60)) (.slice A9 n C9) (⟨p, 0⟩ : Pc).b) := Lib.hid (HB9.out.fr0 ((Fr.refl _ _).alloc _))
            go_wp2_with (refine wpList_append_valsN rfl (.tmp 88) (.tmp 99) 39 rfl w.heap.size 60 Tryd.underlying39 (.agg #[.slice none 0 0, .int .i64 0]) 2 32 infoRPc rfl (by decide) _ _ acc.length 1 (kcells X) [(.slice A9 n C9), .int .i64 0] rfl rfl HK10.out.row (pair_one w9 _ _ _ _ (by simp)) (by decide) rfl (by intro u hu; simp at hu; rcases hu with rfl | rfl <;> rfl) (by unfold maxLen; omega) (by omega) HK10.out.fr.size ?_)
            intro v11 w11 hO11 hG11 hN11
            have hf11 : Fr (fun k => u5.ownBlock = some k) (w9.alloc (.cells #[(.slice A9 n C9), .int .i64 0] 60)) w11 := Fr.of_grown hG11 (fun k hk e => e)
            have HK11 := Lib.hid (HK10.out.snoc (.slice A9 n C9) (⟨p, 0⟩ : Pc) HPB.out HPC.out rfl hf11 hO11 hN11)
            have HI11 : Hid (RefIn w g v11 (some ⟨pb, po, none⟩) C W w11) := Lib.hid (HI10.out.snoc HK10.out hf11 hN11 HAL10.out)
            have c11 : w11.cell? ⟨g, 0, none⟩ = some (.slice (some ⟨pb, po, none⟩) W.length C) := HI11.out.1.cell (i := 0) (by decide)
            have d11 : w11.frozen? ⟨g, 0, none⟩ = false := HI11.out.1.frozen 0
            obtain ⟨A12, C12, b12, r12, k12⟩ := cut_lo_b (P := Tryd.prog) 23 5 Tryd.underlying23 (by kernel_rfl) HI11.out.2.1 (n + 6) h6 ((n : Int) + 6) (by omega)
            have HI12 := Lib.hid (HI11.out.cut hgw h6 b12 k12)
            have HK12 : Hid (CarryR w g v11 (acc ++ [(⟨p, 0⟩ : Pc)]) (X ++ [((.slice A9 n C9), 0)]) (w11.setCell ⟨g, 0, none⟩ (.slice A12 (W.length - (n + 6)) C12))) := Lib.hid (HK11.out.step (Fr.setCell (S := fun k => k = g) (p := ⟨g, 0, none⟩) (Fr.refl _ _) (fun _ => rfl) _))
            have HAL12 : Hid (∀ p, A12 = some p → p.block < (w11.setCell ⟨g, 0, none⟩ (.slice A12 (W.length - (n + 6)) C12)).heap.size) := Lib.hid (fun p hp => by
              obtain ⟨p', hp', hpb⟩ := k12 p hp
              have h1 := HAL10.out p' hp'
              have h2 := hf11.size
              rw [hpb]
              simp only [World.setCell, Array.size_modify] at *
              omega)
            have hdl : (W.drop (n + 6)).length = W.length - (n + 6) := List.length_drop
            clear hO11 hG11 hN11 hf11 b12 k12
            go_wp2
            go_roundg (W.drop (n + 6)).length
            case measure => omega
            case rel => exact ⟨W.drop (n + 6), A12, C12, acc ++ [(⟨p, 0⟩ : Pc)], X ++ [((.slice A9 n C9), 0)], Nat.le_refl _, by rw [List.length_append, List.length_singleton]; omega, HI12, HAL12, HK12, HW1⟩
          · have HEQ := Lib.hid (fun h => hs (HSS.out.2 h))
            have hb1 := str_ne hs
            go_wp2
            go_quiet (fail)
            have HF8 := Lib.hid (HF6.out.drewN nq)
            have c8 : (w6.drewN nq).cell? ⟨g, 0, none⟩ = some (.slice (some ⟨pb, po, none⟩) W.length C) := c60
            clear hcv1 hcv2 c60 hs hb1
            generalize w6.drewN nq = w8 at *
            have HW1 := Lib.hid (by have := HW.out; rw [if_neg HEQ.out] at this; exact this)
            clear HW HEQ HSS HB8 r8
            have HF10 : Hid (Fr0 w5 (w8.alloc (.cells #[(.slice none 0 0), .int .i64 4] 60))) := Lib.hid (HF8.out.alloc _)
            have HK10 := Lib.hid (HK5.out.fr0 HF10.out)
            have HI10 := Lib.hid (HI5.out.fr0 HF10.out)
            have HAL10 : Hid (∀ q, some (⟨pb, po, none⟩ : Addr) = some q → q.block < (w8.alloc (.cells #[(.slice none 0 0), .int .i64 4] 60)).heap.size) := Lib.hid (fun q hq => Nat.lt_of_lt_of_le (HAL.out q hq) (HD.out.trans' HF10.out).size)
            have HPC : Hid (Clear (fun k => k < w.heap.size ∨ u5.ownBlock = some k) (.slice none 0 0) (⟨[], 4⟩ : Pc).b) := Lib.hid (fun a m c hv => by cases hv)
            have HPB : Hid (BytesIs (w8.alloc (.cells #[(.slice none 0 0), .int .i64 4] 60)) (.slice none 0 0) (⟨[], 4⟩ : Pc).b) := Lib.hid (BytesIs.nil _)
            go_wp2_with (refine wpList_append_valsN rfl (.tmp 101) (.tmp 103) 39 rfl w.heap.size 60 Tryd.underlying39 (.agg #[.slice none 0 0, .int .i64 0]) 2 32 infoRPc rfl (by decide) _ _ acc.length 1 (kcells X) [(.slice none 0 0), .int .i64 4] rfl rfl HK10.out.row (pair_one w8 _ _ _ _ (by simp)) (by decide) rfl (by intro u hu; simp at hu; rcases hu with rfl | rfl <;> rfl) (by unfold maxLen; omega) (by omega) HK10.out.fr.size ?_)
            intro v11 w11 hO11 hG11 hN11
            have hf11 : Fr (fun k => u5.ownBlock = some k) (w8.alloc (.cells #[(.slice none 0 0), .int .i64 4] 60)) w11 := Fr.of_grown hG11 (fun k hk e => e)
            have HK11 := Lib.hid (HK10.out.snoc (.slice none 0 0) (⟨[], 4⟩ : Pc) HPB.out HPC.out rfl hf11 hO11 hN11)
            have HI11 : Hid (RefIn w g v11 (some ⟨pb, po, none⟩) C W w11) := Lib.hid (HI10.out.snoc HK10.out hf11 hN11 HAL10.out)
            have c11 : w11.cell? ⟨g, 0, none⟩ = some (.slice (some ⟨pb, po, none⟩) W.length C) := HI11.out.1.cell (i := 0) (by decide)
            have d11 : w11.frozen? ⟨g, 0, none⟩ = false := HI11.out.1.frozen 0
            obtain ⟨A12, C12, b12, r12, k12⟩ := cut_lo_b (P := Tryd.prog) 23 5 Tryd.underlying23 (by kernel_rfl) HI11.out.2.1 (n + 6) h6 ((n : Int) + 6) (by omega)
            have HI12 := Lib.hid (HI11.out.cut hgw h6 b12 k12)
            have HK12 : Hid (CarryR w g v11 (acc ++ [(⟨[], 4⟩ : Pc)]) (X ++ [((.slice none 0 0), 4)]) (w11.setCell ⟨g, 0, none⟩ (.slice A12 (W.length - (n + 6)) C12))) := Lib.hid (HK11.out.step (Fr.setCell (S := fun k => k = g) (p := ⟨g, 0, none⟩) (Fr.refl _ _) (fun _ => rfl) _))
            have HAL12 : Hid (∀ p, A12 = some p → p.block < (w11.setCell ⟨g, 0, none⟩ (.slice A12 (W.length - (n + 6)) C12)).heap.size) := Lib.hid (fun p hp => by
              obtain ⟨p', hp', hpb⟩ := k12 p hp
              have h1 := HAL10.out p' hp'
              have h2 := hf11.size
              rw [hpb]
              simp only [World.setCell, Array.size_modify] at *
              omega)
            have hdl : (W.drop (n + 6)).length = W.length - (n + 6) := List.length_drop
            clear hO11 hG11 hN11 hf11 b12 k12
            go_wp2
            go_roundg (W.drop (n + 6)).length
            case measure => omega
            case rel => exact ⟨W.drop (n + 6), A12, C12, acc ++ [(⟨[], 4⟩ : Pc)], X ++ [((.slice none 0 0), 4)], Nat.le_refl _, by rw [List.length_append, List.length_singleton]; omega, HI12, HAL12, HK12, HW1⟩
end Go.Proofs.YtggdpmfghbnhcaaDoor.Frame
