/-
  The walk of Feed.
-/
import Derived.Test.YtggdpmfghbnhcaaDoorFrameGo
import Derived.Test.YtggdpmfghbnhcaaDoorFrameLay
import Derived.Test.YtggdpmfghbnhcaaDoorFrameCut
import Derived.Test.YtggdpmfghbnhcaaDoorHeld
import Derived.Deep.LoopGhost
namespace Go.Proofs.YtggdpmfghbnhcaaDoor.Frame
open Go.RowKit Base Pack Crc

theorem pair_one (w : World) (c0 c1 : Value) (t : TypeId) (N : Nat) (hN : N = w.heap.size) : ValsIs (w.alloc (.cells #[c0, c1] t)) (.slice (some ⟨N, 0, none⟩) 1 1) 1 [c0, c1] := by
  subst hN
  refine ⟨_, 1, w.heap.size, 0, rfl, Nat.le_refl _, fun _ => rfl, fun j hj => ?_⟩
  rw [cell_of_row _ _ _ _ _ _ (heap_alloc_new w _)]
  match j, hj with
  | 0, _ => rfl
  | 1, _ => rfl
/-- where Feed stands -/
def Stands (F : St) (acc : List Pc) (wt bk : List UInt8) (dd : Bool) : Prop := (dd = false ∧ Fro wt ∧ F = ⟨acc ++ (cut (wt ++ bk)).l, (cut (wt ++ bk)).w, (cut (wt ++ bk)).d⟩) ∨ (dd = true ∧ wt = [] ∧ F = ⟨acc, [], true⟩)
theorem Stands.done {F : St} {acc : List Pc} {wt bk : List UInt8} {dd : Bool} (h : Stands F acc wt bk dd) (he : bk = [] ∨ dd = true) : F = ⟨acc, wt, dd⟩ := by
  rcases h with ⟨rfl, hf, hF⟩ | ⟨rfl, rfl, hF⟩
  · rcases he with rfl | he
    · rw [hF, List.append_nil, hf.cut]; simp
    · cases he
  · exact hF
theorem stands_first (l b : List UInt8) (d : Bool) (hok : Ok l d) : Stands (feed l d b) [] l b d := by
  unfold Ok at hok
  cases d with
  | false => exact .inl ⟨rfl, by simpa using hok, by unfold feed; simp⟩
  | true => exact .inr ⟨rfl, by simpa using hok, by unfold feed; simp⟩
theorem Stands.fro {F : St} {acc : List Pc} {wt bk : List UInt8} (h : Stands F acc wt bk false) : Fro wt ∧ F = ⟨acc ++ (cut (wt ++ bk)).l, (cut (wt ++ bk)).w, (cut (wt ++ bk)).d⟩ := by
  rcases h with ⟨_, hf, hF⟩ | ⟨h, _⟩
  · exact ⟨hf, hF⟩
  · cases h
set_option maxRecDepth 100000 in
set_option maxHeartbeats 4000000 in
theorem feed_any (g : Nat) (q : Option Nat) (l : List UInt8) (d : Bool) (b : List UInt8) (v : Value) (w : World) (hok : Ok l d) (h : CutAt w g q l d) (hbl : b.length ≤ 1000000000) (hB : BytesIs w v b) (hc : Clear (V g q) v b) (hRt : Rests w) (hrg : ¬ V g q 0) :
    Calls Tryd.prog 12 #[ptr g, v] w (FeedPost g q l d b w) := by
  have HB0 := Lib.hid hB
  have HA0 : Hid (Aside w g q v b) := Lib.hid (fun A m c hv hl => ⟨bytes_lt hB A m c hv hl, hc A m c hv hl⟩)
  have HC0 := Lib.hid h
  have HRT := Lib.hid hRt
  have HRG := Lib.hid hrg
  have HK0 : Hid (Carry w g q q (.slice none 0 0) [] [] w) := Lib.hid ⟨.inl rfl, World.ownsRow_nil _ _ _ _, Lie.nil _ _, Fr.refl _ _, h.lt⟩
  have HS0 := Lib.hid (stands_first l b d hok)
  obtain ⟨F, hF⟩ : ∃ F, F = feed l d b := ⟨_, rfl⟩
  have HFE := Lib.hid hF
  rw [← hF] at HS0
  obtain ⟨a0, c0, rfl⟩ := hB.form
  clear hB hc h hRt hrg hok hF
  unfold ptr
  go_enter Tryd.func12, Tryd.ntmps12
  go_wp2
  go_loopg [1, 5] b.length (fun kx vb vl wr => ∃ wt bk q' dd acc X, bk.length ≤ kx ∧ acc.length + bk.length ≤ b.length ∧ Hid (BytesIs wr vb bk) ∧ Hid (Aside w g q vb bk) ∧ Hid (CutAt wr g q' wt dd) ∧ Hid (Carry w g q q' vl acc X wr) ∧ Hid (Stands F acc wt bk dd))
  case atStart => exact ⟨l, b, q, d, [], [], Nat.le_refl _, by simp, HB0, HA0, HC0, HK0, HS0⟩
  case round =>
    clear HB0 HA0 HC0 HK0 HS0
    obtain ⟨wt, bk, q', dd, acc, X, hkx, hroom, HB, HA, HC, HK, HS⟩ := hrel
    obtain ⟨ab, cb, rfl⟩ := HB.out.form
    have c1 : wr.cell? ⟨g, 1, none⟩ = some (.bool dd) := by
      obtain ⟨sv, _, hr, _⟩ := HC.out
      exact hr.cell (i := 1) (by decide)
    by_cases h0 : 0 < bk.length
    · cases dd with
      | true =>
        have HEND := Lib.hid (HS.out.done (.inr rfl))
        go_wp2
        go_ret
        exact ⟨_, q', rfl, by rw [← HFE.out, HEND.out]; exact HC.out, HK.out.nq, by rw [← HFE.out, HEND.out]; exact HK.out.pieces HC.out, HK.out.fr⟩
      | false =>
        have HFRO := Lib.hid HS.out.fro
        have hlay := lay_any g q' wt bk _ wr HS.out.fro.1 HC.out h0 (by omega) HB.out (HA.out.clear HK.out.nq)
        unfold ptr at hlay
        go_wp2_with fail
        refine hlay.mono ?_
        clear hlay
        rintro e w1 ⟨n, v1, q1, hn, rfl, hB1, hbl1, hC1, hn1, hF1⟩
        have HK1 := Lib.hid (HK.out.step HC.out hF1 hn1)
        have HA1 : Hid (Aside w g q v1 (bk.drop n)) := Lib.hid (fun A m c hv hl => by
          obtain ⟨a, m', c', hv2, hb⟩ := hbl1 A m c hv hl
          have := HA.out a m' c' hv2 h0
          rw [← hb] at this; exact this)
        have hnd := HFRO.out.1.need
        have hn0 : 0 < n ∧ n ≤ bk.length ∧ n ≤ 518 := by have := HFRO.out.1.le; omega
        have hdl : (bk.drop n).length = bk.length - n := List.length_drop
        have hsl : (wt ++ bk.take n).length ≤ 1000 := by rw [List.length_append, List.length_take]; have := HFRO.out.1.le; omega
        have HM := Lib.hid (go_more (n := n) HFRO.out.2)
        have HD := Lib.hid (go_dies (n := n) HFRO.out.2)
        have HW := Lib.hid (go_whole HFRO.out.1 hn HFRO.out.2)
        have HB1 := Lib.hid hB1
        have HC1 := Lib.hid hC1
        have HR1 : Hid (Rests w1) := Lib.hid (HRT.out.fr HK1.out.fr HRG.out)
        obtain ⟨a1, c1', rfl⟩ := hB1.form
        clear hB1 hbl1 hC1 hn1 hF1 hn hnd c1 HA HB HC HK HS HFRO
        generalize wt ++ bk.take n = s at *
        generalize bk.drop n = t at *
        have htl : t.length + n = bk.length := by omega
        clear hdl
        rcases errOf_cases s with he | he | he
        · have hcut := cut_more g q1 s hsl he w1 HC1.out
          unfold ptr at hcut
          go_wp2_with fail
          refine hcut.mono ?_
          clear hcut
          rintro e w2 ⟨rfl, hC2, hF2⟩
          have HF2 := Lib.hid (hF2.alloc (.cells #[.slice none 0 0, .int .i64 0] 33))
          have HC2 : Hid (CutAt (w2.alloc (.cells #[.slice none 0 0, .int .i64 0] 33)) g q1 s false) := Lib.hid (hC2.fr0 ((Fr.refl _ _).alloc _))
          clear hC2 hF2
          go_wp2_with (refine wpList_store_new rfl 33 _ _ rfl w2.heap.size rfl #[.slice none 0 0, .int .i64 0] rfl rfl 33 #[.slice none 0 0, .int .i64 0] infoP rfl (two_one _ _ rfl rfl) ?_)
          go_roundg t.length
          case measure => omega
          case rel => exact ⟨s, t, q1, false, acc, X, Nat.le_refl _, by omega, Lib.hid (HB1.out.fr0 HF2.out), HA1, HC2, Lib.hid (HK1.out.fr0 HF2.out), Lib.hid (.inl ⟨rfl, round_more he, HM.out⟩)⟩
        · have hcut := cut_dies g q1 s hsl he w1 HC1.out
          have HD1 := Lib.hid (HD.out he)
          unfold ptr at hcut
          go_wp2_with fail
          refine hcut.mono ?_
          clear hcut
          rintro e w2 ⟨rfl, hC2, hF2⟩
          have HK2 := Lib.hid (HK1.out.step HC1.out hF2 (show NewQ w1 q1 none from .inr (fun k h => by cases h)))
          have HF3 := Lib.hid ((Fr.refl (fun _ => False) w2).alloc (.cells #[(.slice none 0 0), .int .i64 2] 33))
          have HF4 := Lib.hid (HF3.out.alloc (.cells #[(.slice none 0 0), .int .i64 2] 33))
          have HK4 := Lib.hid (HK2.out.fr0 HF4.out)
          have HC4 := Lib.hid (hC2.fr0 HF4.out)
          have HB2 := Lib.hid (bytes_keep HB1.out hF2 (HA1.out.clear HK1.out.nq))
          have HPC : Hid (Clear (Off w none u5) (.slice none 0 0) (⟨[], 2⟩ : Pc).b) := Lib.hid (fun a n c h => by cases h)
          have HPB : Hid (BytesIs w2 (.slice none 0 0) (⟨[], 2⟩ : Pc).b) := Lib.hid (BytesIs.nil _)
          clear hC2 hF2
          go_wp2_with (first
            | (refine wpList_store_new rfl 33 _ _ rfl w2.heap.size rfl #[(.slice none 0 0), .int .i64 2] rfl rfl 33 #[.slice none 0 0, .int .i64 0] infoP rfl (two_one _ _ rfl rfl) ?_)
            | (refine wpList_load_row rfl 33 _ rfl w2.heap.size rfl 33 #[(.slice none 0 0), .int .i64 2] (0, 0) _ (heap_alloc_new w2 _) Tryd.underlying33 rfl infoP ?_)
            | (refine wpList_append_valsN rfl (.tmp 27) (.tmp 29) 29 rfl w.heap.size 33 Tryd.underlying29 (.agg #[.slice none 0 0, .int .i64 0]) 2 32 infoPc rfl (by decide) _ _ acc.length 1 (kcells X) [(.slice none 0 0), .int .i64 2] rfl rfl HK4.out.row (pair_one (w2.alloc (.cells #[(.slice none 0 0), .int .i64 2] 33)) _ _ _ _ (by simp)) (by decide) rfl (by intro u hu; simp at hu; rcases hu with rfl | rfl <;> rfl) (by unfold maxLen; omega) (by omega) HK4.out.fr.size ?_; intro v5 w5 hO5 hG5 hN5))
          have hf5 : Fr (fun k => u5.ownBlock = some k) ((w2.alloc (.cells #[(.slice none 0 0), .int .i64 2] 33)).alloc (.cells #[(.slice none 0 0), .int .i64 2] 33)) w5 := Fr.of_grown hG5 (fun k hk e => e)
          have HK5 := Lib.hid (HK4.out.snoc HC4.out (.slice none 0 0) (⟨[], 2⟩ : Pc) (HPB.out.fr0 HF4.out) HPC.out rfl hf5 hO5 hN5)
          have HC5 := Lib.hid (HK4.out.cut_fr HC4.out hf5)
          have HB5 : Hid (BytesIs w5 (.slice a1 t.length c1') t) := Lib.hid (bytes_keep (HB2.out.fr0 HF4.out) hf5 (fun A m c hv hl e => by
            have h1 := (HA1.out A m c hv hl).1
            have h2 := (HK4.out.row.lt _ e).1
            omega))
          clear hf5 hO5 hG5 hN5
          go_roundg t.length
          case measure => omega
          case rel => exact ⟨[], t, none, true, acc ++ [(⟨[], 2⟩ : Pc)], X ++ [((.slice none 0 0), 2)], Nat.le_refl _, by rw [List.length_append, List.length_singleton]; omega, HB5, HA1, HC5, HK5, Lib.hid (.inr ⟨rfl, rfl, HD1.out⟩)⟩
        · have hcut := cut_whole_any g q1 s hsl he w1 HC1.out HR1
          have HW1 := Lib.hid (HW.out he)
          unfold ptr at hcut
          go_wp2_with fail
          refine hcut.mono ?_
          clear hcut
          rintro e w2 ⟨pv, rfl, hPB, hPN, hC2, hF2, hp1⟩
          have HK2 := Lib.hid (HK1.out.step HC1.out hF2 (.inl rfl))
          generalize hP : judge s = P at *
          obtain ⟨pb, pe⟩ := P
          simp only at *
          obtain ⟨ap, cp, rfl⟩ := hPB.form
          have HF3 := Lib.hid ((Fr.refl (fun _ => False) w2).alloc (.cells #[(.slice ap pb.length cp), .int .i64 pe] 33))
          have HF4 := Lib.hid (HF3.out.alloc (.cells #[(.slice ap pb.length cp), .int .i64 pe] 33))
          have HK4 := Lib.hid (HK2.out.fr0 HF4.out)
          have HC4 := Lib.hid (hC2.fr0 HF4.out)
          have HB2 := Lib.hid (bytes_keep HB1.out hF2 (HA1.out.clear HK1.out.nq))
          have HPC : Hid (Clear (Off w q1 u5) (.slice ap pb.length cp) (⟨pb, pe⟩ : Pc).b) := Lib.hid (fun a n c h hl e => by
            have h1 := hPN a n c h
            rcases e with e | e | e
            · have := HK1.out.fr.size; omega
            · have := HC1.out.q_lt _ e; omega
            · have := HK1.out.row.lt _ e; omega)
          have HPB : Hid (BytesIs w2 (.slice ap pb.length cp) (⟨pb, pe⟩ : Pc).b) := Lib.hid hPB
          clear hC2 hF2 hPB hPN hp1 hP
          go_wp2_with (first
            | (refine wpList_store_new rfl 33 _ _ rfl w2.heap.size rfl #[(.slice ap pb.length cp), .int .i64 pe] rfl rfl 33 #[.slice none 0 0, .int .i64 0] infoP rfl (two_one _ _ rfl rfl) ?_)
            | (refine wpList_load_row rfl 33 _ rfl w2.heap.size rfl 33 #[(.slice ap pb.length cp), .int .i64 pe] (0, 0) _ (heap_alloc_new w2 _) Tryd.underlying33 rfl infoP ?_)
            | (refine wpList_append_valsN rfl (.tmp 27) (.tmp 29) 29 rfl w.heap.size 33 Tryd.underlying29 (.agg #[.slice none 0 0, .int .i64 0]) 2 32 infoPc rfl (by decide) _ _ acc.length 1 (kcells X) [(.slice ap pb.length cp), .int .i64 pe] rfl rfl HK4.out.row (pair_one (w2.alloc (.cells #[(.slice ap pb.length cp), .int .i64 pe] 33)) _ _ _ _ (by simp)) (by decide) rfl (by intro u hu; simp at hu; rcases hu with rfl | rfl <;> rfl) (by unfold maxLen; omega) (by omega) HK4.out.fr.size ?_; intro v5 w5 hO5 hG5 hN5))
          have hf5 : Fr (fun k => u5.ownBlock = some k) ((w2.alloc (.cells #[(.slice ap pb.length cp), .int .i64 pe] 33)).alloc (.cells #[(.slice ap pb.length cp), .int .i64 pe] 33)) w5 := Fr.of_grown hG5 (fun k hk e => e)
          have HK5 := Lib.hid (HK4.out.snoc HC4.out (.slice ap pb.length cp) (⟨pb, pe⟩ : Pc) (HPB.out.fr0 HF4.out) HPC.out rfl hf5 hO5 hN5)
          have HC5 := Lib.hid (HK4.out.cut_fr HC4.out hf5)
          have HB5 : Hid (BytesIs w5 (.slice a1 t.length c1') t) := Lib.hid (bytes_keep (HB2.out.fr0 HF4.out) hf5 (fun A m c hv hl e => by
            have h1 := (HA1.out A m c hv hl).1
            have h2 := (HK4.out.row.lt _ e).1
            omega))
          clear hf5 hO5 hG5 hN5
          go_roundg t.length
          case measure => omega
          case rel => exact ⟨[], t, q1, false, acc ++ [(⟨pb, pe⟩ : Pc)], X ++ [((.slice ap pb.length cp), pe)], Nat.le_refl _, by rw [List.length_append, List.length_singleton]; omega, HB5, HA1, HC5, HK5, Lib.hid (.inl ⟨rfl, fro_nil, HW1.out⟩)⟩
    · obtain rfl : bk = [] := List.eq_nil_of_length_eq_zero (by omega)
      have HEND := Lib.hid (HS.out.done (.inl rfl))
      go_wp2
      go_ret
      exact ⟨_, q', rfl, by rw [← HFE.out, HEND.out]; exact HC.out, HK.out.nq, by rw [← HFE.out, HEND.out]; exact HK.out.pieces HC.out, HK.out.fr⟩
end Go.Proofs.YtggdpmfghbnhcaaDoor.Frame
