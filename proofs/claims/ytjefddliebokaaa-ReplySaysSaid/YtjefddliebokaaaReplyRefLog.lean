/-
  The reference's Log.
-/
import Derived.Test.YtjefddliebokaaaReplyRefGet
import Derived.Test.YtjefddliebokaaaReplyTold
namespace Go.Proofs.Ytjefddliebokaaa.Reply
open Go.RowKit Base Pack

theorem infoRP : (Try.prog.info? 38).map (fun i => (i.zero, i.size, i.bytes)) = some (some (.agg #[.int .i64 0, .bool false, .int .u32 0, .slice none 0 0]), 4, 40) := by kernel_rfl
set_option maxRecDepth 100000 in
set_option maxHeartbeats 8000000 in
theorem rlog_any (v : Value) (b : List UInt8) (hb : b.length ≤ 1000000000) (w : World) (hB : BytesIs w v b) :
    Calls Try.prog 17 #[v] w (LogPost b w) := by
  obtain ⟨a, c, rfl⟩ := hB.form
  have HB := Lib.hid hB
  clear hB
  generalize hL : b.length = L at *
  have HL := Lib.hid hL
  clear hL
  go_enter Try.func17, Try.ntmps17
  go_wp2_with fail
  go_loopg [4, 5] L (fun kx vl vi wr => ∃ (i : Nat) (X : List At) (Ab : Option Addr) (Cb : Nat), vi = .int .i64 (i : Int) ∧ vl = .slice Ab X.length Cb ∧ i ≤ L ∧ L - i ≤ kx ∧ X.length ≤ i ∧ Hid (Gath 38 w wr (.slice Ab X.length Cb) X) ∧ Hid (Told b i X))
  case atStart => exact ⟨0, [], none, 0, rfl, rfl, Nat.zero_le _, by omega, Nat.le_refl _, Lib.hid (Gath.start _ w), Lib.hid (Told.start b)⟩
  case round =>
    obtain ⟨i, X, Ab, Cb, rfl, rfl, hi, hk, hXi, HG, HT⟩ := hrel
    by_cases hlt : i < L
    · have i1 : (i : Int) < (L : Int) := by omega
      obtain ⟨a2, c2, hb2, hs2, _⟩ := cutLoAt (P := Try.prog) 25 5 Try.underlying25 (by kernel_rfl) (HB.out.fr0 HG.out.fr) i (by have := HL.out; omega) (i : Int) rfl
      rw [HL.out] at hb2 hs2
      have hget := rgetR_any _ (b.drop i) (by rw [List.length_drop]; have := HL.out; omega) wr hb2
      unfold GetPost rp4 at hget
      have HTF := Lib.hid (fun h => HT.out.fail (by have := HL.out; omega) h)
      have HTN := Lib.hid (fun h v => HT.out.next (by have := HL.out; omega) h v)
      have HN8 := Lib.hid (fun h => get_n (b := b.drop i) h)
      have hdl : (b.drop i).length = L - i := by rw [List.length_drop, HL.out]
      rw [hdl] at HN8
      clear hb2 hdl HT
      generalize getB (b.drop i) = G at *
      obtain ⟨r, n, er⟩ := G
      simp only at hget HTF HTN HN8
      go_wp2_with fail
      refine hget.mono ?_
      clear hget hs2
      rintro e W2 ⟨Ar, Cr, rfl, hBr, hNr, hF2⟩
      have HG2 := Lib.hid (HG.out.fr0 hF2)
      have hob : ∀ k, (Value.slice Ab X.length Cb).ownBlock = some k → k < wr.heap.size := fun k hk => (HG.out.row.lt k hk).2
      have HNR : Hid (Clear (fun k => k < w.heap.size ∨ (Value.slice Ab X.length Cb).ownBlock = some k) (.slice Ar r.body.length Cr) r.body) := Lib.hid (fun q m c h hl e => by
        have h1 := hNr q m c h hl
        have h2 := HG.out.fr.size
        rcases e with e | e
        · omega
        · have := hob _ e; omega)
      have hg3 := heap_alloc_new W2 (.cells #[.int .i64 0, .bool false, .int .u32 0, .slice none 0 0] 38)
      obtain ⟨W3, hW3⟩ : ∃ W', W' = (W2.alloc (.cells #[.int .i64 0, .bool false, .int .u32 0, .slice none 0 0] 38)).setRow W2.heap.size #[.int .i64 r.st, .bool r.hit, .int .u32 (r.slot : Int), .slice Ar r.body.length Cr] := ⟨_, rfl⟩
      have hr3 := setRow_heap _ W2.heap.size _ #[.int .i64 r.st, .bool r.hit, .int .u32 (r.slot : Int), .slice Ar r.body.length Cr] _ _ hg3
      rw [← hW3] at hr3
      have hf3 : Fr0 W2 W3 := by rw [hW3]; exact Fr.setRow ((Fr.refl _ _).alloc _) (fun h => absurd h (Nat.lt_irrefl _)) _
      have HB3 := Lib.hid (hBr.fr0 hf3)
      have HG3 := Lib.hid (HG2.out.fr0 hf3)
      have HR3 := Lib.hid hr3
      have HW3 := Lib.hid hW3
      have HGA := Lib.hid hg3
      clear hg3 hW3 hr3 hf3 hBr hNr hF2 HG HG2 hob
      by_cases he : er = 0
      · have he2 : (er != 0) = false := by rw [he]; rfl
        have HTX := Lib.hid (HTN.out he (.slice Ar r.body.length Cr))
        obtain ⟨n1, n2⟩ := HN8.out he
        clear he HTN HTF HN8
        go_wp2_with (first | (refine wpList_store_row rfl 38 _ _ rfl W2.heap.size #[.int .i64 r.st, .bool r.hit, .int .u32 (r.slot : Int), .slice Ar r.body.length Cr] rfl rfl 38 _ HGA.out infoRR rfl (rp4_one _ r rfl) ?_; rw [← HW3.out]) | (refine wpList_load_row rfl 38 _ rfl W2.heap.size rfl 38 _ (0, 0) _ HR3.out Try.underlying38 rfl (by kernel_rfl) ?_) | (refine wpList_append_valsN rfl (.tmp 24) (.tmp 26) 42 rfl w.heap.size 38 Try.underlying42 (.agg #[.int .i64 0, .bool false, .int .u32 0, .slice none 0 0]) 4 40 infoRP rfl (by decide) _ _ X.length 1 (acells X) [.int .i64 r.st, .bool r.hit, .int .u32 (r.slot : Int), .slice Ar r.body.length Cr] rfl rfl (HG3.out.fr0 ((Fr.refl _ _).alloc _)).row (quad_lit W3 _ _ _ _ _) (by decide) rfl (by intro u hu; simp at hu; rcases hu with rfl | rfl | rfl | rfl <;> rfl) (by unfold maxLen; omega) (by omega) (by have h1 := HG3.out.fr.size; simp; omega) ?_))
        intro vz Wz hOz hGz hNz
        have hB4 : BytesIs (W3.alloc (.cells #[.int .i64 r.st, .bool r.hit, .int .u32 (r.slot : Int), .slice Ar r.body.length Cr] 38)) (.slice Ar r.body.length Cr) r.body := HB3.out.fr0 ((Fr.refl _ _).alloc _)
        have hG4 := (HG3.out.fr0 ((Fr.refl (fun _ => False) W3).alloc (.cells #[.int .i64 r.st, .bool r.hit, .int .u32 (r.slot : Int), .slice Ar r.body.length Cr] 38))).more (p := (.slice Ar r.body.length Cr, r)) hB4 HNR.out rfl hOz hGz hNz
        obtain ⟨Az, Cz, rfl, _⟩ := owns_form hOz
        have hxl : (X ++ [((Value.slice Ar r.body.length Cr, r) : At)]).length = X.length + 1 := by simp
        rw [← hxl] at hG4 ⊢
        have HG4 := Lib.hid hG4
        have HXL := Lib.hid hxl
        clear hOz hGz hNz hB4 hG4 hxl
        generalize hX2 : X ++ [((Value.slice Ar r.body.length Cr, r) : At)] = X2 at *
        clear hX2
        go_wp2
        go_roundg (L - (i + n))
        case measure => omega
        case rel => exact ⟨i + n, X2, Az, Cz, by simp, rfl, by omega, by omega, by have := HXL.out; omega, HG4, HTX⟩
      · have he2 : (er != 0) = true := bne_iff_ne.2 he
        have HZ := Lib.hid (HTF.out he)
        clear he HTN HTF HN8
        go_wp2_with (refine wpList_store_row rfl 38 _ _ rfl W2.heap.size #[.int .i64 r.st, .bool r.hit, .int .u32 (r.slot : Int), .slice Ar r.body.length Cr] rfl rfl 38 _ HGA.out infoRR rfl (rp4_one _ r rfl) ?_; rw [← HW3.out])
        go_ret2
        exact ⟨_, by rw [HZ.out]; rfl, by rw [HZ.out]; exact Reps.nil _ _, HG3.out.fr⟩
    · obtain rfl : i = L := by omega
      have HZ := Lib.hid (HT.out.all (by have := HL.out; omega))
      clear HT
      go_wp2
      go_ret2
      exact ⟨_, by rw [HZ.out]; rfl, by rw [HZ.out]; exact HG.out.reps, HG.out.fr⟩
end Go.Proofs.Ytjefddliebokaaa.Reply
