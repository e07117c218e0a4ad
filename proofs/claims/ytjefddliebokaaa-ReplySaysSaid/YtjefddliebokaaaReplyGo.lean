/-
  The program's Log.
-/
import Derived.Test.YtjefddliebokaaaReplyGoGet
import Derived.Test.YtjefddliebokaaaReplyGoPut
import Derived.Test.YtjefddliebokaaaReplyTold
namespace Go.Proofs.Ytjefddliebokaaa.Reply
open Go.RowKit Base Pack

/-- answers gathered in a row of one's own, while a reader goes on: its block g and its bytes lie below B, the row and the bodies from B on -/
structure GathP (t : TypeId) (B g : Nat) (w wr : World) (vl : Value) (X : List At) : Prop where
  row : wr.ownsRow B t 4 vl X.length (acells X)
  bods : Bods wr (fun k => k < B ∨ vl.ownBlock = some k) X
  fr : Fr0 w wr
  og : w.heap.size ≤ g
  gB : g < B
section
variable {t : TypeId} {B g : Nat} {w wr w1 : World} {vl vl' : Value} {X : List At}
theorem GathP.start (t : TypeId) (hf : Fr0 w wr) (h1 : w.heap.size ≤ g) (h2 : g < B) : GathP t B g w wr (.slice none 0 0) [] := ⟨World.ownsRow_nil _ _ _ _, Bods.nil _ _, hf, h1, h2⟩
theorem GathP.fr0 (h : GathP t B g w wr vl X) (hf : Fr0 wr w1) : GathP t B g w w1 vl X :=
  ⟨ownsFr hf h.row (fun _ _ f => f), h.bods.fr0 hf, h.fr.trans' hf, h.og, h.gB⟩
theorem GathP.turn (h : GathP t B g w wr vl X) (hf : Fr1 g wr w1) : GathP t B g w w1 vl X :=
  ⟨ownsFr hf h.row (fun k hk e => by have e' : k = g := e; have := (h.row.lt k hk).1; have := h.gB; omega), h.bods.keep hf (fun k _ e => by have e' : k = g := e; have := h.gB; exact .inl (by omega)) (fun k _ e => e), h.fr.trans hf (fun k hk e => by have e' : k = g := e; have := h.og; omega), h.og, h.gB⟩
theorem GathP.more {p : At} (h : GathP t B g w wr vl X) (hb : BytesIs wr p.1 p.2.body) (hy : Clear (fun k => k < B ∨ vl.ownBlock = some k) p.1 p.2.body) (h1 : p.1.oneCell' = true)
    (hrow : w1.ownsRow B t 4 vl' (X.length + 1) (acells X ++ acells [p])) (hg : wr.grownBy w1 vl.ownBlock) (hnr : NewRow wr vl vl') (hB : B ≤ wr.heap.size) : GathP t B g w w1 vl' (X ++ [p]) := by
  have hlt : ∀ k, vl.ownBlock = some k → B ≤ k := fun k hk => (h.row.lt k hk).1
  have hf : Fr (fun k => vl.ownBlock = some k) wr w1 := Fr.of_grown hg (fun k hk e => e)
  have hP : Bods wr (fun k => k < B ∨ vl.ownBlock = some k) [p] := fun q hq => by
    simp only [List.mem_singleton] at hq
    subst hq
    exact ⟨hb, hy, h1⟩
  have hgB := h.gB
  have hog := h.og
  refine ⟨?_, (h.bods.append hP).keep hf (fun k _ e => .inr e) (fun k hk e => ?_), h.fr.trans hf (fun k hk e => ?_), h.og, h.gB⟩
  · rw [acells_append, List.length_append]
    exact hrow
  · rcases e with e | e
    · exact .inl e
    · rcases hnr with hnr | hnr
      · exact .inr (by rw [← hnr]; exact e)
      · have := hnr k e; omega
  · have := hlt k e; omega
theorem GathP.reps (h : GathP t B g w wr vl X) : Reps wr (fun k => k < w.heap.size) vl (X.map (·.2)) := by
  have hgB := h.gB
  have hog := h.og
  exact reps_own h.row (h.bods.keep (Fr.refl (fun _ => False) wr) (fun _ _ f => f.elim) (fun k _ e => .inl (by have e' : k < w.heap.size := e; omega))) (fun k hk e => by have := (h.row.lt k hk).1; have e' : k < w.heap.size := e; omega)
end
theorem infoRLP : (Try.prog.info? 27).map (fun i => (i.zero, i.size, i.bytes)) = some (some (.agg #[.int .i64 0, .bool false, .int .u32 0, .slice none 0 0]), 4, 40) := by kernel_rfl
set_option maxRecDepth 100000 in
set_option maxHeartbeats 8000000 in
theorem plog_any (v : Value) (b : List UInt8) (hb : b.length ≤ 1000000000) (w : World) (hB : BytesIs w v b) :
    Calls Try.prog 12 #[v] w (LogPost b w) := by
  have hnew := new_any v b (by omega) w hB
  obtain ⟨a, c, rfl⟩ := hB.form
  clear hB
  generalize hL : b.length = L at *
  have HL := Lib.hid hL
  clear hL
  go_enter Try.func12, Try.ntmps12
  go_wp2_with fail
  refine hnew.mono ?_
  clear hnew
  rintro e W1 ⟨g, rfl, hgr, hR1, hF1⟩
  have hgl := hR1.lt
  obtain ⟨B, hBB⟩ : ∃ B, B = W1.heap.size := ⟨_, rfl⟩
  have HR1 : Hid (RdP B W1 g (b.drop 0) 0) := Lib.hid (by rw [hBB, List.drop_zero]; exact RdP.of hR1)
  rw [← hBB] at hgl
  have HG1 : Hid (GathP 27 B g w W1 (.slice none ([] : List At).length 0) []) := Lib.hid (GathP.start _ hF1 hgr hgl)
  have hs1 : B ≤ W1.heap.size := by omega
  clear hR1 hF1 hBB
  go_wp2_with fail
  go_loopg [4, 6, 7] L (fun kx vl _ _ wr => ∃ (i : Nat) (X : List At) (Ab : Option Addr) (Cb : Nat), vl = .slice Ab X.length Cb ∧ i ≤ L ∧ L - i ≤ kx ∧ X.length ≤ i ∧ B ≤ wr.heap.size ∧ Hid (GathP 27 B g w wr (.slice Ab X.length Cb) X) ∧ Hid (RdP B wr g (b.drop i) 0) ∧ Hid (Told b i X))
  case atStart => exact ⟨0, [], none, 0, rfl, Nat.zero_le _, by omega, Nat.le_refl _, hs1, HG1, HR1, Lib.hid (Told.start b)⟩
  case round =>
    clear HG1 HR1
    obtain ⟨i, X, Ab, Cb, rfl, hi, hk, hXi, hsz, HG, HR, HT⟩ := hrel
    have hlf := left_any g (b.drop i) 0 wr HR.out.rd
    have hdl : (b.drop i).length = L - i := by rw [List.length_drop, HL.out]
    rw [hdl] at hlf
    by_cases hlt : i < L
    · have i1 : (0 : Int) < ((L - i : Nat) : Int) := by omega
      have hnx := next_any B g (b.drop i) (by omega) wr hsz HR.out
      unfold NextPost rp4 at hnx
      have HTF := Lib.hid (fun h => HT.out.fail (by have := HL.out; omega) h)
      have HTN := Lib.hid (fun h v => HT.out.next (by have := HL.out; omega) h v)
      have HN8 := Lib.hid (fun h => get_n (b := b.drop i) h)
      rw [hdl] at HN8
      have HDD := Lib.hid (fun n : Nat => (List.drop_drop : (b.drop i).drop n = b.drop (i + n)))
      clear hdl HT HR
      generalize getB (b.drop i) = G at *
      obtain ⟨r, n, er⟩ := G
      simp only at hnx HTF HTN HN8
      generalize b.drop i = bi at *
      go_wp2_with fail
      refine hlf.mono ?_
      clear hlf
      rintro e wq ⟨rfl, rfl⟩
      go_wp2_with fail
      refine hnx.mono ?_
      clear hnx
      rintro e W2 ⟨Ar, Cr, b', e', rfl, hBr, hNr, hR2, hI2, hF2⟩
      have hsz2 : B ≤ W2.heap.size := Nat.le_trans hsz hF2.size
      have HG2 := Lib.hid (HG.out.turn hF2)
      have hob : ∀ k, (Value.slice Ab X.length Cb).ownBlock = some k → k < wr.heap.size := fun k hk => (HG.out.row.lt k hk).2
      have HNR : Hid (Clear (fun k => k < B ∨ (Value.slice Ab X.length Cb).ownBlock = some k) (.slice Ar r.body.length Cr) r.body) := Lib.hid (fun q m c h hl e => by
        have h1 := hNr q m c h hl
        rcases e with e | e
        · omega
        · have := hob _ e; omega)
      have hg3 := heap_alloc_new W2 (.cells #[.int .i64 0, .bool false, .int .u32 0, .slice none 0 0] 27)
      obtain ⟨W3, hW3⟩ : ∃ W', W' = (W2.alloc (.cells #[.int .i64 0, .bool false, .int .u32 0, .slice none 0 0] 27)).setRow W2.heap.size #[.int .i64 r.st, .bool r.hit, .int .u32 (r.slot : Int), .slice Ar r.body.length Cr] := ⟨_, rfl⟩
      have hr3 := setRow_heap _ W2.heap.size _ #[.int .i64 r.st, .bool r.hit, .int .u32 (r.slot : Int), .slice Ar r.body.length Cr] _ _ hg3
      rw [← hW3] at hr3
      have hf3 : Fr0 W2 W3 := by rw [hW3]; exact Fr.setRow ((Fr.refl _ _).alloc _) (fun h => absurd h (Nat.lt_irrefl _)) _
      have hsz3 : B ≤ W3.heap.size := Nat.le_trans hsz2 hf3.size
      have HB3 := Lib.hid (hBr.fr0 hf3)
      have HG3 := Lib.hid (HG2.out.fr0 hf3)
      have HR2 := Lib.hid (hR2.fr0 hf3)
      have HI2 := Lib.hid hI2
      have HR3 := Lib.hid hr3
      have HW3 := Lib.hid hW3
      have HGA := Lib.hid hg3
      clear hg3 hW3 hr3 hf3 hBr hNr hF2 HG HG2 hob hR2 hI2
      by_cases he : er = 0
      · have he2 : (er != 0) = false := by rw [he]; rfl
        have HTX := Lib.hid (HTN.out he (.slice Ar r.body.length Cr))
        obtain ⟨n1, n2⟩ := HN8.out he
        obtain ⟨q1, q2⟩ := HI2.out he
        have HRN : Hid (RdP B W3 g (b.drop (i + n)) 0) := Lib.hid (by rw [← HDD.out n, ← q1, ← q2]; exact HR2.out)
        clear he HTN HTF HN8 HI2 q1 q2 HR2 HDD
        go_wp2_with (first | (refine wpList_store_row rfl 27 _ _ rfl W2.heap.size #[.int .i64 r.st, .bool r.hit, .int .u32 (r.slot : Int), .slice Ar r.body.length Cr] rfl rfl 27 _ HGA.out infoRG rfl (rp4_one _ r rfl) ?_; rw [← HW3.out]) | (refine wpList_load_row rfl 27 _ rfl W2.heap.size rfl 27 _ (0, 0) _ HR3.out Try.underlying27 rfl (by kernel_rfl) ?_) | (refine wpList_append_valsN rfl (.tmp 21) (.tmp 23) 28 rfl B 27 Try.underlying28 (.agg #[.int .i64 0, .bool false, .int .u32 0, .slice none 0 0]) 4 40 infoRLP rfl (by decide) _ _ X.length 1 (acells X) [.int .i64 r.st, .bool r.hit, .int .u32 (r.slot : Int), .slice Ar r.body.length Cr] rfl rfl (HG3.out.fr0 ((Fr.refl _ _).alloc _)).row (quad_lit W3 _ _ _ _ _) (by decide) rfl (by intro u hu; simp at hu; rcases hu with rfl | rfl | rfl | rfl <;> rfl) (by unfold maxLen; omega) (by omega) (by simp; omega) ?_))
        intro vz Wz hOz hGz hNz
        have hfl := (Fr.refl (fun _ => False) W3).alloc (.cells #[.int .i64 r.st, .bool r.hit, .int .u32 (r.slot : Int), .slice Ar r.body.length Cr] 27)
        have hB4 := HB3.out.fr0 hfl
        have hR4 := HRN.out.fr0 hfl
        have hsz4 : B ≤ (W3.alloc (.cells #[.int .i64 r.st, .bool r.hit, .int .u32 (r.slot : Int), .slice Ar r.body.length Cr] 27)).heap.size := Nat.le_trans hsz3 hfl.size
        have hG3 := HG3.out.fr0 hfl
        have hG4 := hG3.more (p := (.slice Ar r.body.length Cr, r)) hB4 HNR.out rfl hOz hGz hNz hsz4
        have hfz : Fr (fun k => (Value.slice Ab X.length Cb).ownBlock = some k) _ Wz := Fr.of_grown hGz (fun k hk e => e)
        have hR5 := hR4.fr hfz (fun e => by have h1 := (hG3.row.lt g e).1; have h2 := hG3.gB; omega) (fun j hj e => by have h1 := (hG3.row.lt j e).1; omega)
        have hsz5 : B ≤ Wz.heap.size := Nat.le_trans hsz4 hfz.size
        obtain ⟨Az, Cz, rfl, _⟩ := owns_form hOz
        have hxl : (X ++ [((Value.slice Ar r.body.length Cr, r) : At)]).length = X.length + 1 := by simp
        rw [← hxl] at hG4 ⊢
        have HG4 := Lib.hid hG4
        have HR5 := Lib.hid hR5
        have HXL := Lib.hid hxl
        clear hOz hGz hNz hB4 hG4 hxl hfl hR4 hG3 hfz hR5
        generalize hX2 : X ++ [((Value.slice Ar r.body.length Cr, r) : At)] = X2 at *
        clear hX2
        go_wp2
        go_roundg (L - (i + n))
        case measure => omega
        case rel => exact ⟨i + n, X2, Az, Cz, rfl, by omega, by omega, by have := HXL.out; omega, hsz5, HG4, HR5, HTX⟩
      · have he2 : (er != 0) = true := bne_iff_ne.2 he
        have HZ := Lib.hid (HTF.out he)
        clear he HTN HTF HN8
        go_wp2_with (refine wpList_store_row rfl 27 _ _ rfl W2.heap.size #[.int .i64 r.st, .bool r.hit, .int .u32 (r.slot : Int), .slice Ar r.body.length Cr] rfl rfl 27 _ HGA.out infoRG rfl (rp4_one _ r rfl) ?_; rw [← HW3.out])
        go_ret2
        exact ⟨_, by rw [HZ.out]; rfl, by rw [HZ.out]; exact Reps.nil _ _, HG3.out.fr⟩
    · obtain rfl : i = L := by omega
      have HZ := Lib.hid (HT.out.all (by have := HL.out; omega))
      rw [Nat.sub_self] at hlf
      clear HT
      go_wp2_with fail
      refine hlf.mono ?_
      clear hlf
      rintro e wq ⟨rfl, rfl⟩
      go_wp2
      go_ret2
      exact ⟨_, by rw [HZ.out]; rfl, by rw [HZ.out]; exact HG.out.reps, HG.out.fr⟩
end Go.Proofs.Ytjefddliebokaaa.Reply
