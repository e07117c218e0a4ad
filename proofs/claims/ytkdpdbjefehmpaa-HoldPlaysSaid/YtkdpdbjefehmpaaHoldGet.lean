/-
  The walks of hold's Get and Drop.
-/
import Derived.Test.YtkdpdbjefehmpaaHoldPut
namespace Go.Proofs.Ytkdpdbjefehmpaa.Hold
open Go.RowKit Base Go.Maps Arena
open Blocks (BlkAt BlkP whole whole_le frees nints nvals tout took terr give gave gerr)

/-- asked with ok -/
theorem look_some {w : World} {b n : Nat} {es : List Ent} (h : w.ownsMap Try.prog 3 RV b n (.map (ms (pairs es)))) {id : Int} (hid : -9223372036854775808 ≤ id ∧ id ≤ 9223372036854775807) {e : Ent} (hf : find id es = some e) :
    (Instr.lookup 69 (.map (some b)) (.int .i64 id) true).run Try.prog w = .ok (.tuple #[.agg #[.slice e.A e.T.length e.C, .int .i64 (e.x.length : Int)], .bool true]) w := by
  obtain ⟨v, ps, hrun, hv⟩ := h.look_ok (int_keyed Try.underlying3) Try.underlying69 (Try.zeroValue76 w) (RV_mk (none, 0, 0, 0)) (key := .int .i64 id) (keyOf_int_mk Try.underlying3 (WalkArith.wf_i64 hid))
  obtain ⟨p, hp, hz⟩ := RV_inv hv
  have e1 : (DataW.map (ms (pairs es))).atKey (key id) (.held (mkV (none, 0, 0, 0))) = .held e.val := by rw [map_at, pairs_find, hf]; rfl
  have e2 := congrArg Prod.fst hz
  change (DataW.map (ms (pairs es))).atKey (key id) (.held (mkV (none, 0, 0, 0))) = .held v at e2
  rw [e1] at e2
  have e3 : v = e.val := (DataW.held.inj e2).symm
  rw [hrun, e3]
  have e4 : Maps.has (DataW.map (ms (pairs es))) (key id) = true := by rw [map_has, pairs_any, hf]; rfl
  change Result.ok (Value.tuple #[e.val, .bool (Maps.has (DataW.map (ms (pairs es))) (key id))]) w = _
  rw [e4]
  rfl
theorem look_none {w : World} {b n : Nat} {es : List Ent} (h : w.ownsMap Try.prog 3 RV b n (.map (ms (pairs es)))) {id : Int} (hid : -9223372036854775808 ≤ id ∧ id ≤ 9223372036854775807) (hf : find id es = none) :
    (Instr.lookup 69 (.map (some b)) (.int .i64 id) true).run Try.prog w = .ok (.tuple #[.agg #[.slice none 0 0, .int .i64 0], .bool false]) w := by
  obtain ⟨v, ps, hrun, hv⟩ := h.look_ok (int_keyed Try.underlying3) Try.underlying69 (Try.zeroValue76 w) (RV_mk (none, 0, 0, 0)) (key := .int .i64 id) (keyOf_int_mk Try.underlying3 (WalkArith.wf_i64 hid))
  obtain ⟨p, hp, hz⟩ := RV_inv hv
  have e1 : (DataW.map (ms (pairs es))).atKey (key id) (.held (mkV (none, 0, 0, 0))) = .held (mkV (none, 0, 0, 0)) := by rw [map_at, pairs_find, hf]; rfl
  have e2 := congrArg Prod.fst hz
  change (DataW.map (ms (pairs es))).atKey (key id) (.held (mkV (none, 0, 0, 0))) = .held v at e2
  rw [e1] at e2
  have e3 : v = mkV (none, 0, 0, 0) := (DataW.held.inj e2).symm
  rw [hrun, e3]
  have e4 : Maps.has (DataW.map (ms (pairs es))) (key id) = false := by rw [map_has, pairs_any, hf]; rfl
  change Result.ok (Value.tuple #[mkV (none, 0, 0, 0), .bool (Maps.has (DataW.map (ms (pairs es))) (key id))]) w = _
  rw [e4]
  rfl
set_option maxHeartbeats 2000000 in
theorem get_none (Own : Nat → Prop) (k ga g xg ob mb : Nat) (O : List Bool) (p : Nat) (es : List Ent) (id : Int) (hid : -9223372036854775808 ≤ id ∧ id ≤ 9223372036854775807) (hf : find id es = none) (w : World) (h : HoldP w Own k ga g xg ob mb O p es) :
    Calls Try.prog 12 #[ptr g, .int .i64 id] w fun e w' => e = .returned (.tuple #[.slice none 0 0, .int .i64 7]) ∧ Fr0 w w' := by
  have c4 := h.c4
  obtain ⟨n, _, hm⟩ := h.map
  have hlk := look_none hm hid hf
  have HF := Lib.hid ((Fr.refl (fun _ => False) w).alloc (.cells #[.slice none 0 0, .int .i64 0] 76))
  clear h hm hf
  unfold ptr
  go_enter Try.func12, Try.ntmps12
  go_wp2
  go_ret2
  exact ⟨rfl, HF.out⟩
set_option maxHeartbeats 2000000 in
theorem drop_none (Own : Nat → Prop) (k ga g xg ob mb : Nat) (O : List Bool) (p : Nat) (es : List Ent) (id : Int) (hid : -9223372036854775808 ≤ id ∧ id ≤ 9223372036854775807) (hf : find id es = none) (w : World) (h : HoldP w Own k ga g xg ob mb O p es) :
    Calls Try.prog 11 #[ptr g, .int .i64 id] w fun e w' => e = .returned (.int .i64 7) ∧ Fr0 w w' := by
  have c4 := h.c4
  obtain ⟨n, _, hm⟩ := h.map
  have hlk := look_none hm hid hf
  have HF := Lib.hid ((Fr.refl (fun _ => False) w).alloc (.cells #[.slice none 0 0, .int .i64 0] 76))
  clear h hm hf
  unfold ptr
  go_enter Try.func11, Try.ntmps11
  go_wp2
  go_ret
  exact ⟨rfl, HF.out⟩
theorem readOut_le (L : List Int) (bs : List UInt8) (i a : Int) (m : Nat) : (readOut L bs i a (m : Int)).length ≤ m := by
  unfold readOut
  split
  · simp; omega
  · simp
theorem gots_le (L : List Int) (part : Nat) (T : List Nat) (bs : List UInt8) (size : Nat) : ∀ j, (gots L part T bs size j).length ≤ 32 * j
  | 0 => by simp [gots]
  | j + 1 => by
    have h1 := gots_le L part T bs size j
    have h2 := readOut_le L bs (part : Int) ((T.getD j 0 : Int) * 32) (min 32 (size - 32 * j))
    unfold gots
    rw [List.length_append]
    omega
def GetPost (l : List UInt8) (w : World) (e : Ending) (w' : World) : Prop := ∃ v, e = .returned (.tuple #[v, .int .i64 0]) ∧ BytesIs w' v l ∧ Fr0 w w' ∧ Fresh w v
set_option maxRecDepth 100000 in
set_option maxHeartbeats 8000000 in
theorem get_some (B ga pb cb : Nat) (L : List Int) (bs : List UInt8) (Own : Nat → Prop) (k g xg ob mb : Nat) (O : List Bool) (p : Nat) (es : List Ent) (id : Int) (hid : -9223372036854775808 ≤ id ∧ id ≤ 9223372036854775807) (d : Ent) (hf : find id es = some d) (hx : d.x.length ≤ 65536) (hT : d.T.length = need d.x.length) (hTb : ∀ i ∈ d.T, i ≤ 2048) (hk : k < L.length) (w : World)
    (hA : AreP w B ga pb cb L bs) (h : HoldP w Own k ga g xg ob mb O p es) :
    Calls Try.prog 12 #[ptr g, .int .i64 id] w (GetPost (gots L k d.T bs d.x.length d.T.length) w) := by
  have c4 := h.c4
  have HH := Lib.hid h
  have HA := Lib.hid hA
  obtain ⟨n, _, hm⟩ := h.map
  have hlk := look_some hm hid hf
  have hI := (h.lies d (find_mem hf).1).1
  have HF2 := Lib.hid ((Fr.refl (fun _ => False) w).alloc (.cells #[.slice d.A d.T.length d.C, .int .i64 (d.x.length : Int)] 76))
  have hq := heap_alloc_new w (.cells #[.slice d.A d.T.length d.C, .int .i64 (d.x.length : Int)] 76)
  have hln := hA.fits.n
  clear h hA hm hf
  obtain ⟨_, x, T, A, C, _, _⟩ := d
  simp only at *
  obtain ⟨A', C', tb, to, hv, hTC, hTa, hTc⟩ := hI
  unfold Ent.cuts at hv
  simp only [Value.slice.injEq] at hv
  obtain ⟨rfl, hxx, rfl⟩ := hv
  clear hxx
  have HTL := Lib.hid hT
  have hTn : T.length ≤ 2048 := by unfold need at hT; omega
  rw [Blocks.nints_length] at hTC hTa hTc
  have HTA := Lib.hid hTa
  have HTC := Lib.hid hTc
  have HTB := Lib.hid hTb
  clear hT hTa hTc hTC hTb
  obtain ⟨ei, hi, hz0, hz1, hz2⟩ : ∃ i, Try.prog.info? 5 = some i ∧ i.zero = some (.int .u8 0) ∧ i.size = 1 ∧ i.bytes = 1 := by
    have := info8
    cases hq : Try.prog.info? 5 with
    | none => simp [hq] at this
    | some i => refine ⟨i, rfl, ?_⟩; simpa [hq] using this
  unfold ptr
  go_enter Try.func12, Try.ntmps12
  obtain ⟨w3, hmk3, hO3, hG3⟩ := run_make_own (P := Try.prog) (w.alloc (.cells #[.slice A T.length C, .int .i64 (x.length : Int)] 76)) (w.alloc (.cells #[.slice A T.length C, .int .i64 (x.length : Int)] 76)).heap.size 32 5 ei (.int .u8 0) 1 Try.underlying32 hi hz0 hz1 .i64 .i64 x.length (by rw [hz2]; omega) (by unfold maxLen; omega) (Nat.le_refl _)
  have hf3 : Fr0 (w.alloc (.cells #[.slice A T.length C, .int .i64 (x.length : Int)] 76)) w3 := Fr.of_grown hG3 (fun q hq e => by cases e)
  have HO3 : Hid (w3.ownsRow (w.heap.size + 1) 5 1 (.slice (some ⟨w.heap.size + 1, 0, none⟩) 0 x.length) 0 (bvals [])) := Lib.hid (by simpa [bvals] using hO3)
  have hq3 := hf3.heap hq (fun f => f)
  have c30 : w3.cell? ⟨w.heap.size, 0, none⟩ = some (.slice A T.length C) := by rw [cell_of_row _ _ _ _ _ _ hq3]; rfl
  have HF3 : Hid (Fr0 w w3) := Lib.hid (HF2.out.trans' hf3)
  have hs3 : w.heap.size + 2 ≤ w3.heap.size + 1 := by have h1 := hf3.size; simp at h1; omega
  have HQ := Lib.hid hq3
  have HTC3 : Hid (∀ j, j < T.length → w3.cell? ⟨tb, to + j, none⟩ = some (.int .i64 ((nints T).getD j 0))) := Lib.hid (fun j hj => (HF3.out.cell (p := ⟨tb, to + j, none⟩) (World.block_lt_of_cell? w _ (HTC.out j hj)) (fun f => f)).trans (HTC.out j hj))
  clear hO3 hG3 hf3 hq3 hq HF2
  go_wp2
  clear c30 hmk3 hlk c4
  go_loopg [8, 32] T.length (fun kx v s wr => ∃ j : Nat, s = .int .i64 (j : Int) ∧ j ≤ T.length ∧ T.length - j ≤ kx ∧ Hid (wr.ownsRow (w.heap.size + 1) 5 1 v (gots L k T bs x.length j).length (bvals (gots L k T bs x.length j))) ∧ Hid (Fr (fun i => w.heap.size + 1 ≤ i) w3 wr))
  case atStart => exact ⟨0, rfl, Nat.zero_le _, by omega, HO3, Lib.hid (Fr.refl _ _)⟩
  case round =>
    clear HO3
    obtain ⟨j, rfl, hj, hgj, HO, HFr⟩ := hrel
    have HFw : Hid (Fr0 w wr) := Lib.hid (HF3.out.trans HFr.out (fun i hi h => by have h' : w.heap.size + 1 ≤ i := h; omega))
    have hqr := HFr.out.heap HQ.out (fun h => by have h' : w.heap.size + 1 ≤ w.heap.size := h; omega)
    have hgl := gots_le L k T bs x.length j
    by_cases hlt : j < T.length
    · obtain rfl := HTA.out (by omega)
      have d0 : wr.cell? ⟨tb, to + j, none⟩ = some (.int .i64 ((nints T).getD j 0)) := (HFw.out.cell (p := ⟨tb, to + j, none⟩) (World.block_lt_of_cell? w _ (HTC.out j hlt)) (fun f => f)).trans (HTC.out j hlt)
      rw [Blocks.nints_get T j hlt] at d0
      have hj32 : 32 * j ≤ x.length := by have := HTL.out; unfold need at this; omega
      have hpc := piece_any (some ⟨tb, to, none⟩) T.length C x.length j hx hj32
      have hT0 : T.getD j 0 ≤ 2048 := HTB.out (T.getD j 0) (by rw [List.getD_eq_getElem?_getD, List.getElem?_eq_getElem hlt]; exact List.getElem_mem _)
      have HG1 : Hid (gots L k T bs x.length (j + 1) = gots L k T bs x.length j ++ readOut L bs (k : Int) ((T.getD j 0 : Int) * 32) ((min 32 (x.length - 32 * j) : Nat) : Int)) := Lib.hid rfl
      have hml : min 32 (x.length - 32 * j) ≤ 32 := by omega
      generalize hY : T.getD j 0 = y at *
      generalize hM : min 32 (x.length - 32 * j) = m at *
      have HM := Lib.hid hM
      clear hY hM
      go_wp2_with (refine wpList_load_row rfl 76 _ rfl w.heap.size rfl 76 _ (0, 0) _ hqr Try.underlying76 rfl (by kernel_rfl) ?_)
      refine (hpc _).mono ?_
      rintro e w4 ⟨rfl, hf4⟩
      rw [HM.out]
      have HF4 : Hid (Fr0 wr w4) := Lib.hid hf4
      have c0 := (HH.out.fr0 (HFw.out.trans' hf4)).c0
      have c1 := (HH.out.fr0 (HFw.out.trans' hf4)).c1
      clear hpc hf4 hqr d0
      go_wp2
      refine Mix.law (fun _ => True) [(.sure, 0), (.sure, 1), (.sure, 2), (.look, 3), (.sure, 4), (.sure, 5), (.sure, 6), (.look, 7), (.sure, 8), (.sure, 9), (.sure, 10), (.turn, 11), (.sure, 12), (.sure, 13), (.sure, 14), (.sure, 15), (.sure, 16)] (by kernel_rfl) (by kernel_rfl) trivial ?_
      simp only [List.map_cons, List.map_nil, Mix.nth_zero, Mix.nth_succ]
      repeat (first
        | (refine Mix.go_skipS (by exact Mix.wanted_no rfl rfl rfl rfl) ?_; go_frame)
        | (refine Mix.go_skipL (by exact Mix.wanted_no rfl rfl rfl rfl) ?_; go_frame)
        | (refine Mix.go_move (by first | exact Mix.wanted_none rfl | exact Mix.wanted_yes rfl rfl rfl) _ rfl _ (by first | (go_simp; done) | (go_simp; rfl)) ?_; go_frame)
        | (refine Mix.go_assign (by first | exact Mix.wanted_none rfl | exact Mix.wanted_yes rfl rfl rfl) _ rfl _ (by first | (go_simp; done) | (go_simp; rfl)) ?_; go_frame)
        | (refine Mix.go_sureW (by first | exact Mix.wanted_none rfl | exact Mix.wanted_yes rfl rfl rfl) _ (by rfl) (by rfl) _ (fun w' hC' => by go_wp2_with fail; refine Mix.stays ?_; go_frame; rfl) ?_; go_frame)
        | (refine Mix.go_lookW (by first | exact Mix.wanted_none rfl | exact Mix.wanted_yes rfl rfl rfl) _ (by rfl) (by rfl) _ (by go_wp2_with fail; refine Mix.stays ?_; go_frame; rfl) ?_; go_frame))
      refine Mix.go_turn ?_
      go_wp2_with fail
      refine (read_any B ga pb cb L bs (k : Int) ((y : Int) * 32) (m : Int) ⟨by omega, by omega⟩ ⟨by omega, by omega⟩ ⟨by omega, by omega⟩ _ (HA.out.fr0 (HFw.out.trans' (HF4.out.trans' (Fr.refl _ _).drew)))).mono ?_
      rintro e w5 ⟨v5, rfl, hb5, hf5⟩
      have HB5 := Lib.hid hb5
      have HF5 : Hid (Fr0 wr w5) := Lib.hid (HF4.out.trans' ((Fr.refl _ _).drew.trans' hf5))
      have hrl := readOut_le L bs (k : Int) ((y : Int) * 32) m
      clear hb5 hf5 c0 c1
      generalize readOut L bs (k : Int) ((y : Int) * 32) (m : Int) = r at *
      generalize perr L (k : Int) ((y : Int) * 32) (m : Int) = pe at *
      go_wp2
      refine Mix.then_go trivial ?_
      repeat (first
        | (refine Mix.go_skipS (by exact Mix.wanted_no rfl rfl rfl rfl) ?_; go_frame)
        | (refine Mix.go_skipL (by exact Mix.wanted_no rfl rfl rfl rfl) ?_; go_frame)
        | (refine Mix.go_move (by first | exact Mix.wanted_none rfl | exact Mix.wanted_yes rfl rfl rfl) _ rfl _ (by first | (go_simp; done) | (go_simp; rfl)) ?_; go_frame)
        | (refine Mix.go_assign (by first | exact Mix.wanted_none rfl | exact Mix.wanted_yes rfl rfl rfl) _ rfl _ (by first | (go_simp; done) | (go_simp; rfl)) ?_; go_frame)
        | (refine Mix.go_sureW (by first | exact Mix.wanted_none rfl | exact Mix.wanted_yes rfl rfl rfl) _ (by rfl) (by rfl) _ (fun w' hC' => by go_wp2_with fail; refine Mix.stays ?_; go_frame; rfl) ?_; go_frame)
        | (refine Mix.go_lookW (by first | exact Mix.wanted_none rfl | exact Mix.wanted_yes rfl rfl rfl) _ (by rfl) (by rfl) _ (by go_wp2_with fail; refine Mix.stays ?_; go_frame; rfl) ?_; go_frame))
      refine Mix.go_end ?_
      have HO5 := Lib.hid (Blocks.owns_fr HF5.out HO.out (fun _ _ f => f))
      have hsz5 : w.heap.size + 1 ≤ w5.heap.size := by have h1 := HFr.out.size; have h2 := HF5.out.size; omega
      go_wp2_with (refine wpList_append_bytes rfl (.tmp 58) (.tmp 59) 32 rfl (w.heap.size + 1) 5 Try.underlying32 info8 _ _ (gots L k T bs x.length j).length (gots L k T bs x.length j) r rfl rfl HO5.out HB5.out (by omega) hsz5 ?_; intro v6 w6 hO6 hG6)
      have HO6 : Hid (w6.ownsRow (w.heap.size + 1) 5 1 v6 (gots L k T bs x.length (j + 1)).length (bvals (gots L k T bs x.length (j + 1)))) := Lib.hid (by rw [HG1.out, List.length_append]; exact hO6)
      have HF6 : Hid (Fr (fun i => w.heap.size + 1 ≤ i) w3 w6) := Lib.hid ((HFr.out.trans HF5.out (fun _ _ f => f.elim)).grown hG6 (fun i _ e => (HO5.out.lt i e).1))
      clear hO6 hG6 HO5
      go_wp2
      go_roundg (T.length - (j + 1))
      case measure => omega
      case rel => exact ⟨j + 1, by simp, by omega, by omega, HO6, HF6⟩
    · obtain rfl : j = T.length := by omega
      have HFR : Hid (Fresh w u8) := Lib.hid (fun a n c hv => by
        rcases HO.out.2 with ⟨h1, _⟩ | ⟨q, cap, cur, h1, h2, _⟩
        · rw [h1] at hv; cases hv
        · rw [h1] at hv
          cases hv
          exact Nat.le_of_succ_le h2)
      go_wp2
      go_ret2
      exact ⟨_, rfl, BytesIs.own HO.out, HFw.out, HFR.out⟩
theorem HoldP.dropped {w w' : World} {Own : Nat → Prop} {k ga g xg ob mb : Nat} {O : List Bool} {puts n : Nat} {es : List Ent} {id : Int} (h : HoldP w Own k ga g xg ob mb O puts es) (ht : w.mapTurned w' mb) (hm : w'.ownsMap Try.prog 3 RV mb n (.map (ms (pairs (drop id es))))) (hn : n ≤ puts) : HoldP w' Own k ga g xg ob mb O puts (drop id es) := by
  have hf : Fr1 mb w w' := Fr.of_grown ht.grown (fun q _ e => by cases e; rfl)
  refine ⟨hf.row h.obj (fun e => h.mb_ne_g e.symm), h.blk.fr hf (fun e => h.mb_ne_xg e.symm) (fun e => h.mb_ne_ob e.symm), ⟨n, hn, hm⟩, fun e he => ?_, h.own, h.ne, ?_, fun e he => h.top e (drop_mem he)⟩
  · obtain ⟨h1, h2⟩ := h.lies e (drop_mem he)
    exact ⟨cuts_fr hf h1 (fun hT a ha => by
      have := (h2 hT a ha).2.2
      simp only [List.mem_cons, not_or] at this
      exact this.2.2.2.1), fun hT => (h2 hT).mono hf.size (fun _ _ h => h)⟩
  · exact List.Pairwise.sublist (List.Sublist.map _ List.filter_sublist) h.rise
/-- blocks have been given back: a new row of bools in the old one's place -/
theorem HoldP.given {w w' w0 : World} {Own : Nat → Prop} {k ga g xg ob mb q : Nat} {O O' : List Bool} {puts : Nat} {es : List Ent} (h : HoldP w Own k ga g xg ob mb O puts es) (hf : Fr1 xg w w') (hb : BlkP w' 0 xg q O') (hq : q = ob ∨ w.heap.size ≤ q) (hw : w0.heap.size ≤ w.heap.size) : HoldP w' (Grow Own w0) k ga g xg q mb O' puts es := by
  obtain ⟨o1, o2, o3, o4⟩ := h.own
  obtain ⟨n, hn, hm⟩ := h.map
  have hg := h.g_lt
  refine ⟨hf.row h.obj h.ne.1, hb, ⟨n, hn, fr_map hf h.mb_ne_xg hm⟩, fun e he => ?_, ⟨.inl o1, .inl o2, ?_, .inl o4⟩, ⟨h.ne.1, ?_⟩, h.rise, h.top⟩
  · obtain ⟨h1, h2⟩ := h.lies e he
    refine ⟨cuts_fr hf h1 (fun hT a ha => by
      have := (h2 hT a ha).2.2
      simp only [List.mem_cons, not_or] at this
      exact this.2.1), fun hT a ha => ?_⟩
    obtain ⟨h3, h4, h5⟩ := h2 hT a ha
    have := hf.size
    refine ⟨.inl h3, by omega, ?_⟩
    simp only [List.mem_cons, List.not_mem_nil, or_false, not_or] at h5 ⊢
    refine ⟨h5.1, h5.2.1, fun e' => ?_, h5.2.2.2⟩
    rcases hq with hq | hq
    · exact h5.2.2.1 (by rw [e', hq])
    · omega
  · rcases hq with hq | hq
    · exact .inl (by rw [hq]; exact o3)
    · exact .inr (by omega)
  · rcases hq with hq | hq
    · rw [hq]; exact h.ne.2
    · omega
def DropPost (Own : Nat → Prop) (k ga g xg ob mb : Nat) (O : List Bool) (p : Nat) (es : List Ent) (id : Int) (T : List Nat) (w : World) (e : Ending) (w' : World) : Prop :=
  e = .returned (.int .i64 (gerr O (nints T))) ∧ ∃ q, HoldP w' (Grow Own w) k ga g xg q mb (gave O (nints T)) p (drop id es) ∧ Fr Own w w'
set_option maxRecDepth 100000 in
set_option maxHeartbeats 8000000 in
theorem drop_some (Own : Nat → Prop) (k ga g xg ob mb : Nat) (O : List Bool) (p : Nat) (es : List Ent) (id : Int) (hid : -9223372036854775808 ≤ id ∧ id ≤ 9223372036854775807) (d : Ent) (hf : find id es = some d) (hTl : d.T.length ≤ 2048) (hTb : ∀ i ∈ d.T, i ≤ 2048) (w : World)
    (h : HoldP w Own k ga g xg ob mb O p es) :
    Calls Try.prog 11 #[ptr g, .int .i64 id] w (DropPost Own k ga g xg ob mb O p es id d.T w) := by
  have c4 := h.c4
  have HH := Lib.hid h
  obtain ⟨n, hn, hm⟩ := h.map
  have hlk := look_some hm hid hf
  have HI := Lib.hid (h.lies d (find_mem hf).1).1
  have HFD := Lib.hid hf
  have HF2 := Lib.hid ((Fr.refl (fun _ => False) w).alloc (.cells #[.slice d.A d.T.length d.C, .int .i64 (d.x.length : Int)] 76))
  have hq := heap_alloc_new w (.cells #[.slice d.A d.T.length d.C, .int .i64 (d.x.length : Int)] 76)
  have HM2 := Lib.hid (hm.alloc (.cells #[.slice d.A d.T.length d.C, .int .i64 (d.x.length : Int)] 76))
  have hkey : keyOf Try.prog 3 (.int .i64 id) = some (key id) := keyOf_int_mk Try.underlying3 (WalkArith.wf_i64 hid)
  have c42 := (HF2.out.cell (p := ⟨g, 4, none⟩) h.g_lt (fun f => f)).trans c4
  clear h hm hf
  unfold ptr
  go_enter Try.func11, Try.ntmps11
  go_wp2_with (at_delete; refine wpList_delete_own _ rfl _ _ 69 3 rfl 76 (int_keyed Try.underlying3) Try.underlying69 RV mb n (.map (ms (pairs es))) rfl HM2.out _ _ rfl hkey ?_; intro w3 hown3 hturn3)
  have hf3 : Fr1 mb (w.alloc (.cells #[.slice d.A d.T.length d.C, .int .i64 (d.x.length : Int)] 76)) w3 := Fr.of_grown hturn3.grown (fun q _ e => by cases e; rfl)
  rw [map_del, pairs_drop] at hown3
  have HH3 : Hid (HoldP w3 Own k ga g xg ob mb O p (drop id es)) := Lib.hid ((HH.out.fr0 HF2.out).dropped hturn3 hown3 hn)
  have HI3 : Hid (IntsIs w3 (.slice d.A d.T.length d.C) (nints d.T)) := Lib.hid (cuts_fr hf3 (HI.out.fr0 HF2.out) (fun hT a ha => by
    have h1 := (HH.out.lies d (find_mem HFD.out).1).2 hT a ha
    have := h1.2.2
    simp only [List.mem_cons, not_or] at this
    exact this.2.2.2.1))
  have HFW : Hid (Fr Own w w3) := Lib.hid (Fr.trans (S := Own) HF2.out.zero hf3 (fun i _ h => by have e' : i = mb := h; rw [e']; exact HH.out.own.2.2.2))
  have hq3 := hf3.heap hq (fun e => by have e' : w.heap.size = mb := e; have := HH.out.mb_lt; omega)
  have c30 : w3.cell? ⟨w.heap.size, 0, none⟩ = some (.slice d.A d.T.length d.C) := by rw [cell_of_row _ _ _ _ _ _ hq3]; rfl
  have c2 := HH3.out.c2
  clear hf3 hown3 hturn3 hq3 hq c42 c4 hlk HF2
  go_wp2
  refine Mix.law (fun _ => True) [(.sure, 0), (.sure, 1), (.sure, 2), (.look, 3), (.sure, 4), (.look, 5), (.turn, 6), (.sure, 7)] (by kernel_rfl) (by kernel_rfl) trivial ?_
  simp only [List.map_cons, List.map_nil, Mix.nth_zero, Mix.nth_succ]
  repeat (first
    | (refine Mix.go_skipS (by exact Mix.wanted_no rfl rfl rfl rfl) ?_; go_frame)
    | (refine Mix.go_skipL (by exact Mix.wanted_no rfl rfl rfl rfl) ?_; go_frame)
    | (refine Mix.go_move (by first | exact Mix.wanted_none rfl | exact Mix.wanted_yes rfl rfl rfl) _ rfl _ (by first | (go_simp; done) | (go_simp; rfl)) ?_; go_frame)
    | (refine Mix.go_assign (by first | exact Mix.wanted_none rfl | exact Mix.wanted_yes rfl rfl rfl) _ rfl _ (by first | (go_simp; done) | (go_simp; rfl)) ?_; go_frame)
    | (refine Mix.go_sureW (by first | exact Mix.wanted_none rfl | exact Mix.wanted_yes rfl rfl rfl) _ (by rfl) (by rfl) _ (fun w' hC' => by go_wp2_with fail; refine Mix.stays ?_; go_frame; rfl) ?_; go_frame)
    | (refine Mix.go_lookW (by first | exact Mix.wanted_none rfl | exact Mix.wanted_yes rfl rfl rfl) _ (by rfl) (by rfl) _ (by go_wp2_with fail; refine Mix.stays ?_; go_frame; rfl) ?_; go_frame))
  refine Mix.go_turn ?_
  go_wp2_with fail
  refine (Blocks.give_any 0 xg ob O _ (nints d.T) (by rw [Blocks.nints_length]; omega) (fun i hi => by
    obtain ⟨j, hj, rfl⟩ := Blocks.nints_mem.1 hi
    have := hTb j hj
    omega) _ (HH3.out.blk.fr0 (Fr.refl _ _).drew) (HI3.out.fr0 (Fr.refl _ _).drew)).mono ?_
  rintro e w4 ⟨rfl, q, hbq, hqq, hf4⟩
  have HE : Hid (DropPost Own k ga g xg ob mb O p es id d.T w (.returned (.int .i64 (gerr O (nints d.T)))) w4) := Lib.hid (by
    refine ⟨rfl, q, (HH3.out.fr0 (Fr.refl _ _).drew).given hf4 hbq hqq HFW.out.size, HFW.out.drew.trans hf4 (fun i _ h => by have e' : i = xg := h; rw [e']; exact HH.out.own.2.1)⟩)
  clear hbq hqq hf4 c30 c2
  generalize gerr O (nints d.T) = er at *
  go_wp2
  refine Mix.then_go trivial ?_
  repeat (first
    | (refine Mix.go_skipS (by exact Mix.wanted_no rfl rfl rfl rfl) ?_; go_frame)
    | (refine Mix.go_skipL (by exact Mix.wanted_no rfl rfl rfl rfl) ?_; go_frame)
    | (refine Mix.go_move (by first | exact Mix.wanted_none rfl | exact Mix.wanted_yes rfl rfl rfl) _ rfl _ (by first | (go_simp; done) | (go_simp; rfl)) ?_; go_frame)
    | (refine Mix.go_assign (by first | exact Mix.wanted_none rfl | exact Mix.wanted_yes rfl rfl rfl) _ rfl _ (by first | (go_simp; done) | (go_simp; rfl)) ?_; go_frame)
    | (refine Mix.go_sureW (by first | exact Mix.wanted_none rfl | exact Mix.wanted_yes rfl rfl rfl) _ (by rfl) (by rfl) _ (fun w' hC' => by go_wp2_with fail; refine Mix.stays ?_; go_frame; rfl) ?_; go_frame)
    | (refine Mix.go_lookW (by first | exact Mix.wanted_none rfl | exact Mix.wanted_yes rfl rfl rfl) _ (by rfl) (by rfl) _ (by go_wp2_with fail; refine Mix.stays ?_; go_frame; rfl) ?_; go_frame))
  refine Mix.go_end ?_
  go_wp2
  go_ret
  exact HE.out
end Go.Proofs.Ytkdpdbjefehmpaa.Hold
