/-
  The walk of hold's Put.
-/
import Derived.Test.YtkdpdbjefehmpaaHoldCalls
import Derived.Test.YtkdpdbjefehmpaaCutB
import Derived.Laws.Rows
namespace Go.Proofs.Ytkdpdbjefehmpaa.Hold
open Go.RowKit Base Go.Maps Arena
open Blocks (BlkAt BlkP whole whole_le frees nints nvals tout took terr)

namespace HoldP
variable {w w' : World} {Own : Nat → Prop} {k ga g xg ob mb : Nat} {O : List Bool} {puts : Nat} {es : List Ent}
theorem mb_ne_g (h : HoldP w Own k ga g xg ob mb O puts es) : mb ≠ g := by obtain ⟨n, _, hm⟩ := h.map; exact ne_of_row hm h.obj
theorem mb_ne_ob (h : HoldP w Own k ga g xg ob mb O puts es) : mb ≠ ob := by
  obtain ⟨n, _, hm⟩ := h.map
  obtain ⟨C, _, f, hr, _⟩ := h.blk.obj
  exact ne_of_row hm hr
theorem mb_ne_xg (h : HoldP w Own k ga g xg ob mb O puts es) : mb ≠ xg := by
  obtain ⟨n, _, hm⟩ := h.map
  obtain ⟨C, hr, _⟩ := h.blk.obj
  exact ne_of_row hm hr
/-- its bools have turned -/
theorem took {O' : List Bool} (h : HoldP w Own k ga g xg ob mb O puts es) (hf : Fr1 ob w w') (hb : BlkP w' 0 xg ob O') : HoldP w' Own k ga g xg ob mb O' puts es := by
  obtain ⟨n, hn, hm⟩ := h.map
  refine ⟨hf.row h.obj h.ne.2, hb, ⟨n, hn, fr_map hf h.mb_ne_ob hm⟩, fun e he => ?_, h.own, h.ne, h.rise, h.top⟩
  obtain ⟨h1, h2⟩ := h.lies e he
  exact ⟨cuts_fr hf h1 (fun hT a ha => by
    have := (h2 hT a ha).2.2
    simp only [List.mem_cons, not_or] at this
    exact this.2.2.1), fun hT => (h2 hT).mono hf.size (fun _ _ h => h)⟩
/-- one more Put has been counted -/
theorem count (h : HoldP w Own k ga g xg ob mb O puts es) : HoldP (w.setCell ⟨g, 3, none⟩ (.int .i64 ((puts : Int) + 1))) Own k ga g xg ob mb O (puts + 1) es := by
  have hf : Fr1 g w (w.setCell ⟨g, 3, none⟩ (.int .i64 ((puts : Int) + 1))) := Fr.setCell (S := fun j => j = g) (p := ⟨g, 3, none⟩) (Fr.refl _ _) (fun _ => rfl) _
  obtain ⟨n, hn, hm⟩ := h.map
  refine ⟨(h.obj.set 3 _).congr (fun i hi => ?_), h.blk.fr hf (fun e => h.ne.1 e.symm) (fun e => h.ne.2 e.symm), ⟨n, by omega, fr_map hf h.mb_ne_g hm⟩, fun e he => ?_, h.own, h.ne, h.rise, fun e he => by have := h.top e he; omega⟩
  · match i, hi with
    | 0, _ => rfl
    | 1, _ => rfl
    | 2, _ => rfl
    | 3, _ => simp
    | 4, _ => rfl
  · obtain ⟨h1, h2⟩ := h.lies e he
    exact ⟨cuts_fr hf h1 (fun hT a ha => by
      have := (h2 hT a ha).2.2
      simp only [List.mem_cons, not_or] at this
      exact this.1), fun hT => (h2 hT).mono hf.size (fun _ _ h => h)⟩
/-- one more is kept -/
theorem snoc {e : Ent} {Own' : Nat → Prop} {n : Nat} (h : HoldP w Own k ga g xg ob mb O puts es) (ht : w.mapTurned w' mb) (hm : w'.ownsMap Try.prog 3 RV mb n (.map (ms (pairs (es ++ [e]))))) (hn : n ≤ puts) (ho : ∀ j, j < w.heap.size → Own j → Own' j) (hi : IntsIs w e.cuts (nints e.T)) (hl : e.T ≠ [] → Lies w Own' [g, xg, ob, mb] e.A)
    (hr : ∀ a ∈ es, a.id < e.id) (htop : e.id ≤ (puts : Int)) : HoldP w' Own' k ga g xg ob mb O puts (es ++ [e]) := by
  have hf : Fr1 mb w w' := Fr.of_grown ht.grown (fun q _ e => by cases e; rfl)
  obtain ⟨o1, o2, o3, o4⟩ := h.own
  have hi' : ∀ e' : Ent, IntsIs w e'.cuts (nints e'.T) → (e'.T ≠ [] → Lies w Own' [g, xg, ob, mb] e'.A) → IntsIs w' e'.cuts (nints e'.T) ∧ (e'.T ≠ [] → Lies w' Own' [g, xg, ob, mb] e'.A) := fun e' h1 h2 => ⟨cuts_fr hf h1 (fun hT a ha => by
    have := (h2 hT a ha).2.2
    simp only [List.mem_cons, not_or] at this
    exact this.2.2.2.1), fun hT => (h2 hT).mono hf.size (fun _ _ h => h)⟩
  refine ⟨hf.row h.obj (fun e => h.mb_ne_g e.symm), h.blk.fr hf (fun e => h.mb_ne_xg e.symm) (fun e => h.mb_ne_ob e.symm), ⟨n, hn, hm⟩, fun e' he' => ?_, ⟨ho _ h.g_lt o1, ho _ h.blk.g_lt o2, ho _ h.blk.ob_lt o3, ho _ h.mb_lt o4⟩, h.ne, ?_, fun e' he' => ?_⟩
  · rcases List.mem_append.1 he' with he' | he'
    · exact hi' e' (h.lies e' he').1 (fun hT => ((h.lies e' he').2 hT).mono (Nat.le_refl _) ho)
    · obtain rfl : e' = e := by simpa using he'
      exact hi' e' hi hl
  · unfold ids
    rw [List.map_append, List.pairwise_append]
    refine ⟨h.rise, by simp, fun a ha b hb => ?_⟩
    obtain ⟨a', ha', rfl⟩ := List.mem_map.1 ha
    obtain rfl : b = e.id := by simpa using hb
    exact hr a' ha'
  · rcases List.mem_append.1 he' with he' | he'
    · exact h.top e' he'
    · obtain rfl : e' = e := by simpa using he'
      exact htop
end HoldP
def Grow (Own : Nat → Prop) (w : World) : Nat → Prop := fun j => Own j ∨ w.heap.size ≤ j
def PutPost (B ga pb cb : Nat) (L : List Int) (bs : List UInt8) (Own : Nat → Prop) (k g xg ob mb : Nat) (O : List Bool) (p : Nat) (es : List Ent) (x : List UInt8) (w : World) (e : Ending) (w' : World) : Prop :=
  Fr (fun j => Own j ∨ j = pb) w w' ∧
  ((need x.length ≤ (frees O).length ∧ ∃ A C, e = .returned (.tuple #[.int .i64 ((p : Int) + 1), .int .i64 0]) ∧ HoldP w' (Grow Own w) k ga g xg ob mb (took O (need x.length : Nat)) (p + 1) (es ++ [⟨(p : Int) + 1, x, tout O (need x.length : Nat), A, C, none, 0⟩]) ∧
      AreP w' B ga pb cb L (puts L k (tout O (need x.length : Nat)) x (tout O (need x.length : Nat)).length bs)) ∨
   (¬ need x.length ≤ (frees O).length ∧ e = .returned (.tuple #[.int .i64 0, .int .i64 6]) ∧ HoldP w' (Grow Own w) k ga g xg ob mb O p es ∧ AreP w' B ga pb cb L bs))
set_option maxRecDepth 100000 in
set_option maxHeartbeats 8000000 in
theorem put_any (B ga pb cb : Nat) (L : List Int) (bs : List UInt8) (Own : Nat → Prop) (k g xg ob mb : Nat) (O : List Bool) (p : Nat) (es : List Ent) (x : List UInt8) (vb : Value) (w : World) (hx : x.length ≤ 65536) (hp : p ≤ 1000000) (hk : k < L.length)
    (hA : AreP w B ga pb cb L bs) (hO : ¬ Own ga ∧ ¬ Own pb ∧ ¬ Own cb) (h : HoldP w Own k ga g xg ob mb O p es) (hb : BytesIs w vb x) (hv : x ≠ [] → ∀ a n c, vb = .slice (some a) n c → ¬ Own a.block ∧ a.block ≠ pb) :
    Calls Try.prog 10 #[ptr g, vb] w (PutPost B ga pb cb L bs Own k g xg ob mb O p es x w) := by
  have HA := Lib.hid hA
  have HH := Lib.hid h
  have HB := Lib.hid hb
  have HV := Lib.hid hv
  have HO := Lib.hid hO
  have c2 := h.c2
  have hln := hA.fits.n
  obtain ⟨a, c, qb, qo, rfl, hle, _, _⟩ := hb
  have hneed : ∀ wx, Calls Try.prog 29 #[.int .i64 (x.length : Int)] wx fun e w' => e = .returned (.int .i64 (need x.length : Nat)) ∧ w' = wx := fun wx => by
    have := Blocks.need_any (x.length : Int) (by omega) wx
    rwa [needs_need] at this
  have hnd : need x.length ≤ 2048 := by unfold need; omega
  clear hA h hv hO
  unfold ptr
  go_enter Try.func10, Try.ntmps10
  go_wp2
  refine Mix.law (fun _ => True) [(.sure, 0), (.sure, 1), (.sure, 2), (.look, 3), (.sure, 4), (.sure, 5), (.look, 6), (.turn, 7), (.sure, 8), (.sure, 9), (.sure, 10), (.sure, 11), (.sure, 12)] (by kernel_rfl) (by kernel_rfl) trivial ?_
  simp only [List.map_cons, List.map_nil, Mix.nth_zero, Mix.nth_succ]
  repeat (first
    | (refine Mix.go_skipS (by exact Mix.wanted_no rfl rfl rfl rfl) ?_; go_frame)
    | (refine Mix.go_skipL (by exact Mix.wanted_no rfl rfl rfl rfl) ?_; go_frame)
    | (refine Mix.go_move (by first | exact Mix.wanted_none rfl | exact Mix.wanted_yes rfl rfl rfl) _ rfl _ (by first | (go_simp; done) | (go_simp; rfl)) ?_; go_frame)
    | (refine Mix.go_assign (by first | exact Mix.wanted_none rfl | exact Mix.wanted_yes rfl rfl rfl) _ rfl _ (by first | (go_simp; done) | (go_simp; rfl)) ?_; go_frame)
    | (refine Mix.go_sureW (by first | exact Mix.wanted_none rfl | exact Mix.wanted_yes rfl rfl rfl) _ (by rfl) (by rfl) _ (fun w' hC' => by go_wp2_with fail; refine Mix.stays ?_; go_frame; rfl) ?_; go_frame)
    | (refine Mix.go_lookW (by first | exact Mix.wanted_none rfl | exact Mix.wanted_yes rfl rfl rfl) _ (by rfl) (by rfl) _ (by go_wp2_with fail; refine Mix.stays ?_; go_frame; rfl) ?_; go_frame))
  refine Mix.go_lookW (by rfl) _ (by rfl) (by rfl) _ (by go_wp2_with fail; refine (hneed _).mono ?_; rintro e w1 ⟨rfl, rfl⟩; go_wp2; refine Mix.stays ?_; go_frame; rfl) ?_
  go_frame
  refine Mix.go_turn ?_
  go_wp2_with fail
  refine (Blocks.take_any 0 xg ob O (need x.length : Nat) ⟨by omega, by omega⟩ _ (HH.out.blk.fr0 (Fr.refl _ _).drew)).mono ?_
  rintro e w1 ⟨v, rfl, hI, hN, hX, hF⟩
  by_cases hfit : need x.length ≤ (frees O).length
  · rw [Blocks.terr_ok hfit]
    have HH1 : Hid (HoldP w1 Own k ga g xg ob mb (took O (need x.length : Nat)) p es) := Lib.hid ((HH.out.fr0 (Fr.refl _ _).drew).took hF hX)
    have HFO : Hid (Fr1 ob w w1) := Lib.hid ((Fr.refl _ _).drew.trans' hF)
    have HF1 : Hid (Fr (fun j => Own j ∨ j = pb) w w1) := Lib.hid ((Fr.refl _ _).drew.trans hF (fun i _ e => .inl (by have e' : i = ob := e; rw [e']; exact HH.out.own.2.2.1)))
    have HT : Hid (tout O (need x.length : Nat) = (frees O).take (need x.length)) := Lib.hid (Blocks.tout_ok hfit)
    have HT0 : Hid (∀ i ∈ tout O (need x.length : Nat), i < O.length) := Lib.hid (fun i hi => (Blocks.tout_free hi).1)
    have hTl : (tout O (need x.length : Nat)).length = need x.length := by rw [Blocks.tout_ok hfit, List.length_take]; omega
    obtain ⟨A, C, tb, to, rfl, hTC, hTa, hTc⟩ := hI
    have HI : Hid (IntsIs w1 (.slice A (nints (tout O (need x.length : Nat))).length C) (nints (tout O (need x.length : Nat)))) := Lib.hid ⟨A, C, tb, to, rfl, hTC, hTa, hTc⟩
    have HN : Hid (∀ q, A = some q → w.heap.size ≤ q.block) := Lib.hid (fun q hq => by subst hq; exact hN q _ _ rfl)
    have HPB : Hid (∀ q, A = some q → q.block ≠ pb) := Lib.hid (fun q hq e => by have := HN.out q hq; have := HA.out.pb_lt; omega)
    generalize hTT : tout O (need x.length : Nat) = T at *
    have HTT := Lib.hid hTT
    rw [Blocks.nints_length] at *
    have HTA := Lib.hid hTa
    have HTC := Lib.hid hTc
    have HTL := Lib.hid hTl
    have hTn : T.length ≤ 2048 := by omega
    clear hX hF hN hTC hTa hTc hTT hTl c2
    go_wp2
    refine Mix.then_go trivial ?_
    repeat (first
      | (refine Mix.go_skipS (by exact Mix.wanted_no rfl rfl rfl rfl) ?_; go_frame)
      | (refine Mix.go_skipL (by exact Mix.wanted_no rfl rfl rfl rfl) ?_; go_frame)
      | (refine Mix.go_move (by first | exact Mix.wanted_none rfl | exact Mix.wanted_yes rfl rfl rfl) _ rfl _ (by first | (go_simp; done) | (go_simp; rfl)) ?_; go_frame)
      | (refine Mix.go_assign (by first | exact Mix.wanted_none rfl | exact Mix.wanted_yes rfl rfl rfl) _ rfl _ (by first | (go_simp; done) | (go_simp; rfl)) ?_; go_frame)
      | (refine Mix.go_sureW (by first | exact Mix.wanted_none rfl | exact Mix.wanted_yes rfl rfl rfl) _ (by rfl) (by rfl) _ (fun w' hC' => by go_wp2_with fail; refine Mix.stays ?_; go_frame; rfl) ?_; go_frame)
      | (refine Mix.go_lookW (by first | exact Mix.wanted_none rfl | exact Mix.wanted_yes rfl rfl rfl) _ (by rfl) (by rfl) _ (by go_wp2_with fail; refine Mix.stays ?_; go_frame; rfl) ?_; go_frame))
    refine Mix.go_end ?_
    go_wp2
    have HF12 := Lib.hid ((Fr.refl (fun _ => False) w1).alloc (.cells #[.slice A T.length C, .int .i64 (x.length : Int)] 76))
    have hq := heap_alloc_new w1 (.cells #[.slice A T.length C, .int .i64 (x.length : Int)] 76)
    have HN2 : Hid (T ≠ [] → Lies w1 (Grow Own w) [g, xg, ob, mb] A) := Lib.hid (fun hT q hq => by
      have hpos : 0 < T.length := List.length_pos_iff.2 hT
      have h1 := HN.out q hq
      have h2 := World.block_lt_of_cell? w1 _ (HTC.out 0 hpos)
      have h3 := HTA.out hpos
      rw [hq] at h3
      cases h3
      refine ⟨.inr h1, h2, ?_⟩
      have h4 : w.heap.size ≤ tb := h1
      show tb ∉ [g, xg, ob, mb]
      have g1 := HH.out.g_lt
      have g2 := HH.out.blk.g_lt
      have g3 := HH.out.blk.ob_lt
      have g4 := HH.out.mb_lt
      simp only [List.mem_cons, List.not_mem_nil, or_false, not_or]
      omega)
    generalize hQ : w1.heap.size = q at *
    generalize hW : w1.alloc (.cells #[.slice A T.length C, .int .i64 (x.length : Int)] 76) = w2 at *
    have HQ := Lib.hid hQ
    have HQB : Hid (q ≠ pb) := Lib.hid (by have h1 := HA.out.pb_lt; have h2 := HF1.out.size; omega)
    have HH2 : Hid (HoldP w2 Own k ga g xg ob mb (took O (need x.length : Nat)) p es) := Lib.hid (HH1.out.fr0 HF12.out)
    have HA2 : Hid (AreP w2 B ga pb cb L bs) := Lib.hid (by
      have o3 := HH.out.own.2.2.1
      obtain ⟨n1, n2, n3⟩ := HO.out
      exact (HA.out.fr HFO.out (fun e => n1 (by have e' : ga = ob := e; rw [e']; exact o3)) (fun e => n2 (by have e' : pb = ob := e; rw [e']; exact o3)) (fun e => n3 (by have e' : cb = ob := e; rw [e']; exact o3))).fr0 HF12.out)
    have HB2 : Hid (BytesIs w2 (.slice a x.length c) x) := Lib.hid ((bytes_fr HFO.out HB.out (fun hx0 p n c h e => (HV.out hx0 p n c h).1 (by have e' : p.block = ob := e; rw [e']; exact HH.out.own.2.2.1))).fr0 HF12.out)
    have HTC2 : Hid (∀ j, j < T.length → w2.cell? ⟨tb, to + j, none⟩ = some (.int .i64 ((nints T).getD j 0))) := Lib.hid (fun j hj => (HF12.out.cell (p := ⟨tb, to + j, none⟩) (World.block_lt_of_cell? w1 _ (HTC.out j hj)) (fun f => f)).trans (HTC.out j hj))
    have HIN2 : Hid (IntsIs w2 (.slice A T.length C) (nints T)) := Lib.hid (HI.out.fr0 HF12.out)
    clear hW hQ HA
    go_loopg [33] T.length (fun kx s wr => ∃ j : Nat, s = .int .i64 (j : Int) ∧ j ≤ T.length ∧ T.length - j ≤ kx ∧ Hid (AreP wr B ga pb cb L (puts L k T x j bs)) ∧ Hid (Fr1 pb w2 wr))
    case atStart => exact ⟨0, rfl, Nat.zero_le _, by omega, HA2, Lib.hid (Fr.refl _ _)⟩
    case round =>
      obtain ⟨j, rfl, hj, hgj, HAr, HFr⟩ := hrel
      have HHr : Hid (HoldP wr Own k ga g xg ob mb (took O (need x.length : Nat)) p es) := Lib.hid (HH2.out.fr HFr.out (fun i h1 h2 => HO.out.2.1 (by have e' : i = pb := h2; rw [← e']; exact h1)))
      have hqr := HFr.out.heap hq HQB.out
      by_cases hlt : j < T.length
      · obtain rfl := HTA.out (by omega)
        have d0 := (HFr.out.cell (p := ⟨tb, to + j, none⟩) (World.block_lt_of_cell? w2 _ (HTC2.out j hlt)) (HPB.out ⟨tb, to, none⟩ rfl)).trans (HTC2.out j hlt)
        rw [Blocks.nints_get T j (by omega)] at d0
        have hj32 : 32 * j ≤ x.length := by have := HTL.out; unfold need at this; omega
        have c0 := HHr.out.c0
        have c1 := HHr.out.c1
        have HBr : Hid (BytesIs wr (.slice a x.length c) x) := Lib.hid (bytes_fr HFr.out HB2.out (fun hx0 p n c h e => (HV.out hx0 p n c h).2 e))
        obtain ⟨A', hsl, hbp, hbA⟩ := cut_bytes (P := Try.prog) 32 5 Try.underlying32 (by kernel_rfl) HBr.out (32 * j) (32 * j + min 32 (x.length - 32 * j)) (by omega) (by omega) ((j : Int) * 32) ((j : Int) * 32 + ((min 32 (x.length - 32 * j) : Nat) : Int)) (by omega) (by omega)
        rw [show 32 * j + min 32 (x.length - 32 * j) - 32 * j = min 32 (x.length - 32 * j) by omega] at hsl hbp
        have HBP : Hid (BytesIs wr (.slice A' (min 32 (x.length - 32 * j)) (c - 32 * j)) (piece x j)) := Lib.hid (by
          have e1 : (x.drop (32 * j)).take (min 32 (x.length - 32 * j)) = piece x j := by
            unfold piece
            rw [List.take_eq_take_iff, List.length_drop]
            omega
          rwa [e1] at hbp)
        have HBA := Lib.hid hbA
        have hpc := piece_any (some ⟨tb, to, none⟩) T.length C x.length j hx hj32
        have hml : min 32 (x.length - 32 * j) ≤ 32 := by omega
        have hT0 : T.getD j 0 ≤ 2048 := by
          have h1 := HT0.out (T.getD j 0) (by rw [List.getD_eq_getElem?_getD, List.getElem?_eq_getElem hlt]; exact List.getElem_mem _)
          have h2 := HH.out.blk.len
          omega
        have HPU : Hid (puts L k T x (j + 1) bs = wrote L (puts L k T x j bs) (k : Int) ((T.getD j 0 : Int) * 32) (piece x j)) := Lib.hid rfl
        have hpl : (piece x j).length = min 32 (x.length - 32 * j) := piece_length x j
        generalize hY : T.getD j 0 = y at *
        generalize hM : min 32 (x.length - 32 * j) = m at *
        have HM := Lib.hid hM
        clear hbp hbA hY hM
        go_wp2_with (refine wpList_load_row rfl 76 _ rfl q rfl 76 _ (0, 0) _ hqr Try.underlying76 rfl (by kernel_rfl) ?_)
        refine (hpc _).mono ?_
        rintro e w3 ⟨rfl, hf3⟩
        rw [HM.out]
        have HH3 : Hid (HoldP w3 Own k ga g xg ob mb (took O (need x.length : Nat)) p es) := Lib.hid (HHr.out.fr0 hf3)
        have HA3 : Hid (AreP w3 B ga pb cb L (puts L k T x j bs)) := Lib.hid (HAr.out.fr0 hf3)
        have HB3 := Lib.hid (HBP.out.fr0 hf3)
        have HF3 : Hid (Fr1 pb w2 w3) := Lib.hid (HFr.out.trans hf3 (fun _ _ f => f.elim))
        have c0 := HH3.out.c0
        have c1 := HH3.out.c1
        clear hpc hf3 hqr d0
        go_wp2
        refine Mix.law (fun _ => True) [(.sure, 0), (.sure, 1), (.sure, 2), (.look, 3), (.sure, 4), (.sure, 5), (.sure, 6), (.look, 7), (.sure, 8), (.sure, 9), (.sure, 10), (.sure, 11), (.sure, 12), (.sure, 13), (.sure, 14), (.sure, 15), (.turn, 16)] (by kernel_rfl) (by kernel_rfl) trivial ?_
        simp only [List.map_cons, List.map_nil, Mix.nth_zero, Mix.nth_succ]
        repeat (first
          | (refine Mix.go_skipS (by exact Mix.wanted_no rfl rfl rfl rfl) ?_; go_frame)
          | (refine Mix.go_skipL (by exact Mix.wanted_no rfl rfl rfl rfl) ?_; go_frame)
          | (refine Mix.go_move (by first | exact Mix.wanted_none rfl | exact Mix.wanted_yes rfl rfl rfl) _ rfl _ (by first | (go_simp; done) | (go_simp; rfl)) ?_; go_frame)
          | (refine Mix.go_assign (by first | exact Mix.wanted_none rfl | exact Mix.wanted_yes rfl rfl rfl) _ rfl _ (by first | (go_simp; done) | (go_simp; rfl)) ?_; go_frame)
          | (refine Mix.go_sureW (by first | exact Mix.wanted_none rfl | exact Mix.wanted_yes rfl rfl rfl) _ (by rfl) (by rfl) _ (fun w' hC' => by go_wp2_with fail; refine Mix.stays ?_; go_frame; rfl) ?_; go_frame)
          | (refine Mix.go_lookW (by first | exact Mix.wanted_none rfl | exact Mix.wanted_yes rfl rfl rfl) _ (by rfl) (by rfl) _ (by go_wp2_with fail; refine Mix.stays ?_; go_frame; rfl) ?_; go_frame))
        refine Mix.go_turn ?_
        go_wp2_with fail
        refine (write_any B ga pb cb L (puts L k T x j bs) (piece x j) (k : Int) ((y : Int) * 32) _ ⟨by omega, by omega⟩ ⟨by omega, by omega⟩ (by omega) _ (HA3.out.fr0 (Fr.refl _ _).drew) (HB3.out.fr0 (Fr.refl _ _).drew)).mono ?_
        rintro e w4 ⟨rfl, hA4, hF4⟩
        have HA4 : Hid (AreP w4 B ga pb cb L (puts L k T x (j + 1) bs)) := Lib.hid (by rw [HPU.out]; exact hA4)
        have HF4 : Hid (Fr1 pb w2 w4) := Lib.hid (HF3.out.trans' ((Fr.refl _ _).drew.trans' hF4))
        clear hA4 hF4 c0 c1 hsl
        go_wp2
        refine Mix.then_go trivial ?_
        refine Mix.go_end ?_
        go_wp2
        go_roundg (T.length - (j + 1))
        case measure => omega
        case rel => exact ⟨j + 1, by simp, by omega, by omega, HA4, HF4⟩
      · obtain rfl : j = T.length := by omega
        have c3 := HHr.out.c3
        have df := HHr.out.obj.frozen 3
        have HH5 := Lib.hid HHr.out.count
        have HF5 : Hid (Fr (fun i => i = pb ∨ i = g) w2 (wr.setCell ⟨g, 3, none⟩ (.int .i64 ((p : Int) + 1)))) := Lib.hid (Fr.setCell (S := fun i => i = pb ∨ i = g) (p := ⟨g, 3, none⟩) (HFr.out.mono (fun _ _ h => .inl h)) (fun _ => .inr rfl) _)
        have HM5 : Hid (∃ n, n ≤ p ∧ (wr.setCell ⟨g, 3, none⟩ (.int .i64 ((p : Int) + 1))).drew.ownsMap Try.prog 3 RV mb n (.map (ms (pairs es)))) := Lib.hid (by
          obtain ⟨n, hn, hm⟩ := HHr.out.map
          exact ⟨n, hn, fr_map (Fr.setCell (S := fun i => i = g) (p := ⟨g, 3, none⟩) (Fr.refl _ _) (fun _ => rfl) _).drew HHr.out.mb_ne_g hm⟩)
        have HQ5 := Lib.hid ((Fr.setCell (S := fun i => i = g) (p := ⟨g, 3, none⟩) (Fr.refl _ _) (fun _ => rfl) (.int .i64 ((p : Int) + 1))).heap hqr (fun e => by
          have e' : q = g := e
          have h1 := HH.out.g_lt
          have h2 := HF1.out.size
          have h3 := HQ.out
          omega))
        have HA5 : Hid (AreP (wr.setCell ⟨g, 3, none⟩ (.int .i64 ((p : Int) + 1))) B ga pb cb L (puts L k T x T.length bs)) := Lib.hid (by
          obtain ⟨n1, n2, n3⟩ := HO.out
          have o1 := HH.out.own.1
          exact HAr.out.fr (Fr.setCell (S := fun i => i = g) (p := ⟨g, 3, none⟩) (Fr.refl _ _) (fun _ => rfl) _) (fun e => n1 (by have e' : ga = g := e; rw [e']; exact o1)) (fun e => n2 (by have e' : pb = g := e; rw [e']; exact o1)) (fun e => n3 (by have e' : cb = g := e; rw [e']; exact o1)))
        have HLI : Hid (IntsIs (wr.setCell ⟨g, 3, none⟩ (.int .i64 ((p : Int) + 1))) (.slice A T.length C) (nints T)) := Lib.hid (cuts_fr (e := ⟨0, [], T, A, C, none, 0⟩) HF5.out HIN2.out (fun hT a ha => by
          have h1 := (HN2.out hT a ha).2.2
          have h2 := HPB.out a ha
          simp only [List.mem_cons, not_or] at h1
          rintro (h3 | h3)
          · exact h2 h3
          · exact h1.1 h3))
        go_wp2
        clear c3 df hqr
        generalize wr.setCell ⟨g, 3, none⟩ (.int .i64 ((p : Int) + 1)) = w5 at *
        have c3 := HH5.out.c3
        have c4 := HH5.out.c4
        rw [show ((p + 1 : Nat) : Int) = (p : Int) + 1 by omega] at c3
        obtain ⟨n, hn, hm⟩ := HM5.out
        have HMM := Lib.hid hm
        have hq5 := HQ5.out
        clear hm
        refine Mix.law (fun _ => True) [(.sure, 0), (.sure, 1), (.sure, 2), (.look, 3), (.sure, 4), (.sure, 5), (.sure, 6), (.look, 7), (.look, 8), (.last, 9)] (by kernel_rfl) (by kernel_rfl) trivial ?_
        simp only [List.map_cons, List.map_nil, Mix.nth_zero, Mix.nth_succ]
        repeat (first
          | (refine Mix.go_skipS (by exact Mix.wanted_no rfl rfl rfl rfl) ?_; go_frame)
          | (refine Mix.go_skipL (by exact Mix.wanted_no rfl rfl rfl rfl) ?_; go_frame)
          | (refine Mix.go_move (by first | exact Mix.wanted_none rfl | exact Mix.wanted_yes rfl rfl rfl) _ rfl _ (by first | (go_simp; done) | (go_simp; rfl)) ?_; go_frame)
          | (refine Mix.go_assign (by first | exact Mix.wanted_none rfl | exact Mix.wanted_yes rfl rfl rfl) _ rfl _ (by first | (go_simp; done) | (go_simp; rfl)) ?_; go_frame)
          | (refine Mix.go_sureW (by first | exact Mix.wanted_none rfl | exact Mix.wanted_yes rfl rfl rfl) _ (by rfl) (by rfl) _ (fun w' hC' => by go_wp2_with fail; refine Mix.stays ?_; go_frame; rfl) ?_; go_frame)
          | (refine Mix.go_lookW (by first | exact Mix.wanted_none rfl | exact Mix.wanted_yes rfl rfl rfl) _ (by rfl) (by rfl) _ (by go_wp2_with fail; refine Mix.stays ?_; go_frame; rfl) ?_; go_frame))
        refine Mix.go_load_row (by rfl) 76 _ rfl q (by first | (go_simp; done) | (go_simp; rfl)) 76 _ (0, 0) _ hq5 Try.underlying76 rfl (by kernel_rfl) ?_
        go_frame
        refine Mix.go_last ?_
        have hkey : keyOf Try.prog 3 (.int .i64 ((p : Int) + 1)) = some (key ((p : Int) + 1)) := keyOf_int_mk Try.underlying3 (WalkArith.wf_i64 ⟨by omega, by omega⟩)
        go_wp2_with (at_mapUpdate; refine wpList_mapUpdate_in _ rfl _ _ _ 69 rfl 3 76 (int_keyed Try.underlying3) Try.underlying69 RV mb n (.map (ms (pairs es))) rfl HMM.out (by unfold maxLen; omega) _ _ (key ((p : Int) + 1)) rfl rfl hkey (.held (.agg #[.slice A T.length C, .int .i64 (x.length : Int)])) [] rfl ?_; intro w6 hown6 hturn6)
        have hf6 : Fr1 mb w5.drew w6 := Fr.of_grown hturn6.grown (fun i _ e => by cases e; rfl)
        rw [map_put _ (fun b hb => by
          obtain ⟨e, he, rfl⟩ := List.mem_map.1 hb
          have := HH.out.top e he
          show e.id < _
          omega)] at hown6
        have HH6 : Hid (HoldP w6 (Grow Own w) k ga g xg ob mb (took O (need x.length : Nat)) (p + 1) (es ++ [⟨(p : Int) + 1, x, T, A, C, none, 0⟩])) := Lib.hid (by
          have hd : Fr0 w5 w5.drew := (Fr.refl _ _).drew
          refine (HH5.out.fr0 hd).snoc hturn6 (n := n + 1) (by rw [pairs_snoc]; exact hown6) (by omega) (fun i _ h => .inl h) (HLI.out.fr0 hd) (fun hT => (HN2.out hT).mono ?_ (fun _ _ h => h)) (fun b hb => by have := HH.out.top b hb; show b.id < (p : Int) + 1; omega) (by show (p : Int) + 1 ≤ ((p + 1 : Nat) : Int); omega)
          have h1 := HF12.out.size
          have h2 := HF5.out.size
          have h3 := HQ.out
          show w1.heap.size ≤ w5.heap.size
          omega)
        have HE : Hid (PutPost B ga pb cb L bs Own k g xg ob mb O p es x w (.returned (.tuple #[.int .i64 ((p : Int) + 1), .int .i64 0])) w6) := Lib.hid (by
          obtain ⟨o1, o2, o3, o4⟩ := HH.out.own
          obtain ⟨n1, n2, n3⟩ := HO.out
          have hfa : Fr (fun i => Own i ∨ i = pb) w w2 := HF1.out.trans HF12.out (fun _ _ f => f.elim)
          have hfb : Fr (fun i => Own i ∨ i = pb) w w5.drew := hfa.trans HF5.out.drew (fun i _ h => by
            rcases h with h | h
            · exact .inr h
            · exact .inl (by rw [h]; exact o1))
          refine ⟨hfb.trans hf6 (fun i _ h => .inl (by have e' : i = mb := h; rw [e']; exact o4)), .inl ⟨hfit, A, C, rfl, ?_, ?_⟩⟩
          · rw [HTT.out]; exact HH6.out
          · rw [HTT.out]
            exact (HA5.out.fr0 (Fr.refl _ _).drew).fr hf6 (fun e => n1 (by have e' : ga = mb := e; rw [e']; exact o4)) (fun e => n2 (by have e' : pb = mb := e; rw [e']; exact o4)) (fun e => n3 (by have e' : cb = mb := e; rw [e']; exact o4)))
        have c6 := HH6.out.c3
        rw [show ((p + 1 : Nat) : Int) = (p : Int) + 1 by omega] at c6
        clear hf6 hown6 hturn6 c3 c4 hq5
        refine Mix.then_go trivial ?_
        refine Mix.go_end ?_
        go_wp2
        go_ret2
        exact HE.out
  · rw [Blocks.terr_full (by omega) (by omega)]
    have HH1 : Hid (HoldP w1 (Grow Own w) k ga g xg ob mb O p es) := Lib.hid (by
      have hb2 : BlkP w1 0 xg ob (took O (need x.length : Nat)) := hX
      rw [Blocks.took_bad (by rw [Blocks.terr_full (by omega) (by omega)]; decide)] at hb2
      exact ((HH.out.fr0 (Fr.refl _ _).drew).took hF hb2).mono (fun j _ h => .inl h))
    have HF1 : Hid (Fr1 ob w w1) := Lib.hid ((Fr.refl _ _).drew.trans' hF)
    obtain ⟨A, C, tb, to, rfl, _, _, _⟩ := hI
    have HE : Hid (PutPost B ga pb cb L bs Own k g xg ob mb O p es x w (.returned (.tuple #[.int .i64 0, .int .i64 6])) w1) := Lib.hid (by
      have o3 := HH.out.own.2.2.1
      refine ⟨HF1.out.mono (fun i _ e => .inl (by have e' : i = ob := e; rw [e']; exact o3)), .inr ⟨hfit, rfl, HH1.out, ?_⟩⟩
      obtain ⟨n1, n2, n3⟩ := HO.out
      exact HA.out.fr HF1.out (fun e => n1 (by have e' : ga = ob := e; rw [e']; exact o3)) (fun e => n2 (by have e' : pb = ob := e; rw [e']; exact o3)) (fun e => n3 (by have e' : cb = ob := e; rw [e']; exact o3)))
    clear hX hF hN c2
    go_wp2
    refine Mix.then_go trivial ?_
    repeat (first
      | (refine Mix.go_skipS (by exact Mix.wanted_no rfl rfl rfl rfl) ?_; go_frame)
      | (refine Mix.go_skipL (by exact Mix.wanted_no rfl rfl rfl rfl) ?_; go_frame)
      | (refine Mix.go_move (by first | exact Mix.wanted_none rfl | exact Mix.wanted_yes rfl rfl rfl) _ rfl _ (by first | (go_simp; done) | (go_simp; rfl)) ?_; go_frame)
      | (refine Mix.go_assign (by first | exact Mix.wanted_none rfl | exact Mix.wanted_yes rfl rfl rfl) _ rfl _ (by first | (go_simp; done) | (go_simp; rfl)) ?_; go_frame)
      | (refine Mix.go_sureW (by first | exact Mix.wanted_none rfl | exact Mix.wanted_yes rfl rfl rfl) _ (by rfl) (by rfl) _ (fun w' hC' => by go_wp2_with fail; refine Mix.stays ?_; go_frame; rfl) ?_; go_frame)
      | (refine Mix.go_lookW (by first | exact Mix.wanted_none rfl | exact Mix.wanted_yes rfl rfl rfl) _ (by rfl) (by rfl) _ (by go_wp2_with fail; refine Mix.stays ?_; go_frame; rfl) ?_; go_frame))
    refine Mix.go_end ?_
    go_wp2
    go_ret2
    exact HE.out
end Go.Proofs.Ytkdpdbjefehmpaa.Hold
