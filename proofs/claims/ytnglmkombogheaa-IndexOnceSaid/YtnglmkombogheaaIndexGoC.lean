/-
  The program's index: Touch, Drop.
-/
import Derived.Test.YtnglmkombogheaaIndexGoB
namespace Go.Proofs.Ytnglmkombogheaa.Index
open Go.RowKit Base
open _root_.Go.Proofs.Ytnglmkombogheaa.Ord (Ent ptr Sorted Grown OrdIn FrO Mine setCells_at fr_setCells drop_int_some_in)

section
variable {O : Nat → Prop} {w w' : World} {g o : Nat} {A : Option Addr} {C : Nat} {L : List En} {es : List Ent}
theorem grown_more {w1 : World} {k : Nat} (h : Grown O w1 w' k) (hs : w.heap.size ≤ w1.heap.size) : Grown O w w' k := by
  rcases h with h | h
  · exact .inl h
  · exact .inr ⟨by omega, h.2⟩
theorem ordIn_tight {T E N : TypeId} {m : Nat} (h : OrdIn O w T E N g m es) : OrdIn (fun k => O k ∧ k < w.heap.size) w T E N g m es := by
  obtain ⟨v, ps, h1, h2, h3, h4, h5⟩ := h.row
  exact ⟨⟨v, ps, h1, h2, h3, fun b hb => ⟨h4 b hb, (h2.lt b hb).2⟩, fun p hp => ⟨h5 p hp, by
    obtain ⟨cs, hc⟩ := h3.mem hp
    exact (Array.getElem?_eq_some_iff.1 hc).1⟩⟩, ⟨h.hg, h.g_lt⟩, h.srt, h.le, h.big⟩
/-- none of its blocks is still to be made -/
theorem IxAt.tight (h : IxAt O w g L) : IxAt (fun k => O k ∧ k < w.heap.size) w g L := by
  obtain ⟨h1, o, A, C, es, h⟩ := h
  exact ⟨h1, o, A, C, es, h.row, h.own, ⟨h.hg, h.lt⟩, fun b hb => ⟨h.hA b hb, (h.own.lt b hb).2⟩, ordIn_tight h.ord, h.keys⟩
theorem IxAt.fr0 (h : IxAt O w g L) (hf : Fr0 w w') : IxAt O w' g L := h.fr hf fun _ _ _ f => f
end
theorem row_place {L : List En} {k : ByteArray} (h : hasX k L = true) : isRow L (place k L : Int) = true := by
  obtain ⟨h1, h2⟩ := hasX_true.1 h
  refine isRow_iff.2 ⟨place k L, rfl, h2, ?_⟩
  have h3 := place_at h2
  cases hg : gap (L.getD (place k L) zeroE) with
  | false => rfl
  | true => exact absurd (by rw [← h3]; exact gap_iff.1 hg) h1
def ITouchPost (O : Nat → Prop) (g : Nat) (L : List En) (k : ByteArray) (w : World) (e : Ending) (w' : World) : Prop :=
  e = .returned (.bool (hasX k L)) ∧ Fr O w w' ∧ IxAt (Grown O w w') w' g (touchSt L k)
theorem itouch_is (O : Nat → Prop) (g : Nat) (L : List En) (k : ByteArray) (w : World) (h : IxAt O w g L) :
    Calls Try.prog 10 #[ptr g, .string k] w (ITouchPost O g L k w) := by
  have HFIND := Lib.hid (ifind_any O g L k w h)
  cases hx : hasX k L with
  | false =>
    have HE : Hid (∀ w', Fr0 w w' → ITouchPost O g L k w (.returned (.bool false)) w') := Lib.hid (fun w' hf => ⟨by rw [hx], hf.zero, by unfold touchSt; rw [hx]; exact (h.fr0 hf).mono (fun _ hk => .inl hk)⟩)
    rw [hx] at HFIND
    generalize hPT : ITouchPost O g L k w = post at *
    generalize findX k L = n at *
    clear hPT h hx
    unfold ptr at *
    go_enter Try.func10, Try.ntmps10
    go_wp2_with fail
    refine HFIND.out.mono ?_
    rintro e w1 ⟨rfl, hF⟩
    have HX := Lib.hid (HE.out w1 hF)
    clear HFIND HE hF
    go_wp2
    exact HX.out
  | true =>
    have HS : Hid (∀ w1, Fr0 w w1 → Calls Try.prog 11 #[ptr g, .int .i64 (place k L : Int), .bool true] w1 (ISetPost O g L (place k L : Int) true w1)) := Lib.hid (fun w1 hf => iset_is O g L _ (by
      have h1 := (hasX_true.1 hx).2
      have h2 := h.ok.le
      unfold inI64
      omega) true w1 (h.fr0 hf))
    have HE : Hid (∀ w1 e w2, Fr0 w w1 → ISetPost O g L (place k L : Int) true w1 e w2 → e = .returned (.bool true) ∧ ITouchPost O g L k w (.returned (.bool true)) w2) := Lib.hid (fun w1 e w2 hf hp => by
      obtain ⟨h1, h2, h3⟩ := hp
      rw [row_place hx] at h1
      refine ⟨h1, by rw [hx], hf.zero.trans' h2, ?_⟩
      unfold touchSt
      rw [if_pos hx]
      exact h3.mono (fun _ hk => grown_more hk hf.size))
    rw [hx, show findX k L = place k L by unfold findX; rw [hx]; rfl] at HFIND
    generalize hPT : ITouchPost O g L k w = post at *
    generalize place k L = n at *
    clear hPT h hx
    unfold ptr at *
    go_enter Try.func10, Try.ntmps10
    go_wp2_with fail
    refine HFIND.out.mono ?_
    rintro e w1 ⟨rfl, hF⟩
    have HF := Lib.hid hF
    have HS1 := Lib.hid (HS.out w1 hF)
    clear HS HFIND hF
    go_wp2_with fail
    refine HS1.out.mono ?_
    intro e w2 hp
    obtain ⟨rfl, hq⟩ := HE.out w1 e w2 HF.out hp
    have HX := Lib.hid hq
    clear HE HS1 hp hq
    go_wp2
    exact HX.out
theorem itouch_any (O : Nat → Prop) (g : Nat) (L : List En) (k : ByteArray) (w : World) (h : IxAt O w g L) :
    Calls Try.prog 10 #[ptr g, .string k] w fun e w' => e = .returned (.bool (hasX k L)) ∧ Fr O w w' ∧ IxAt (Grown O w w') w' g (touchSt L k) := itouch_is O g L k w h

/-! Drop -/
theorem drop_none {L : List En} {r : Int} (h : isRow L r = false) : dropSt L r = L := by unfold dropSt; rw [h]; rfl
theorem drop_row {L : List En} {i : Nat} (h : isRow L (i : Int) = true) : dropSt L (i : Int) = trim (L.set i zeroE) := by unfold dropSt; rw [if_pos h, Int.toNat_natCast]
/-- what is behind a Drop: the key is gone, the row is empty, the end is cut -/
theorem IxIn.dropped {O : Nat → Prop} {w W3 W4 : World} {g o b : Nat} {C : Nat} {L : List En} {es : List Ent} (h : IxIn O w g o (some ⟨b, 0, none⟩) C L es) (ho : OkX L) (i : Nat) (hi : i < L.length) (hg : gap (L.getD i zeroE) = false) (h3 : Fr0 w W3)
    (h4 : OrdIn O W4 56 59 58 o 4096 (Ord.drop (L.getD i zeroE).k es)) (hF : Fr O W3 W4) (hT : FrO 0 56 59 58 W3 W4) :
    Rw W4 g o (some ⟨b, 0, none⟩) C L ∧ Rw (W4.setCells b (i * 5) (e5 zeroE).toList) g o (some ⟨b, 0, none⟩) C (L.set i zeroE) ∧
    (∀ W6, W6 = (W4.setCells b (i * 5) (e5 zeroE).toList).setCell ⟨g, 0, none⟩ (.slice (some ⟨b, 0, none⟩) (trim (L.set i zeroE)).length C) → Fr O w W6 ∧ IxAt O W6 g (dropSt L (i : Int)) ∧ Fr (fun k => k = b ∨ k = g) W4 W6) := by
  have r4 := (h.rw.fr0 h3).frO hT
  obtain ⟨r5, f5⟩ := r4.store i hi zeroE
  refine ⟨r4, r5, ?_⟩
  rintro W6 rfl
  obtain ⟨r6, f6⟩ := r5.cut
  have hx : isRow L (i : Int) = true := isRow_iff.2 ⟨i, rfl, hi, hg⟩
  obtain ⟨_, cs4, hb4, _⟩ := r4.blk
  obtain ⟨_, cs5, hb5, _⟩ := r5.blk
  have hOb : O b := h.hA b rfl
  have hF6 : Fr (fun k => k = b ∨ k = g) W4 ((W4.setCells b (i * 5) (e5 zeroE).toList).setCell ⟨g, 0, none⟩ (.slice (some ⟨b, 0, none⟩) (trim (L.set i zeroE)).length C)) := Fr.trans (f5.mono (fun k _ e => .inl e)) f6 (fun k _ e => .inr e)
  have hO5 := ordIn_kind h4 f5 (fun k hm e => by
    have e' : k = b := e
    subst e'
    exact not_mine hb4 ⟨by decide, by decide, by decide⟩ hm)
  have hO6 := ordIn_kind hO5 f6 (fun k hm e => by
    have e' : k = g := e
    subst e'
    exact not_mine r5.row ⟨by decide, by decide, by decide⟩ hm)
  refine ⟨(h3.zero.trans' hF).trans hF6 (fun k _ e => by
    rcases e with e | e
    · rw [e]; exact hOb
    · rw [e]; exact h.hg), ⟨ho.drop _, o, some ⟨b, 0, none⟩, C, Ord.drop (L.getD i zeroE).k es, ?_⟩, hF6⟩
  rw [drop_row hx]
  exact ⟨r6.row, r6.own, h.hg, fun k hk => by cases hk; exact hOb, hO6, h.keys.drop h.ord.srt ho hi hg⟩
def IDropPost (O : Nat → Prop) (g : Nat) (L : List En) (r : Int) (w : World) (e : Ending) (w' : World) : Prop :=
  e = .returned (.tuple #[.agg (e5 (atX L r)), .bool (isRow L r)]) ∧ Fr O w w' ∧ IxAt (Grown O w w') w' g (dropSt L r)
set_option maxRecDepth 100000 in
set_option maxHeartbeats 4000000 in
theorem idrop_is (O : Nat → Prop) (g : Nat) (L : List En) (r : Int) (hr : inI64 r) (w : World) (h : IxAt O w g L) (hO : ∀ k, O k → k < w.heap.size) :
    Calls Try.prog 14 #[ptr g, .int .i64 r] w (IDropPost O g L r w) := by
  have HF0 : Hid (Fr0 w (w.alloc (.cells #[.string ⟨#[]⟩, .string ⟨#[]⟩, .int .i64 0, .int .i64 0, .bool false] 28))) := Lib.hid ((Fr.refl _ _).alloc _)
  have HB0 : Hid (Bx 28 (w.alloc (.cells #[.string ⟨#[]⟩, .string ⟨#[]⟩, .int .i64 0, .int .i64 0, .bool false] 28)) w.heap.size zeroE) := Lib.hid (Bx.new 28 w zeroE)
  have HAT := Lib.hid (iat_any O g L r hr _ (h.fr0 HF0.out))
  cases hx : isRow L r with
  | false =>
    have HE : Hid (∀ w', Fr0 w w' → IDropPost O g L r w (.returned (.tuple #[.agg (e5 zeroE), .bool false])) w') := Lib.hid (fun w' hf => ⟨by rw [hx, at_none hx], hf.zero, by rw [drop_none hx]; exact (h.fr0 hf).mono (fun _ hk => .inl hk)⟩)
    rw [hx] at HAT
    generalize hPT : IDropPost O g L r w = post at *
    generalize atX L r = q at *
    unfold e5 at HAT
    clear hPT h hx hO
    unfold ptr at *
    go_enter Try.func14, Try.ntmps14
    go_wp2_with fail
    refine HAT.out.mono ?_
    rintro e w1 ⟨rfl, hF⟩
    have hF2 := hF.trans' ((Fr.refl (fun _ => False) w1).alloc (.cells #[.string q.k, .string q.s, .int .i64 q.id, .int .i64 q.sz, .bool q.u] 28))
    have HB2 := Lib.hid (HB0.out.fr0 hF2)
    have HF2 := Lib.hid (HF0.out.trans' hF2)
    clear HAT hF hF2 HB0 HF0
    generalize hG : w.heap.size = G at *
    have HG := Lib.hid hG
    clear hG
    have HB3 := Lib.hid (HB2.out.setRow zeroE)
    have HX := Lib.hid (HE.out _ (Fr.setRow (g := G) HF2.out (fun h => by have := HG.out; omega) #[.string ⟨#[]⟩, .string ⟨#[]⟩, .int .i64 0, .int .i64 0, .bool false]))
    go_wp2_with ((with_reducible change wpList _ _ _ (⟨_, Op.store 28 (.tmp 4) _, _, _, _, _⟩ :: _) _ _); refine wpList_store_row rfl 28 _ _ rfl G #[.string ⟨#[]⟩, .string ⟨#[]⟩, .int .i64 0, .int .i64 0, .bool false] rfl rfl 28 _ HB2.out.heap infoE rfl (e5_all zeroE) ?_)
    exact bodyPost_ret (res2 rfl Try.underlying28 rfl infoE _ (.bool false) rfl rfl HB3.out) rfl HX.out
  | true =>
    obtain ⟨i, rfl, hi, hgp⟩ := isRow_iff.1 hx
    obtain ⟨ho, o, A, C, es, hp⟩ := h
    obtain ⟨b, rfl⟩ := hp.rw.has_blk hi
    have hle := ho.le
    have i1 : (i : Int) < (L.length : Int) := by omega
    have hgl := hp.lt
    have hbl := (hp.own.lt b rfl).2
    have hgb := hp.rw.blk.1
    have hz : hasX (L.getD i zeroE).k L = true := (ho.found hi rfl (fun e => by rw [gap_iff.2 e] at hgp; cases hgp)).1
    have HDROP : Hid (∀ W3, Fr0 w W3 → Calls Try.prog 22 #[ptr o, .string (L.getD i zeroE).k] W3 fun e W4 => e = .returned (.bool true) ∧ OrdIn O W4 56 59 58 o 4096 (Ord.drop (L.getD i zeroE).k es) ∧ Fr O W3 W4 ∧ FrO 0 56 59 58 W3 W4) :=
      Lib.hid (fun W3 h3 => drop_int_some_in O o 4096 es _ W3 (hp.fr0 h3).ord (by rw [hp.keys.has hp.ord.srt ho]; exact hz))
    have HBEH := Lib.hid (fun W3 W4 h3 h4 hF hT => hp.dropped (W3 := W3) (W4 := W4) ho i hi hgp h3 h4 hF hT)
    have HCUT := Lib.hid (fun W5 (r5 : Rw W5 g o (some ⟨b, 0, none⟩) C (L.set i zeroE)) => icut_any g o (some ⟨b, 0, none⟩) C (L.set i zeroE) W5 r5.row r5.own (by rw [List.length_set]; exact hle))
    have HC1 : Hid (∀ W, Fr0 w W → W.cell? ⟨g, 1, none⟩ = some (ptr o)) := Lib.hid (fun W hf => (hp.fr0 hf).c1)
    have HE : Hid (∀ w', Fr O w w' → IxAt O w' g (dropSt L (i : Int)) → IDropPost O g L (i : Int) w (.returned (.tuple #[.agg (e5 (L.getD i zeroE)), .bool true])) w') := Lib.hid (fun w' hf hi2 => ⟨by rw [hx, at_some hx, Int.toNat_natCast], hf, hi2.mono (fun _ hk => .inl hk)⟩)
    rw [hx, at_some hx, Int.toNat_natCast] at HAT
    have HOL := Lib.hid hO
    have HLN : Hid (L.length = L.length) := Lib.hid rfl
    generalize hPT : IDropPost O g L (i : Int) w = post at *
    clear hPT hx hp ho hgp hz hO
    generalize hTL : (trim (L.set i zeroE)).length = tl at *
    generalize hSL : L.set i zeroE = SL at *
    generalize hQ : L.getD i zeroE = q at *
    unfold e5 at HAT
    clear hTL hSL hQ
    generalize hN : L.length = n at *
    have HN := Lib.hid hN
    clear hN HLN
    unfold ptr at HAT HDROP HC1 HCUT ⊢
    go_enter Try.func14, Try.ntmps14
    go_wp2_with fail
    refine HAT.out.mono ?_
    rintro e w1 ⟨rfl, hF⟩
    have hfa : Fr0 w1 (w1.alloc (.cells #[.string q.k, .string q.s, .int .i64 q.id, .int .i64 q.sz, .bool q.u] 28)) := (Fr.refl _ _).alloc _
    have HB2 := Lib.hid (HB0.out.fr0 (hF.trans' hfa))
    have HQ2 : Hid (Bx 28 (w1.alloc (.cells #[.string q.k, .string q.s, .int .i64 q.id, .int .i64 q.sz, .bool q.u] 28)) w1.heap.size q) := Lib.hid (Bx.new 28 w1 q)
    have HF2 := Lib.hid (HF0.out.trans' (hF.trans' hfa))
    have HG6 : Hid (w.heap.size < w1.heap.size) := Lib.hid (by have := hF.size; simp at this; omega)
    clear HAT hF hfa HB0 HF0
    have HG6' : Hid (w1.heap.size < (w1.alloc (.cells #[.string q.k, .string q.s, .int .i64 q.id, .int .i64 q.sz, .bool q.u] 28)).heap.size) := Lib.hid (by simp)
    go_wp2
    generalize w1.alloc (.cells #[.string q.k, .string q.s, .int .i64 q.id, .int .i64 q.sz, .bool q.u] 28) = W2 at *
    generalize hG : w.heap.size = G at *
    generalize w1.heap.size = G6 at *
    have HG := Lib.hid hG
    clear hG
    refine Mix.law (fun X => X.cell? ⟨g, 1, none⟩ = some (.pointer (some ⟨o, 0, none⟩)) ∧ X.cell? ⟨G6, 0, none⟩ = some (.string q.k)) [(.sure, 0), (.sure, 1), (.sure, 2), (.sure, 3), (.sure, 4), (.sure, 5), (.turn, 6)] (by kernel_rfl) (by kernel_rfl) ⟨HC1.out _ (HF2.out.drew), HQ2.out.cells.1⟩ ?_
    simp only [List.map_cons, List.map_nil, Mix.nth_zero, Mix.nth_succ]
    have HF3 := Lib.hid (HF2.out.drew)
    have HB3 := Lib.hid (HB2.out.fr0 (Fr.refl _ _).drew)
    have HQ3 := Lib.hid (HQ2.out.fr0 (Fr.refl _ _).drew)
    clear HB2 HQ2 HF2
    have HG7 : Hid (G6 < W2.drew.heap.size) := Lib.hid HG6'.out
    clear HG6'
    generalize W2.drew = W3 at *
    repeat (first
      | ((with_reducible refine Mix.go_skipS ?_ ?_); (focus (first | exact Mix.wanted_no rfl rfl rfl rfl | exact Mix.wanted_void rfl rfl rfl)); go_frame)
      | ((with_reducible refine Mix.go_skipL ?_ ?_); (focus (first | exact Mix.wanted_no rfl rfl rfl rfl | exact Mix.wanted_void rfl rfl rfl)); go_frame)
      | (refine Mix.go_move (by first | exact Mix.wanted_none rfl | exact Mix.wanted_yes rfl rfl rfl) _ rfl _ (by first | (go_simp; done) | (go_simp; rfl)) ?_; go_frame)
      | (refine Mix.go_assign (by first | exact Mix.wanted_none rfl | exact Mix.wanted_yes rfl rfl rfl) _ rfl _ (by first | (go_simp; done) | (go_simp; rfl)) ?_; go_frame)
      | (refine Mix.go_sureW (by first | exact Mix.wanted_none rfl | exact Mix.wanted_yes rfl rfl rfl) _ (by rfl) (by rfl) _ (fun w' ⟨hC1, hC2⟩ => by go_wp2_with fail; refine Mix.stays ?_; go_frame; rfl) ?_; go_frame)
      | (refine Mix.go_lookW (by first | exact Mix.wanted_none rfl | exact Mix.wanted_yes rfl rfl rfl) _ (by rfl) (by rfl) _ (by go_wp2_with fail; refine Mix.stays ?_; go_frame; rfl) ?_; go_frame))
    refine Mix.go_turn ?_
    have HD := Lib.hid (HDROP.out W3 HF3.out)
    clear HDROP
    go_wp2_with fail
    refine HD.out.mono ?_
    rintro e W4 ⟨rfl, hO4, hF4, hT4⟩
    obtain ⟨r4, r5, hend⟩ := HBEH.out W3 W4 HF3.out hO4 hF4 hT4
    have HB4 : Hid (Bx 28 W4 G zeroE) := Lib.hid ⟨FrO.cells hT4 HB3.out.heap ⟨by decide, by decide, by decide⟩⟩
    have HQ4 : Hid (Bx 28 W4 G6 q) := Lib.hid ⟨FrO.cells hT4 HQ3.out.heap ⟨by decide, by decide, by decide⟩⟩
    have HR4 := Lib.hid r4
    have HR5 := Lib.hid r5
    have HEND := Lib.hid hend
    clear HBEH hO4 hF4 hT4 r4 r5 hend HD HB3 HQ3 HF3
    go_wp2
    refine Mix.then_go ⟨HR4.out.c1, HQ4.out.cells.1⟩ ?_
    refine Mix.go_end ?_
    have c0 := HR4.out.c0
    rw [HN.out] at c0
    have HTH := Lib.hid (HR4.out.there i (by rw [HN.out]; exact hi))
    go_wp2_with ((with_reducible change wpList _ _ _ (⟨_, Op.store 28 _ _, _, _, _, _⟩ :: _) _ _); refine wpList_store_mid rfl 28 _ _ rfl b (i * 5) #[.string ⟨#[]⟩, .string ⟨#[]⟩, .int .i64 0, .int .i64 0, .bool false] rfl rfl HTH.out infoE (e5_all zeroE) ?_)
    refine (HCUT.out _ HR5.out).mono ?_
    rintro e W6 ⟨rfl, hW6⟩
    obtain ⟨hFo, hI, hF6⟩ := HEND.out W6 hW6
    have HB6 := Lib.hid (HB4.out.fr hF6 (fun e => by
      rcases e with e | e
      · have e' : G = b := e
        omega
      · have e' : G = g := e
        omega))
    have HQ6 := Lib.hid (HQ4.out.fr hF6 (fun e => by
      have h6 := HG6.out
      rcases e with e | e
      · have e' : G6 = b := e
        omega
      · have e' : G6 = g := e
        omega))
    have HX := Lib.hid (HE.out (W6.setRow G #[.string q.k, .string q.s, .int .i64 q.id, .int .i64 q.sz, .bool q.u]) (Fr.setRow (g := G) hFo (fun h => by have := HG.out; omega) _) (hI.fr (Fr.setRow (S := fun k => k = G) (Fr.refl _ _) (fun _ => rfl) _) (fun k _ hk e => by
      have e' : k = G := e
      have := HOL.out k hk
      omega)))
    have HB7 := Lib.hid (HB6.out.setRow q)
    obtain ⟨k0, k1, k2, k3, k4⟩ := HQ6.out.cells
    clear hFo hI hF6 hW6 HEND HCUT HR5 HR4 HB4 HQ4 HE HOL HC1 c0 HTH
    go_wp2_with ((with_reducible change wpList _ _ _ (⟨_, Op.store 28 _ _, _, _, _, _⟩ :: _) _ _); refine wpList_store_row rfl 28 _ _ rfl G #[.string q.k, .string q.s, .int .i64 q.id, .int .i64 q.sz, .bool q.u] rfl rfl 28 _ HB6.out.heap infoE rfl (e5_all q) ?_)
    exact bodyPost_ret (res2 rfl Try.underlying28 rfl infoE _ (.bool true) rfl rfl HB7.out) rfl HX.out
theorem idrop_any (O : Nat → Prop) (g : Nat) (L : List En) (r : Int) (hr : inI64 r) (w : World) (h : IxAt O w g L) :
    Calls Try.prog 14 #[ptr g, .int .i64 r] w fun e w' => e = .returned (.tuple #[.agg (e5 (atX L r)), .bool (isRow L r)]) ∧ Fr O w w' ∧ IxAt (Grown O w w') w' g (dropSt L r) :=
  (idrop_is _ g L r hr w h.tight (fun _ hk => hk.2)).mono fun e w' ⟨h1, h2, h3⟩ => ⟨h1, h2.mono (fun _ _ hk => hk.1), h3.mono (fun k hk => by
    rcases hk with hk | hk
    · exact .inl hk.1
    · exact .inr hk)⟩
end Go.Proofs.Ytnglmkombogheaa.Index
