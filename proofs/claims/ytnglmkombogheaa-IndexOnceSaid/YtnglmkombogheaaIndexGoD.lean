/-
  The program's index: Add.
-/
import Derived.Test.YtnglmkombogheaaIndexGoC
namespace Go.Proofs.Ytnglmkombogheaa.Index
open Go.RowKit Base
open _root_.Go.Proofs.Ytnglmkombogheaa.Ord (Ent ptr Sorted Grown OrdIn FrO Mine setCells_at fr_setCells put_int_new_in put_int_full clone)

theorem addE_gap {L : List En} {x : En} (h : gap x = true) : addErr L x = 1 := by unfold addErr; rw [if_pos h]
theorem addE_has {L : List En} {x : En} (h : gap x = false) (h2 : hasX x.k L = true) : addErr L x = 6 := by unfold addErr; rw [if_neg (by rw [h]; decide), if_pos h2]
theorem addE_full {L : List En} {x : En} (h : gap x = false) (h2 : hasX x.k L = false) (h3 : 4096 ≤ least L) : addErr L x = 6 := by unfold addErr; rw [if_neg (by rw [h]; decide), if_neg (by rw [h2]; decide), if_pos h3]
theorem addE_ok {L : List En} {x : En} (h : gap x = false) (h2 : hasX x.k L = false) (h3 : ¬ 4096 ≤ least L) : addErr L x = 0 := by unfold addErr; rw [if_neg (by rw [h]; decide), if_neg (by rw [h2]; decide), if_neg h3]
theorem addSt_no {L : List En} {x : En} (h : addErr L x ≠ 0) : addSt L x = L := by unfold addSt; rw [if_neg h]
theorem one_en (w : World) (t : TypeId) (q : En) (N : Nat) (hN : N = w.heap.size) : ValsIs (w.alloc (.cells #[.string q.k, .string q.s, .int .i64 q.id, .int .i64 q.sz, .bool q.u] t)) (.slice (some ⟨N, 0, none⟩) 1 1) 1 (e5 q).toList := by
  subst hN
  refine ⟨_, 1, w.heap.size, 0, rfl, Nat.le_refl _, fun _ => rfl, fun j hj => ?_⟩
  have hj' : j < 5 := hj
  rw [cell_of_row _ _ _ _ _ _ (heap_alloc_new w _), Nat.zero_add]
  match j, hj' with
  | 0, _ => rfl
  | 1, _ => rfl
  | 2, _ => rfl
  | 3, _ => rfl
  | 4, _ => rfl
/-- an empty row more, behind all -/
theorem Rw.grow {w : World} {g o : Nat} {A A2 : Option Addr} {C C2 : Nat} {L : List En} {lit : Obj} {w2 : World} (h : Rw w g o A C L) (hO : w2.ownsRow 0 28 5 (.slice A2 (L.length + 1) C2) (L.length + 1) (ecells L ++ (e5 zeroE).toList)) (hG : (w.alloc lit).grownBy w2 (Value.slice A L.length C).ownBlock) (hN : NewRow (w.alloc lit) (.slice A L.length C) (.slice A2 (L.length + 1) C2)) :
    (w2.cell? ⟨g, 0, none⟩ = some (.slice A L.length C) ∧ w2.frozen? ⟨g, 0, none⟩ = false) ∧
    Rw (w2.setCell ⟨g, 0, none⟩ (.slice A2 (L.length + 1) C2)) g o A2 C2 (L ++ [zeroE]) ∧
    Fr (fun k => k = g ∨ (Value.slice A L.length C).ownBlock = some k) w (w2.setCell ⟨g, 0, none⟩ (.slice A2 (L.length + 1) C2)) ∧
    ∃ b5, A2 = some ⟨b5, 0, none⟩ ∧ ((Value.slice A L.length C).ownBlock = some b5 ∨ w.heap.size ≤ b5) := by
  have hgn : ¬ (Value.slice A L.length C).ownBlock = some g := fun e => by
    obtain ⟨_, cs, hc⟩ := Ord.owns_heap h.own e
    rw [h.row] at hc
    simp only [Option.some.injEq, Obj.cells.injEq] at hc
    exact absurd hc.2.1 (by decide)
  have hF : Fr (fun k => (Value.slice A L.length C).ownBlock = some k) w w2 := ((Fr.refl _ w).alloc lit).trans' (Fr.of_grown hG (fun k _ e => e))
  have hrow := hF.heap h.row hgn
  have hO' : w2.ownsRow 0 28 5 (.slice A2 (L ++ [zeroE]).length C2) (L ++ [zeroE]).length (ecells (L ++ [zeroE])) := by
    rw [List.length_append, List.length_singleton, ecells_append, ecells_single]
    exact hO
  have hF5 : Fr (fun k => k = g) w2 (w2.setCell ⟨g, 0, none⟩ (.slice A2 (L.length + 1) C2)) := Fr.setCell (S := fun k => k = g) (Fr.refl _ _) (p := ⟨g, 0, none⟩) (fun _ => rfl) _
  refine ⟨⟨by rw [cell_of_row _ _ _ _ _ _ hrow]; rfl, by simp [World.frozen?, hrow]⟩, ⟨?_, ownsFr hF5 hO' fun b hb e => ?_⟩, (hF.mono (fun k _ e => .inr e)).trans hF5 (fun k _ e => .inl e), ?_⟩
  · rw [List.length_append, List.length_singleton]
    exact Ord.heap_setCell hrow _
  · have e' : b = g := e
    subst e'
    obtain ⟨_, cs, hc⟩ := Ord.owns_heap hO' hb
    rw [hrow] at hc
    simp only [Option.some.injEq, Obj.cells.injEq] at hc
    exact absurd hc.2.1 (by decide)
  · rcases hO.2 with ⟨hv, h0⟩ | ⟨b5, cap, cur, hv, _⟩
    · omega
    · cases hv
      refine ⟨b5, rfl, ?_⟩
      rcases hN with hn | hn
      · exact .inl (hn.symm.trans rfl)
      · have := hn b5 rfl
        simp at this
        exact .inr (by omega)
theorem addSt_app {L : List En} {x : En} (h : addErr L x = 0) (hl : least L = L.length) : (L ++ [zeroE]).set (least L) x = addSt L x := by
  unfold addSt
  rw [if_pos h, if_neg (by omega), hl, List.set_append_right _ _ (Nat.le_refl _)]
  simp
theorem addSt_in {L : List En} {x : En} (h : addErr L x = 0) (hl : least L < L.length) : L.set (least L) x = addSt L x := by
  unfold addSt
  rw [if_pos h, if_pos hl]
/-- what is behind an Add that is taken -/
theorem IxIn.added {O : Nat → Prop} {w W3 W4 W5 W8 : World} {g o b5 B0 : Nat} {A : Option Addr} {C C5 : Nat} {L L5 : List En} {es : List Ent} {x : En} (h : IxIn O w g o A C L es) (ho : OkX L) (hO : ∀ k, O k → k < w.heap.size) (h0 : addErr L x = 0) (h3 : Fr0 w W3)
    (h4 : OrdIn (Grown O W3 W4) W4 56 59 58 o 4096 (Ord.put x.k (.int .i64 (least L : Int)) es)) (hF4 : Fr O W3 W4) (r4 : Rw W4 g o A C L)
    (r5 : Rw W5 g o (some ⟨b5, 0, none⟩) C5 L5) (f5 : Fr (fun k => k = g ∨ (Value.slice A L.length C).ownBlock = some k) W4 W5) (hb5 : O b5 ∨ W4.heap.size ≤ b5)
    (hL5 : L5.set (least L) x = addSt L x) (hl5 : least L < L5.length) (hB0 : w.heap.size ≤ B0) (hB1 : B0 < W3.heap.size) (bx : Bx 28 W5 B0 x) (f8 : Fr (fun k => k = B0) W5 W8) :
    Fr O w (W8.setCells b5 (least L * 5) (e5 x).toList) ∧ IxAt (Grown O w (W8.setCells b5 (least L * 5) (e5 x).toList)) (W8.setCells b5 (least L * 5) (e5 x).toList) g (addSt L x) := by
  have hgl := h.lt
  have s3 := h3.size
  have s4 := hF4.size
  have s5 := f5.size
  have s8 := f8.size
  have hgB : ¬ g = B0 := by omega
  have hbB : ¬ b5 = B0 := fun e => by
    rcases hb5 with hb | hb
    · have := hO b5 hb; omega
    · omega
  have r8 : Rw W8 g o (some ⟨b5, 0, none⟩) C5 L5 := r5.fr f8 hgB (fun b hb e => by cases hb; exact hbB e)
  obtain ⟨r9, f9⟩ := r8.store (least L) hl5 x
  rw [hL5] at r9
  have o5 := ordIn_kind h4 f5 (fun k hm e => by
    rcases e with e | e
    · have e' : k = g := e
      subst e'
      exact not_mine r4.row ⟨by decide, by decide, by decide⟩ hm
    · obtain ⟨_, cs, hc⟩ := Ord.owns_heap r4.own e
      exact not_mine hc ⟨by decide, by decide, by decide⟩ hm)
  have o8 := ordIn_kind o5 f8 (fun k hm e => by
    have e' : k = B0 := e
    subst e'
    exact not_mine bx.heap ⟨by decide, by decide, by decide⟩ hm)
  obtain ⟨_, cs8, hb8, _⟩ := r8.blk
  have o9 := ordIn_kind o8 f9 (fun k hm e => by
    have e' : k = b5 := e
    subst e'
    exact not_mine hb8 ⟨by decide, by decide, by decide⟩ hm)
  have s9 := f9.size
  have hbl := (r8.own.lt b5 rfl).2
  have hAo : ∀ k, (Value.slice A L.length C).ownBlock = some k → O k := h.hA
  have hFr : Fr O w (W8.setCells b5 (least L * 5) (e5 x).toList) := by
    refine (((h3.zero.trans' hF4).trans f5 (fun k hk e => ?_)).trans f8 (fun k hk e => ?_)).trans f9 (fun k hk e => ?_)
    · rcases e with e | e
      · rw [e]; exact h.hg
      · exact hAo k e
    · have e' : k = B0 := e
      omega
    · have e' : k = b5 := e
      rcases hb5 with hb | hb
      · rw [e']; exact hb
      · omega
  refine ⟨hFr, ho.add x, o, some ⟨b5, 0, none⟩, C5, _, r9.row, r9.own, .inl h.hg, fun k hk => ?_, o9.mono (fun k hk => ?_), h.keys.add h.ord.srt ho h0⟩
  · have e' : k = b5 := by cases hk; rfl
    rw [e']
    rcases hb5 with hb | hb
    · exact .inl hb
    · exact .inr ⟨by omega, by omega⟩
  · rcases hk with hk | hk
    · exact .inl hk
    · exact .inr ⟨by omega, by omega⟩
def IAddPost (O : Nat → Prop) (g : Nat) (L : List En) (x : En) (w : World) (e : Ending) (w' : World) : Prop :=
  e = .returned (.int .i64 (addErr L x)) ∧ Fr O w w' ∧ IxAt (Grown O w w') w' g (addSt L x)
set_option maxRecDepth 100000 in
set_option maxHeartbeats 4000000 in
theorem iadd_is (O : Nat → Prop) (g : Nat) (L : List En) (x : En) (w : World) (h : IxAt O w g L) (hO : ∀ k, O k → k < w.heap.size) (hk : x.k.size ≤ 140737488351232) (hs : x.s.size ≤ 140737488351232) :
    Calls Try.prog 8 #[ptr g, .agg (e5 x)] w (IAddPost O g L x w) := by
  have HF0 : Hid (Fr0 w (w.alloc (.cells #[.string x.k, .string x.s, .int .i64 x.id, .int .i64 x.sz, .bool x.u] 28))) := Lib.hid ((Fr.refl _ _).alloc _)
  have HB0 : Hid (Bx 28 (w.alloc (.cells #[.string x.k, .string x.s, .int .i64 x.id, .int .i64 x.sz, .bool x.u] 28)) w.heap.size x) := Lib.hid (Bx.new 28 w x)
  have HNO : Hid (∀ w' n, Fr0 w w' → addErr L x = n → n ≠ 0 → IAddPost O g L x w (.returned (.int .i64 n)) w') := Lib.hid (fun w' n hf he hn => ⟨by rw [he], hf.zero, by rw [addSt_no (by rw [he]; exact hn)]; exact (h.fr0 hf).mono (fun _ hk => .inl hk)⟩)
  have hE := gap_raw x
  cases hg : gap x with
  | true =>
    have HE := Lib.hid (fun w' hf => HNO.out w' 1 hf (addE_gap hg) (by decide))
    rw [hg] at hE
    generalize hPT : IAddPost O g L x w = post at *
    clear hPT h hO hk hs HNO hg
    have HX := Lib.hid (HE.out _ HF0.out)
    unfold e5
    clear HE
    unfold ptr at *
    go_enter Try.func8, Try.ntmps8
    go_wp2
    exact HX.out
  | false =>
    rw [hg] at hE
    have HFIND := Lib.hid (ifind_any O g L x.k _ (h.fr0 HF0.out))
    cases hx : hasX x.k L with
    | true =>
      have HE := Lib.hid (fun w' hf => HNO.out w' 6 hf (addE_has hg hx) (by decide))
      rw [hx] at HFIND
      generalize findX x.k L = fx at *
      generalize hPT : IAddPost O g L x w = post at *
      clear hPT h hO hk hs HNO hg hx
      unfold e5
      unfold ptr at *
      go_enter Try.func8, Try.ntmps8
      go_wp2_with fail
      refine HFIND.out.mono ?_
      rintro e w1 ⟨rfl, hF⟩
      have HX := Lib.hid (HE.out _ (HF0.out.trans' hF))
      clear HE hF HFIND
      go_wp2
      exact HX.out
    | false =>
      rw [hx] at HFIND
      have HLEAST := Lib.hid (fun w1 (hf : Fr0 w w1) => ileast_any O g L w1 (h.fr0 hf))
      have hle := h.ok.le
      have hls := least_le L
      obtain ⟨ho, o, A, C, es, hp⟩ := h
      have HC1 : Hid (∀ W, Fr0 w W → W.cell? ⟨g, 1, none⟩ = some (.pointer (some ⟨o, 0, none⟩))) := Lib.hid (fun W hf => (hp.fr0 hf).c1)
      have HGS : Hid (g < w.heap.size) := Lib.hid hp.lt
      by_cases hfull : 4096 ≤ least L
      · have HE := Lib.hid (fun w' hf => HNO.out w' 6 hf (addE_full hg hx hfull) (by decide))
        have HPUT := Lib.hid (fun W (hf : Fr0 w W) => put_int_full 0 o 4096 es x.k (least L : Int) W (hp.fr0 hf).ord.at (by rw [hp.keys.has hp.ord.srt ho]; exact hx) (by rw [hp.keys.len]; exact (full_iff hle).2 hfull))
        generalize findX x.k L = fx at *
        generalize hPT : IAddPost O g L x w = post at *
        clear hPT hO hk hs HNO hg hx hp ho hls hfull hle
        generalize least L = m at *
        unfold e5
        unfold ptr at *
        go_enter Try.func8, Try.ntmps8
        go_wp2_with fail
        refine HFIND.out.mono ?_
        rintro e w1 ⟨rfl, hF⟩
        have HF1 := Lib.hid (HF0.out.trans' hF)
        have HB1 := Lib.hid (HB0.out.fr0 hF)
        have HL1 := Lib.hid (HLEAST.out w1 HF1.out)
        clear hF HFIND HF0 HB0 HLEAST
        go_wp2_with fail
        refine HL1.out.mono ?_
        rintro e w2 ⟨rfl, rfl⟩
        clear HL1
        generalize hG : w.heap.size = B0 at *
        go_wp2
        refine Mix.law (fun X => X.cell? ⟨g, 1, none⟩ = some (.pointer (some ⟨o, 0, none⟩)) ∧ X.cell? ⟨B0, 0, none⟩ = some (.string x.k)) [(.sure, 0), (.sure, 1), (.sure, 2), (.sure, 3), (.sure, 4), (.sure, 5), (.sure, 6), (.turn, 7), (.sure, 8), (.sure, 9), (.sure, 10), (.sure, 11), (.sure, 12)] (by kernel_rfl) (by kernel_rfl) ⟨HC1.out _ (HF1.out.drew), HB1.out.cells.1⟩ ?_
        simp only [List.map_cons, List.map_nil, Mix.nth_zero, Mix.nth_succ]
        have HF3 := Lib.hid (HF1.out.drew)
        have HB3 := Lib.hid (HB1.out.fr0 (Fr.refl _ _).drew)
        clear HF1 HB1
        generalize World.drew _ = W3 at *
        repeat (first
          | ((with_reducible refine Mix.go_skipS ?_ ?_); (focus (first | exact Mix.wanted_no rfl rfl rfl rfl | exact Mix.wanted_void rfl rfl rfl)); go_frame)
          | ((with_reducible refine Mix.go_skipL ?_ ?_); (focus (first | exact Mix.wanted_no rfl rfl rfl rfl | exact Mix.wanted_void rfl rfl rfl)); go_frame)
          | (refine Mix.go_move (by first | exact Mix.wanted_none rfl | exact Mix.wanted_yes rfl rfl rfl) _ rfl _ (by first | (go_simp; done) | (go_simp; rfl)) ?_; go_frame)
          | (refine Mix.go_assign (by first | exact Mix.wanted_none rfl | exact Mix.wanted_yes rfl rfl rfl) _ rfl _ (by first | (go_simp; done) | (go_simp; rfl)) ?_; go_frame)
          | (refine Mix.go_sureW (by first | exact Mix.wanted_none rfl | exact Mix.wanted_yes rfl rfl rfl) _ (by rfl) (by rfl) _ (fun w' ⟨hC1, hC2⟩ => by go_wp2_with fail; refine Mix.stays ?_; go_frame; rfl) ?_; go_frame)
          | (refine Mix.go_lookW (by first | exact Mix.wanted_none rfl | exact Mix.wanted_yes rfl rfl rfl) _ (by rfl) (by rfl) _ (by go_wp2_with fail; refine Mix.stays ?_; go_frame; rfl) ?_; go_frame))
        refine Mix.go_turn ?_
        have HP3 := Lib.hid (HPUT.out W3 HF3.out)
        clear HPUT
        go_wp2_with fail
        refine HP3.out.mono ?_
        rintro e W4 ⟨rfl, hF⟩
        have HF4 := Lib.hid (HF3.out.trans' hF)
        have HB4 := Lib.hid (HB3.out.fr0 hF)
        have HX := Lib.hid (HE.out W4 HF4.out)
        clear hF HP3 HF3 HB3 HE
        go_wp2
        refine Mix.then_go ⟨HC1.out _ HF4.out, HB4.out.cells.1⟩ ?_
        repeat (first
          | ((with_reducible refine Mix.go_skipS ?_ ?_); (focus (first | exact Mix.wanted_no rfl rfl rfl rfl | exact Mix.wanted_void rfl rfl rfl)); go_frame)
          | ((with_reducible refine Mix.go_skipL ?_ ?_); (focus (first | exact Mix.wanted_no rfl rfl rfl rfl | exact Mix.wanted_void rfl rfl rfl)); go_frame)
          | (refine Mix.go_move (by first | exact Mix.wanted_none rfl | exact Mix.wanted_yes rfl rfl rfl) _ rfl _ (by first | (go_simp; done) | (go_simp; rfl)) ?_; go_frame)
          | (refine Mix.go_assign (by first | exact Mix.wanted_none rfl | exact Mix.wanted_yes rfl rfl rfl) _ rfl _ (by first | (go_simp; done) | (go_simp; rfl)) ?_; go_frame)
          | (refine Mix.go_sureW (by first | exact Mix.wanted_none rfl | exact Mix.wanted_yes rfl rfl rfl) _ (by rfl) (by rfl) _ (fun w' ⟨hC1, hC2⟩ => by go_wp2_with fail; refine Mix.stays ?_; go_frame; rfl) ?_; go_frame)
          | (refine Mix.go_lookW (by first | exact Mix.wanted_none rfl | exact Mix.wanted_yes rfl rfl rfl) _ (by rfl) (by rfl) _ (by go_wp2_with fail; refine Mix.stays ?_; go_frame; rfl) ?_; go_frame))
        refine Mix.go_end ?_
        go_wp2
        exact HX.out
      · have h0 := addE_ok hg hx hfull
        have HPUT := Lib.hid (fun W (hf : Fr0 w W) => put_int_new_in O o 4096 es x.k (least L : Int) W (hp.fr0 hf).ord (by rw [hp.keys.has hp.ord.srt ho]; exact hx) (by
          rw [hp.keys.len]
          rcases Nat.lt_or_ge (cnt L) 4096 with h1 | h1
          · exact h1
          · exact absurd ((full_iff hle).1 h1) hfull) hk)
        have HCLK := Lib.hid (fun W => clone x.k W hk)
        have HCLS := Lib.hid (fun W => clone x.s W hs)
        have HADD := Lib.hid (fun (W3 W4 W5 W8 : World) (b5 C5 B0 : Nat) (L5 : List En) => hp.added (W3 := W3) (W4 := W4) (W5 := W5) (W8 := W8) (b5 := b5) (C5 := C5) (B0 := B0) (L5 := L5) ho hO h0)
        have HR0 : Hid (∀ W, Fr0 w W → Rw W g o A C L) := Lib.hid (fun W hf => (hp.fr0 hf).rw)
        have HY : Hid (∀ w', Fr O w w' → IxAt (Grown O w w') w' g (addSt L x) → IAddPost O g L x w (.returned (.int .i64 0)) w') := Lib.hid (fun w' hf hi => ⟨by rw [h0], hf, hi⟩)
        have HOA : Hid (∀ k, (Value.slice A L.length C).ownBlock = some k → O k) := Lib.hid hp.hA
        have HOL := Lib.hid hO
        have HAP : Hid (least L = L.length → (L ++ [zeroE]).set (least L) x = addSt L x) := Lib.hid (fun hl => addSt_app h0 hl)
        have HIN : Hid (least L < L.length → L.set (least L) x = addSt L x) := Lib.hid (fun hl => addSt_in h0 hl)
        generalize findX x.k L = fx at *
        generalize hPT : IAddPost O g L x w = post at *
        clear hPT hO hk hs HNO hg hx hp ho hfull h0
        generalize hM : least L = m at *
        have HN : Hid (L.length = L.length) := Lib.hid rfl
        obtain ⟨n, hn⟩ : ∃ n, L.length = n := ⟨_, rfl⟩
        have HLN := Lib.hid hn
        rw [hn] at hle hls
        clear hn HN hM
        unfold e5
        unfold ptr at HFIND HLEAST HPUT ⊢
        go_enter Try.func8, Try.ntmps8
        go_wp2_with fail
        refine HFIND.out.mono ?_
        rintro e w1 ⟨rfl, hF⟩
        have HF1 := Lib.hid (HF0.out.trans' hF)
        have HB1 := Lib.hid (HB0.out.fr0 hF)
        have HL1 := Lib.hid (HLEAST.out w1 HF1.out)
        clear hF HFIND HF0 HB0 HLEAST
        go_wp2_with fail
        refine HL1.out.mono ?_
        rintro e w2 ⟨rfl, hw2⟩
        subst hw2
        clear HL1
        generalize hG : w.heap.size = B0 at *
        have HG := Lib.hid hG
        clear hG
        go_wp2
        refine Mix.law (fun X => X.cell? ⟨g, 1, none⟩ = some (.pointer (some ⟨o, 0, none⟩)) ∧ X.cell? ⟨B0, 0, none⟩ = some (.string x.k)) [(.sure, 0), (.sure, 1), (.sure, 2), (.sure, 3), (.sure, 4), (.sure, 5), (.sure, 6), (.turn, 7), (.sure, 8), (.sure, 9), (.sure, 10), (.sure, 11), (.sure, 12)] (by kernel_rfl) (by kernel_rfl) ⟨HC1.out _ (HF1.out.drew), HB1.out.cells.1⟩ ?_
        simp only [List.map_cons, List.map_nil, Mix.nth_zero, Mix.nth_succ]
        have HF3 := Lib.hid (HF1.out.drew)
        have HB3 := Lib.hid (HB1.out.fr0 (Fr.refl _ _).drew)
        clear HF1 HB1
        generalize World.drew _ = W3 at *
        repeat (first
          | ((with_reducible refine Mix.go_skipS ?_ ?_); (focus (first | exact Mix.wanted_no rfl rfl rfl rfl | exact Mix.wanted_void rfl rfl rfl)); go_frame)
          | ((with_reducible refine Mix.go_skipL ?_ ?_); (focus (first | exact Mix.wanted_no rfl rfl rfl rfl | exact Mix.wanted_void rfl rfl rfl)); go_frame)
          | (refine Mix.go_move (by first | exact Mix.wanted_none rfl | exact Mix.wanted_yes rfl rfl rfl) _ rfl _ (by first | (go_simp; done) | (go_simp; rfl)) ?_; go_frame)
          | (refine Mix.go_assign (by first | exact Mix.wanted_none rfl | exact Mix.wanted_yes rfl rfl rfl) _ rfl _ (by first | (go_simp; done) | (go_simp; rfl)) ?_; go_frame)
          | (refine Mix.go_sureW (by first | exact Mix.wanted_none rfl | exact Mix.wanted_yes rfl rfl rfl) _ (by rfl) (by rfl) _ (fun w' ⟨hC1, hC2⟩ => by go_wp2_with fail; refine Mix.stays ?_; go_frame; rfl) ?_; go_frame)
          | (refine Mix.go_lookW (by first | exact Mix.wanted_none rfl | exact Mix.wanted_yes rfl rfl rfl) _ (by rfl) (by rfl) _ (by go_wp2_with fail; refine Mix.stays ?_; go_frame; rfl) ?_; go_frame))
        refine Mix.go_turn ?_
        have HP3 := Lib.hid (HPUT.out W3 HF3.out)
        clear HPUT
        go_wp2_with fail
        refine HP3.out.mono ?_
        rintro e W4 ⟨rfl, hO4, hF4, hT4⟩
        have r4 := (HR0.out W3 HF3.out).frO hT4
        have HR4 := Lib.hid r4
        have HB4 : Hid (Bx 28 W4 B0 x) := Lib.hid ⟨FrO.cells hT4 HB3.out.heap ⟨by decide, by decide, by decide⟩⟩
        have HB0L : Hid (B0 < W3.heap.size) := Lib.hid HB3.out.lt
        have HO4 := Lib.hid hO4
        have HF4 := Lib.hid hF4
        have c1 := r4.c1
        have c0 := r4.c0
        rw [HLN.out] at c0
        clear hO4 hF4 hT4 r4 HP3 HB3 HR0
        go_wp2
        refine Mix.then_go ⟨HR4.out.c1, HB4.out.cells.1⟩ ?_
        repeat (first
          | ((with_reducible refine Mix.go_skipS ?_ ?_); (focus (first | exact Mix.wanted_no rfl rfl rfl rfl | exact Mix.wanted_void rfl rfl rfl)); go_frame)
          | ((with_reducible refine Mix.go_skipL ?_ ?_); (focus (first | exact Mix.wanted_no rfl rfl rfl rfl | exact Mix.wanted_void rfl rfl rfl)); go_frame)
          | (refine Mix.go_move (by first | exact Mix.wanted_none rfl | exact Mix.wanted_yes rfl rfl rfl) _ rfl _ (by first | (go_simp; done) | (go_simp; rfl)) ?_; go_frame)
          | (refine Mix.go_assign (by first | exact Mix.wanted_none rfl | exact Mix.wanted_yes rfl rfl rfl) _ rfl _ (by first | (go_simp; done) | (go_simp; rfl)) ?_; go_frame)
          | (refine Mix.go_sureW (by first | exact Mix.wanted_none rfl | exact Mix.wanted_yes rfl rfl rfl) _ (by rfl) (by rfl) _ (fun w' ⟨hC1, hC2⟩ => by go_wp2_with fail; refine Mix.stays ?_; go_frame; rfl) ?_; go_frame)
          | (refine Mix.go_lookW (by first | exact Mix.wanted_none rfl | exact Mix.wanted_yes rfl rfl rfl) _ (by rfl) (by rfl) _ (by go_wp2_with fail; refine Mix.stays ?_; go_frame; rfl) ?_; go_frame))
        refine Mix.go_end ?_
        by_cases hmn : m = n
        · subst hmn
          have HOWN : Hid (W4.ownsRow 0 28 5 (.slice A m C) m (ecells L)) := Lib.hid (by have h := HR4.out.own; rw [HLN.out] at h; exact h)
          have HGROW : Hid (∀ w2 A2 C2, w2.ownsRow 0 28 5 (.slice A2 (m + 1) C2) (m + 1) (ecells L ++ (e5 zeroE).toList) → (W4.alloc (.cells #[.string ⟨#[]⟩, .string ⟨#[]⟩, .int .i64 0, .int .i64 0, .bool false] 28)).grownBy w2 (Value.slice A m C).ownBlock → NewRow (W4.alloc (.cells #[.string ⟨#[]⟩, .string ⟨#[]⟩, .int .i64 0, .int .i64 0, .bool false] 28)) (.slice A m C) (.slice A2 (m + 1) C2) →
              (w2.cell? ⟨g, 0, none⟩ = some (.slice A m C) ∧ w2.frozen? ⟨g, 0, none⟩ = false) ∧ Rw (w2.setCell ⟨g, 0, none⟩ (.slice A2 (m + 1) C2)) g o A2 C2 (L ++ [zeroE]) ∧
              Fr (fun k => k = g ∨ (Value.slice A m C).ownBlock = some k) W4 (w2.setCell ⟨g, 0, none⟩ (.slice A2 (m + 1) C2)) ∧ ∃ b5, A2 = some ⟨b5, 0, none⟩ ∧ ((Value.slice A m C).ownBlock = some b5 ∨ W4.heap.size ≤ b5)) := Lib.hid (by
            rw [← HLN.out]
            exact fun w2 A2 C2 hO hG hN => HR4.out.grow hO hG hN)
          have HLEN : Hid ((L ++ [zeroE]).length = m + 1) := Lib.hid (by rw [List.length_append, HLN.out]; rfl)
          have hm5 : m < m + 1 := Nat.lt_succ_self m
          have hm6 : (m : Int) < ((m + 1 : Nat) : Int) := by omega
          go_wp2_with (refine wpList_append_valsN rfl (.tmp 48) (.tmp 50) 48 rfl 0 28 Try.underlying48 (.agg #[.string ⟨#[]⟩, .string ⟨#[]⟩, .int .i64 0, .int .i64 0, .bool false]) 5 56 infoE3 rfl (by decide) _ _ m 1 (ecells L) (e5 zeroE).toList rfl rfl (HOWN.out.alloc _) (one_en W4 _ zeroE _ rfl) (by decide) rfl (e5_one zeroE) (by unfold maxLen; omega) (by omega) (Nat.zero_le _) ?_; intro v2 w2 hO2 hG2 hN2; obtain ⟨A2, C2, rfl, -⟩ := owns_form hO2; obtain ⟨⟨c02, z02⟩, hr5, hf5, b5, rfl, hb5⟩ := HGROW.out w2 A2 C2 hO2 hG2 hN2; clear hO2 hG2 hN2)
          have HR5 := Lib.hid hr5
          have HF5 : Hid (Fr (fun k => k = g ∨ (Value.slice A L.length C).ownBlock = some k) W4 (w2.setCell ⟨g, 0, none⟩ (.slice (some ⟨b5, 0, none⟩) (m + 1) C2))) := Lib.hid (by rw [HLN.out]; exact hf5)
          have HOB : Hid (O b5 ∨ W4.heap.size ≤ b5) := Lib.hid (hb5.imp (fun h => HOA.out b5 (by rw [HLN.out]; exact h)) (fun h => h))
          clear hr5 hf5 hb5 c02 z02 HGROW HOWN
          generalize w2.setCell ⟨g, 0, none⟩ (.slice (some ⟨b5, 0, none⟩) (m + 1) C2) = W5 at *
          have HB5 : Hid (Bx 28 W5 B0 x) := Lib.hid (HB4.out.fr HF5.out (fun e => by
            have := HG.out
            rcases e with e | e
            · have e' : B0 = g := e
              have := HGS.out
              omega
            · have := HOL.out B0 (HOA.out B0 e)
              omega))
          have HRW : Hid (∀ X, Fr (fun k => k = B0) W5 X → Rw X g o (some ⟨b5, 0, none⟩) C2 (L ++ [zeroE])) := Lib.hid (fun X hf => HR5.out.fr hf (fun e => by
            have e' : g = B0 := e
            have := HGS.out
            have := HG.out
            omega) (fun b hb e => by
            have e' : b = B0 := e
            have e2 : b = b5 := by cases hb; rfl
            have := HG.out
            have := HF4.out.size
            have := HB0L.out
            rcases HOB.out with h | h
            · have := HOL.out b5 h
              omega
            · omega))
          have HE5 : Hid (∀ W8, Fr (fun k => k = B0) W5 W8 → post (.returned (.int .i64 0)) (W8.setCells b5 (m * 5) (e5 x).toList)) := Lib.hid (fun W8 f8 => by
            obtain ⟨a, b⟩ := HADD.out W3 W4 W5 W8 b5 C2 B0 (L ++ [zeroE]) HF3.out HO4.out HF4.out HR4.out HR5.out HF5.out HOB.out (HAP.out HLN.out.symm) (by rw [HLEN.out]; exact hm5) (Nat.le_refl _) HB0L.out HB5.out f8
            exact HY.out _ a b)
          clear HADD HY HO4 HF4 HAP HIN HOA HOL HF3 HB4 HR4 HC1 HR5 HF5
          refine Mix.law (fun X => X.cell? ⟨B0, 0, none⟩ = some (.string x.k) ∧ X.cell? ⟨B0, 1, none⟩ = some (.string x.s)) [(.sure, 0), (.sure, 1), (.sure, 3), (.sure, 4), (.turn, 2), (.sure, 6), (.turn, 5), (.turn, 7), (.sure, 8), (.turn, 9)] (by kernel_rfl) (by kernel_rfl) ⟨HB5.out.cells.1, HB5.out.cells.2.1⟩ ?_
          simp only [List.map_cons, List.map_nil, Mix.nth_zero, Mix.nth_succ]
          have HF6 : Hid (Fr (fun k => k = B0) W5 W5.drew) := Lib.hid ((Fr.refl _ _).drew)
          have HB6 := Lib.hid (HB5.out.fr0 (Fr.refl _ _).drew)
          generalize W5.drew = X1 at *
          repeat (first
            | ((with_reducible refine Mix.go_skipS ?_ ?_); (focus (first | exact Mix.wanted_no rfl rfl rfl rfl | exact Mix.wanted_void rfl rfl rfl)); go_frame)
            | ((with_reducible refine Mix.go_skipL ?_ ?_); (focus (first | exact Mix.wanted_no rfl rfl rfl rfl | exact Mix.wanted_void rfl rfl rfl)); go_frame)
            | (refine Mix.go_move (by first | exact Mix.wanted_none rfl | exact Mix.wanted_yes rfl rfl rfl) _ rfl _ (by first | (go_simp; done) | (go_simp; rfl)) ?_; go_frame)
            | (refine Mix.go_assign (by first | exact Mix.wanted_none rfl | exact Mix.wanted_yes rfl rfl rfl) _ rfl _ (by first | (go_simp; done) | (go_simp; rfl)) ?_; go_frame)
            | (refine Mix.go_sureW (by first | exact Mix.wanted_none rfl | exact Mix.wanted_yes rfl rfl rfl) _ (by rfl) (by rfl) _ (fun w' ⟨hC1, hC2⟩ => by go_wp2_with fail; refine Mix.stays ?_; go_frame; rfl) ?_; go_frame)
            | (refine Mix.go_lookW (by first | exact Mix.wanted_none rfl | exact Mix.wanted_yes rfl rfl rfl) _ (by rfl) (by rfl) _ (by go_wp2_with fail; refine Mix.stays ?_; go_frame; rfl) ?_; go_frame))
          refine Mix.go_turn ?_
          go_wp2_with fail
          refine (HCLK.out X1).mono ?_
          rintro e X2 ⟨rfl, hf⟩
          have HF7 := Lib.hid (HF6.out.trans' hf.zero)
          have HB7 := Lib.hid (HB6.out.fr0 hf)
          clear hf HF6 HB6
          go_wp2
          refine Mix.then_go ⟨HB7.out.cells.1, HB7.out.cells.2.1⟩ ?_
          repeat (first
            | ((with_reducible refine Mix.go_skipS ?_ ?_); (focus (first | exact Mix.wanted_no rfl rfl rfl rfl | exact Mix.wanted_void rfl rfl rfl)); go_frame)
            | ((with_reducible refine Mix.go_skipL ?_ ?_); (focus (first | exact Mix.wanted_no rfl rfl rfl rfl | exact Mix.wanted_void rfl rfl rfl)); go_frame)
            | (refine Mix.go_move (by first | exact Mix.wanted_none rfl | exact Mix.wanted_yes rfl rfl rfl) _ rfl _ (by first | (go_simp; done) | (go_simp; rfl)) ?_; go_frame)
            | (refine Mix.go_assign (by first | exact Mix.wanted_none rfl | exact Mix.wanted_yes rfl rfl rfl) _ rfl _ (by first | (go_simp; done) | (go_simp; rfl)) ?_; go_frame)
            | (refine Mix.go_sureW (by first | exact Mix.wanted_none rfl | exact Mix.wanted_yes rfl rfl rfl) _ (by rfl) (by rfl) _ (fun w' ⟨hC1, hC2⟩ => by go_wp2_with fail; refine Mix.stays ?_; go_frame; rfl) ?_; go_frame)
            | (refine Mix.go_lookW (by first | exact Mix.wanted_none rfl | exact Mix.wanted_yes rfl rfl rfl) _ (by rfl) (by rfl) _ (by go_wp2_with fail; refine Mix.stays ?_; go_frame; rfl) ?_; go_frame))
          refine Mix.go_turn ?_
          go_wp2_with fail
          refine (HCLS.out X2).mono ?_
          rintro e X3 ⟨rfl, hf⟩
          have HF8 := Lib.hid (HF7.out.trans' hf.zero)
          have HB8 := Lib.hid (HB7.out.fr0 hf)
          clear hf HF7 HB7
          go_wp2
          refine Mix.then_go ⟨HB8.out.cells.1, HB8.out.cells.2.1⟩ ?_
          refine Mix.go_turn ?_
          have k0 := HB8.out.cells.1
          have t0 := HB8.out.thaw 0
          go_wp2
          have HB9 := Lib.hid (HB8.out.same 0 (.string x.k) rfl)
          have HF9 : Hid (Fr (fun k => k = B0) W5 (X3.setCell ⟨B0, 0, none⟩ (.string x.k))) := Lib.hid (Fr.setCell (p := ⟨B0, 0, none⟩) HF8.out (fun _ => rfl) _)
          clear HB8 HF8 k0 t0
          generalize X3.setCell ⟨B0, 0, none⟩ (.string x.k) = X4 at *
          refine Mix.then_go ⟨HB9.out.cells.1, HB9.out.cells.2.1⟩ ?_
          repeat (first
            | ((with_reducible refine Mix.go_skipS ?_ ?_); (focus (first | exact Mix.wanted_no rfl rfl rfl rfl | exact Mix.wanted_void rfl rfl rfl)); go_frame)
            | ((with_reducible refine Mix.go_skipL ?_ ?_); (focus (first | exact Mix.wanted_no rfl rfl rfl rfl | exact Mix.wanted_void rfl rfl rfl)); go_frame)
            | (refine Mix.go_move (by first | exact Mix.wanted_none rfl | exact Mix.wanted_yes rfl rfl rfl) _ rfl _ (by first | (go_simp; done) | (go_simp; rfl)) ?_; go_frame)
            | (refine Mix.go_assign (by first | exact Mix.wanted_none rfl | exact Mix.wanted_yes rfl rfl rfl) _ rfl _ (by first | (go_simp; done) | (go_simp; rfl)) ?_; go_frame)
            | (refine Mix.go_sureW (by first | exact Mix.wanted_none rfl | exact Mix.wanted_yes rfl rfl rfl) _ (by rfl) (by rfl) _ (fun w' ⟨hC1, hC2⟩ => by go_wp2_with fail; refine Mix.stays ?_; go_frame; rfl) ?_; go_frame)
            | (refine Mix.go_lookW (by first | exact Mix.wanted_none rfl | exact Mix.wanted_yes rfl rfl rfl) _ (by rfl) (by rfl) _ (by go_wp2_with fail; refine Mix.stays ?_; go_frame; rfl) ?_; go_frame))
          refine Mix.go_turn ?_
          have k1 := HB9.out.cells.2.1
          have t1 := HB9.out.thaw 1
          go_wp2
          have HBA := Lib.hid (HB9.out.same 1 (.string x.s) rfl)
          have HFA : Hid (Fr (fun k => k = B0) W5 (X4.setCell ⟨B0, 1, none⟩ (.string x.s))) := Lib.hid (Fr.setCell (p := ⟨B0, 1, none⟩) HF9.out (fun _ => rfl) _)
          clear HB9 HF9 k1 t1
          generalize X4.setCell ⟨B0, 1, none⟩ (.string x.s) = X5 at *
          refine Mix.then_go ⟨HBA.out.cells.1, HBA.out.cells.2.1⟩ ?_
          refine Mix.go_end ?_
          go_wp2
          have HRA := Lib.hid (HRW.out X5 HFA.out)
          have c0A := HRA.out.c0
          rw [HLEN.out] at c0A
          refine Mix.law (fun X => X.cell? ⟨g, 0, none⟩ = some (.slice (some ⟨b5, 0, none⟩) (m + 1) C2) ∧ X.cell? ⟨B0, 0, none⟩ = some (.string x.k) ∧ X.cell? ⟨B0, 1, none⟩ = some (.string x.s) ∧ X.cell? ⟨B0, 2, none⟩ = some (.int .i64 x.id) ∧ X.cell? ⟨B0, 3, none⟩ = some (.int .i64 x.sz) ∧ X.cell? ⟨B0, 4, none⟩ = some (.bool x.u)) [(.sure, 0), (.sure, 1), (.sure, 2), (.sure, 3), (.sure, 4), (.sure, 5), (.sure, 6), (.last, 7)] (by kernel_rfl) (by kernel_rfl) ⟨c0A, HBA.out.cells⟩ ?_
          simp only [List.map_cons, List.map_nil, Mix.nth_zero, Mix.nth_succ]
          have HFB := Lib.hid (HFA.out.drew)
          have HTB := Lib.hid ((HRA.out.fr0 (Fr.refl _ _).drew).there m (by rw [HLEN.out]; exact hm5))
          clear c0A HBA HFA HRA
          generalize X5.drew = X6 at *
          repeat (first
            | ((with_reducible refine Mix.go_skipS ?_ ?_); (focus (first | exact Mix.wanted_no rfl rfl rfl rfl | exact Mix.wanted_void rfl rfl rfl)); go_frame)
            | ((with_reducible refine Mix.go_skipL ?_ ?_); (focus (first | exact Mix.wanted_no rfl rfl rfl rfl | exact Mix.wanted_void rfl rfl rfl)); go_frame)
            | (refine Mix.go_move (by first | exact Mix.wanted_none rfl | exact Mix.wanted_yes rfl rfl rfl) _ rfl _ (by first | (go_simp; done) | (go_simp; rfl)) ?_; go_frame)
            | (refine Mix.go_assign (by first | exact Mix.wanted_none rfl | exact Mix.wanted_yes rfl rfl rfl) _ rfl _ (by first | (go_simp; done) | (go_simp; rfl)) ?_; go_frame)
            | (refine Mix.go_sureW (by first | exact Mix.wanted_none rfl | exact Mix.wanted_yes rfl rfl rfl) _ (by rfl) (by rfl) _ (fun w' ⟨hC1, hC2, hC3, hC4, hC5, hC6⟩ => by go_wp2_with fail; refine Mix.stays ?_; go_frame; rfl) ?_; go_frame)
            | (refine Mix.go_lookW (by first | exact Mix.wanted_none rfl | exact Mix.wanted_yes rfl rfl rfl) _ (by rfl) (by rfl) _ (by go_wp2_with fail; refine Mix.stays ?_; go_frame; rfl) ?_; go_frame))
          refine Mix.go_last ?_
          have HX := Lib.hid (HE5.out X6 HFB.out)
          clear HE5 HFB
          go_wp2_with ((with_reducible change wpList _ _ _ (⟨_, Op.store 28 _ _, _, _, _, _⟩ :: _) _ _); refine wpList_store_mid rfl 28 _ _ rfl b5 (m * 5) #[.string x.k, .string x.s, .int .i64 x.id, .int .i64 x.sz, .bool x.u] rfl rfl HTB.out infoE (e5_all x) ?_)
          refine Mix.then_go trivial ?_
          refine Mix.go_end ?_
          go_wp2
          exact HX.out
        · have z1 : ((m : Int) == (n : Int)) = false := beq_eq_false_iff_ne.2 (by omega)
          have z2 : decide ((m : Int) = (n : Int)) = false := decide_eq_false (by omega)
          have hm5 : m < n := by omega
          have hm6 : (m : Int) < (n : Int) := by omega
          obtain ⟨b5, rfl⟩ := HR4.out.has_blk (i := m) (by rw [HLN.out]; exact hm5)
          have HLEN := HLN
          have HOB : Hid (O b5) := Lib.hid (HOA.out b5 rfl)
          have HRW : Hid (∀ X, Fr (fun k => k = B0) W4 X → Rw X g o (some ⟨b5, 0, none⟩) C L) := Lib.hid (fun X hf => HR4.out.fr hf (fun e => by
            have e' : g = B0 := e
            have := HGS.out
            have := HG.out
            omega) (fun b hb e => by
            have e' : b = B0 := e
            have e2 : b = b5 := by cases hb; rfl
            have := HOL.out b5 HOB.out
            have := HG.out
            omega))
          have HE5 : Hid (∀ W8, Fr (fun k => k = B0) W4 W8 → post (.returned (.int .i64 0)) (W8.setCells b5 (m * 5) (e5 x).toList)) := Lib.hid (fun W8 f8 => by
            obtain ⟨a, b⟩ := HADD.out W3 W4 W4 W8 b5 C B0 L HF3.out HO4.out HF4.out HR4.out HR4.out (Fr.refl _ _) (.inl HOB.out) (HIN.out (by rw [HLN.out]; exact hm5)) (by rw [HLN.out]; exact hm5) (Nat.le_refl _) HB0L.out HB4.out f8
            exact HY.out _ a b)
          have HB5 := HB4
          clear HADD HY HO4 HF4 HAP HIN HOA HOL HF3 HB4 HR4 HC1
          go_wp2
          refine Mix.law (fun X => X.cell? ⟨B0, 0, none⟩ = some (.string x.k) ∧ X.cell? ⟨B0, 1, none⟩ = some (.string x.s)) [(.sure, 0), (.sure, 1), (.sure, 3), (.sure, 4), (.turn, 2), (.sure, 6), (.turn, 5), (.turn, 7), (.sure, 8), (.turn, 9)] (by kernel_rfl) (by kernel_rfl) ⟨HB5.out.cells.1, HB5.out.cells.2.1⟩ ?_
          simp only [List.map_cons, List.map_nil, Mix.nth_zero, Mix.nth_succ]
          have HF6 : Hid (Fr (fun k => k = B0) W4 W4.drew) := Lib.hid ((Fr.refl _ _).drew)
          have HB6 := Lib.hid (HB5.out.fr0 (Fr.refl _ _).drew)
          generalize W4.drew = X1 at *
          repeat (first
            | ((with_reducible refine Mix.go_skipS ?_ ?_); (focus (first | exact Mix.wanted_no rfl rfl rfl rfl | exact Mix.wanted_void rfl rfl rfl)); go_frame)
            | ((with_reducible refine Mix.go_skipL ?_ ?_); (focus (first | exact Mix.wanted_no rfl rfl rfl rfl | exact Mix.wanted_void rfl rfl rfl)); go_frame)
            | (refine Mix.go_move (by first | exact Mix.wanted_none rfl | exact Mix.wanted_yes rfl rfl rfl) _ rfl _ (by first | (go_simp; done) | (go_simp; rfl)) ?_; go_frame)
            | (refine Mix.go_assign (by first | exact Mix.wanted_none rfl | exact Mix.wanted_yes rfl rfl rfl) _ rfl _ (by first | (go_simp; done) | (go_simp; rfl)) ?_; go_frame)
            | (refine Mix.go_sureW (by first | exact Mix.wanted_none rfl | exact Mix.wanted_yes rfl rfl rfl) _ (by rfl) (by rfl) _ (fun w' ⟨hC1, hC2⟩ => by go_wp2_with fail; refine Mix.stays ?_; go_frame; rfl) ?_; go_frame)
            | (refine Mix.go_lookW (by first | exact Mix.wanted_none rfl | exact Mix.wanted_yes rfl rfl rfl) _ (by rfl) (by rfl) _ (by go_wp2_with fail; refine Mix.stays ?_; go_frame; rfl) ?_; go_frame))
          refine Mix.go_turn ?_
          go_wp2_with fail
          refine (HCLK.out X1).mono ?_
          rintro e X2 ⟨rfl, hf⟩
          have HF7 := Lib.hid (HF6.out.trans' hf.zero)
          have HB7 := Lib.hid (HB6.out.fr0 hf)
          clear hf HF6 HB6
          go_wp2
          refine Mix.then_go ⟨HB7.out.cells.1, HB7.out.cells.2.1⟩ ?_
          repeat (first
            | ((with_reducible refine Mix.go_skipS ?_ ?_); (focus (first | exact Mix.wanted_no rfl rfl rfl rfl | exact Mix.wanted_void rfl rfl rfl)); go_frame)
            | ((with_reducible refine Mix.go_skipL ?_ ?_); (focus (first | exact Mix.wanted_no rfl rfl rfl rfl | exact Mix.wanted_void rfl rfl rfl)); go_frame)
            | (refine Mix.go_move (by first | exact Mix.wanted_none rfl | exact Mix.wanted_yes rfl rfl rfl) _ rfl _ (by first | (go_simp; done) | (go_simp; rfl)) ?_; go_frame)
            | (refine Mix.go_assign (by first | exact Mix.wanted_none rfl | exact Mix.wanted_yes rfl rfl rfl) _ rfl _ (by first | (go_simp; done) | (go_simp; rfl)) ?_; go_frame)
            | (refine Mix.go_sureW (by first | exact Mix.wanted_none rfl | exact Mix.wanted_yes rfl rfl rfl) _ (by rfl) (by rfl) _ (fun w' ⟨hC1, hC2⟩ => by go_wp2_with fail; refine Mix.stays ?_; go_frame; rfl) ?_; go_frame)
            | (refine Mix.go_lookW (by first | exact Mix.wanted_none rfl | exact Mix.wanted_yes rfl rfl rfl) _ (by rfl) (by rfl) _ (by go_wp2_with fail; refine Mix.stays ?_; go_frame; rfl) ?_; go_frame))
          refine Mix.go_turn ?_
          go_wp2_with fail
          refine (HCLS.out X2).mono ?_
          rintro e X3 ⟨rfl, hf⟩
          have HF8 := Lib.hid (HF7.out.trans' hf.zero)
          have HB8 := Lib.hid (HB7.out.fr0 hf)
          clear hf HF7 HB7
          go_wp2
          refine Mix.then_go ⟨HB8.out.cells.1, HB8.out.cells.2.1⟩ ?_
          refine Mix.go_turn ?_
          have k0 := HB8.out.cells.1
          have t0 := HB8.out.thaw 0
          go_wp2
          have HB9 := Lib.hid (HB8.out.same 0 (.string x.k) rfl)
          have HF9 : Hid (Fr (fun k => k = B0) W4 (X3.setCell ⟨B0, 0, none⟩ (.string x.k))) := Lib.hid (Fr.setCell (p := ⟨B0, 0, none⟩) HF8.out (fun _ => rfl) _)
          clear HB8 HF8 k0 t0
          generalize X3.setCell ⟨B0, 0, none⟩ (.string x.k) = X4 at *
          refine Mix.then_go ⟨HB9.out.cells.1, HB9.out.cells.2.1⟩ ?_
          repeat (first
            | ((with_reducible refine Mix.go_skipS ?_ ?_); (focus (first | exact Mix.wanted_no rfl rfl rfl rfl | exact Mix.wanted_void rfl rfl rfl)); go_frame)
            | ((with_reducible refine Mix.go_skipL ?_ ?_); (focus (first | exact Mix.wanted_no rfl rfl rfl rfl | exact Mix.wanted_void rfl rfl rfl)); go_frame)
            | (refine Mix.go_move (by first | exact Mix.wanted_none rfl | exact Mix.wanted_yes rfl rfl rfl) _ rfl _ (by first | (go_simp; done) | (go_simp; rfl)) ?_; go_frame)
            | (refine Mix.go_assign (by first | exact Mix.wanted_none rfl | exact Mix.wanted_yes rfl rfl rfl) _ rfl _ (by first | (go_simp; done) | (go_simp; rfl)) ?_; go_frame)
            | (refine Mix.go_sureW (by first | exact Mix.wanted_none rfl | exact Mix.wanted_yes rfl rfl rfl) _ (by rfl) (by rfl) _ (fun w' ⟨hC1, hC2⟩ => by go_wp2_with fail; refine Mix.stays ?_; go_frame; rfl) ?_; go_frame)
            | (refine Mix.go_lookW (by first | exact Mix.wanted_none rfl | exact Mix.wanted_yes rfl rfl rfl) _ (by rfl) (by rfl) _ (by go_wp2_with fail; refine Mix.stays ?_; go_frame; rfl) ?_; go_frame))
          refine Mix.go_turn ?_
          have k1 := HB9.out.cells.2.1
          have t1 := HB9.out.thaw 1
          go_wp2
          have HBA := Lib.hid (HB9.out.same 1 (.string x.s) rfl)
          have HFA : Hid (Fr (fun k => k = B0) W4 (X4.setCell ⟨B0, 1, none⟩ (.string x.s))) := Lib.hid (Fr.setCell (p := ⟨B0, 1, none⟩) HF9.out (fun _ => rfl) _)
          clear HB9 HF9 k1 t1
          generalize X4.setCell ⟨B0, 1, none⟩ (.string x.s) = X5 at *
          refine Mix.then_go ⟨HBA.out.cells.1, HBA.out.cells.2.1⟩ ?_
          refine Mix.go_end ?_
          go_wp2
          have HRA := Lib.hid (HRW.out X5 HFA.out)
          have c0A := HRA.out.c0
          rw [HLEN.out] at c0A
          refine Mix.law (fun X => X.cell? ⟨g, 0, none⟩ = some (.slice (some ⟨b5, 0, none⟩) (n) C) ∧ X.cell? ⟨B0, 0, none⟩ = some (.string x.k) ∧ X.cell? ⟨B0, 1, none⟩ = some (.string x.s) ∧ X.cell? ⟨B0, 2, none⟩ = some (.int .i64 x.id) ∧ X.cell? ⟨B0, 3, none⟩ = some (.int .i64 x.sz) ∧ X.cell? ⟨B0, 4, none⟩ = some (.bool x.u)) [(.sure, 0), (.sure, 1), (.sure, 2), (.sure, 3), (.sure, 4), (.sure, 5), (.sure, 6), (.last, 7)] (by kernel_rfl) (by kernel_rfl) ⟨c0A, HBA.out.cells⟩ ?_
          simp only [List.map_cons, List.map_nil, Mix.nth_zero, Mix.nth_succ]
          have HFB := Lib.hid (HFA.out.drew)
          have HTB := Lib.hid ((HRA.out.fr0 (Fr.refl _ _).drew).there m (by rw [HLEN.out]; exact hm5))
          clear c0A HBA HFA HRA
          generalize X5.drew = X6 at *
          repeat (first
            | ((with_reducible refine Mix.go_skipS ?_ ?_); (focus (first | exact Mix.wanted_no rfl rfl rfl rfl | exact Mix.wanted_void rfl rfl rfl)); go_frame)
            | ((with_reducible refine Mix.go_skipL ?_ ?_); (focus (first | exact Mix.wanted_no rfl rfl rfl rfl | exact Mix.wanted_void rfl rfl rfl)); go_frame)
            | (refine Mix.go_move (by first | exact Mix.wanted_none rfl | exact Mix.wanted_yes rfl rfl rfl) _ rfl _ (by first | (go_simp; done) | (go_simp; rfl)) ?_; go_frame)
            | (refine Mix.go_assign (by first | exact Mix.wanted_none rfl | exact Mix.wanted_yes rfl rfl rfl) _ rfl _ (by first | (go_simp; done) | (go_simp; rfl)) ?_; go_frame)
            | (refine Mix.go_sureW (by first | exact Mix.wanted_none rfl | exact Mix.wanted_yes rfl rfl rfl) _ (by rfl) (by rfl) _ (fun w' ⟨hC1, hC2, hC3, hC4, hC5, hC6⟩ => by go_wp2_with fail; refine Mix.stays ?_; go_frame; rfl) ?_; go_frame)
            | (refine Mix.go_lookW (by first | exact Mix.wanted_none rfl | exact Mix.wanted_yes rfl rfl rfl) _ (by rfl) (by rfl) _ (by go_wp2_with fail; refine Mix.stays ?_; go_frame; rfl) ?_; go_frame))
          refine Mix.go_last ?_
          have HX := Lib.hid (HE5.out X6 HFB.out)
          clear HE5 HFB
          go_wp2_with ((with_reducible change wpList _ _ _ (⟨_, Op.store 28 _ _, _, _, _, _⟩ :: _) _ _); refine wpList_store_mid rfl 28 _ _ rfl b5 (m * 5) #[.string x.k, .string x.s, .int .i64 x.id, .int .i64 x.sz, .bool x.u] rfl rfl HTB.out infoE (e5_all x) ?_)
          refine Mix.then_go trivial ?_
          refine Mix.go_end ?_
          go_wp2
          exact HX.out
theorem iadd_any (O : Nat → Prop) (g : Nat) (L : List En) (x : En) (w : World) (h : IxAt O w g L) (hk : x.k.size ≤ 140737488351232) (hs : x.s.size ≤ 140737488351232) :
    Calls Try.prog 8 #[ptr g, .agg (e5 x)] w fun e w' => e = .returned (.int .i64 (addErr L x)) ∧ Fr O w w' ∧ IxAt (Grown O w w') w' g (addSt L x) :=
  (iadd_is _ g L x w h.tight (fun _ hk => hk.2) hk hs).mono fun e w' ⟨h1, h2, h3⟩ => ⟨h1, h2.mono (fun _ _ hk => hk.1), h3.mono (fun k hk => by
    rcases hk with hk | hk
    · exact .inl hk.1
    · exact .inr hk)⟩
end Go.Proofs.Ytnglmkombogheaa.Index
