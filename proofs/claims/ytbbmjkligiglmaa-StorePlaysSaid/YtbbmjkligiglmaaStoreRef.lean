/-
  The reference's store: at, Len, Samples, Query.
-/
import Derived.Test.YtbbmjkligiglmaaStoreBase
import Derived.Test.YtbbmjkligiglmaaAggRefO
import Derived.Test.YtbbmjkligiglmaaSerRef
namespace Go.Proofs.Ytbbmjkligiglmaa.Store
open Go.RowKit Base _root_.Go.Proofs.Ytbbmjkligiglmaa.Tenant _root_.Go.Proofs.Ytbbmjkligiglmaa.Series _root_.Go.Proofs.Ytbbmjkligiglmaa.Agg
open _root_.Go.Proofs.Ytbbmjkligiglmaa.Ord (Ent place has put Sorted ptr)

set_option maxRecDepth 100000 in
set_option maxHeartbeats 4000000 in
theorem rat_any (B g : Nat) (most retain : Int) (es : List Ent) (nm : ByteArray) (w : World) (hn : es.length ≤ 1000000) (h : RStAt w B 44 56 g most retain es) (hs : Sorted es) :
    Calls Try.prog 30 #[ptr g, .string nm] w fun e w' => e = .returned (.int .i64 (idx nm es)) ∧ w = w' := by
  obtain ⟨A, C, hrow, hown, hcells⟩ := h.at
  have c2 : w.cell? ⟨g, 2, none⟩ = some (.slice A es.length C) := by rw [cell_of_row _ _ _ _ _ _ hrow]; rfl
  have HC := Lib.hid hcells
  have HI : Hid (∀ (i : Nat) (e : Ent), es[i]? = some e → e.1 = nm → idx nm es = (i : Int)) := Lib.hid (fun i e he h => idx_at hs he h)
  have HNO : Hid ((∀ (i : Nat) (e : Ent), es[i]? = some e → e.1 ≠ nm) → idx nm es = -1) := Lib.hid idx_no
  clear h hrow hown hcells hs
  have HG : Hid (∀ i, i < es.length → ∃ e, es[i]? = some e) := Lib.hid (fun i hi => ⟨_, List.getElem?_eq_getElem hi⟩)
  have HL : Hid (∀ i e, es[i]? = some e → i < es.length) := Lib.hid (fun i e he => (List.getElem?_eq_some_iff.1 he).1)
  generalize es.length = n at *
  generalize idx nm es = x at *
  unfold ptr
  go_enter Try.func30, Try.ntmps30
  go_wp2_with fail
  go_loopg [5] n (fun kx vi wr => w = wr ∧ ∃ i : Nat, vi = .int .i64 (i : Int) ∧ i ≤ n ∧ n - i ≤ kx ∧ Hid (∀ (j : Nat) (e : Ent), j < i → es[j]? = some e → e.1 ≠ nm))
  case atStart => exact ⟨rfl, 0, rfl, Nat.zero_le _, by omega, Lib.hid (fun j e h => by omega)⟩
  case round =>
    obtain ⟨rfl, i, rfl, hi, hk, HP⟩ := hrel
    by_cases hlt : i < n
    · obtain ⟨e, he⟩ := HG.out i hlt
      obtain ⟨b, rfl, k0, k1⟩ := HC.out i e he
      have i1 : (i : Int) < (n : Int) := by omega
      have i2 : 0 ≤ (i : Int) := by omega
      have HEE := Lib.hid he
      clear he
      by_cases hnm : e.1 = nm
      · have hx := HI.out i e HEE.out hnm
        have HX := Lib.hid hx
        have hq : (e.1.toList == nm.toList) = true := by rw [Ord.eq_raw]; exact decide_eq_true hnm
        clear hx hnm
        go_wp2
        go_ret
        exact ⟨by rw [HX.out]; rfl, rfl⟩
      · have hq : (e.1.toList == nm.toList) = false := by rw [Ord.eq_raw]; exact decide_eq_false hnm
        have HP2 : Hid (∀ (j : Nat) (e : Ent), j < i + 1 → es[j]? = some e → e.1 ≠ nm) := Lib.hid (fun j e' hj he' => by
          by_cases h : j = i
          · subst h
            have he2 := HEE.out
            rw [he'] at he2
            cases he2
            exact hnm
          · exact HP.out j e' (by omega) he')
        go_wp2
        go_roundg (n - (i + 1))
        case measure => omega
        case rel => exact ⟨rfl, i + 1, by simp, by omega, by omega, HP2⟩
    · obtain rfl : i = n := by omega
      have HX : Hid (x = -1) := Lib.hid (HNO.out (fun j e he => HP.out j e (HL.out j e he) he))
      go_wp2
      go_ret
      exact ⟨by rw [HX.out]; rfl, rfl⟩
/-- the slice of the i-th -/
theorem Kept.form {w : World} {t : TypeId} {es : List Ent} {ss : List SE} (h : Kept w t es ss) {i : Nat} {e : Ent} (he : es[i]? = some e) : ∃ s a c, ss[i]? = some s ∧ e.2 = .slice a s.2.length c ∧ PairsT w t (.slice a s.2.length c) s.2 := by
  have hi := (List.getElem?_eq_some_iff.1 he).1
  have hi2 : i < ss.length := by rw [← h.length]; exact hi
  have hs : ss[i]? = some ss[i] := List.getElem?_eq_getElem hi2
  have hp := h.each i e _ he hs
  obtain ⟨a, c, hv⟩ := pairs_form hp.is
  exact ⟨_, a, c, hs, hv, hv ▸ hp⟩
theorem lenS_next : ∀ (ss : List SE) (i : Nat) (s : SE), ss[i]? = some s → lenS (ss.take (i + 1)) = lenS (ss.take i) + s.2.length
  | [], i, s, h => by simp at h
  | x :: ss, 0, s, h => by simp at h; subst h; simp [lenS]
  | x :: ss, i + 1, s, h => by
    have := lenS_next ss i s (by simpa using h)
    simp only [List.take_succ_cons, lenS]
    omega
theorem lenS_le : ∀ (ss : List SE) (m : Nat), (∀ s ∈ ss, s.2.length ≤ m) → lenS ss ≤ ss.length * m
  | [], _, _ => by simp [lenS]
  | x :: ss, m, h => by
    have h1 := lenS_le ss m (fun s hs => h s (List.mem_cons_of_mem _ hs))
    have h2 := h x List.mem_cons_self
    simp only [lenS, List.length_cons, Nat.succ_mul]
    omega
set_option maxRecDepth 100000 in
set_option maxHeartbeats 4000000 in
theorem rlen_any (B g : Nat) (most retain : Int) (es : List Ent) (ss : List SE) (w : World) (ho : OkS most retain ss) (h : RStAt w B 44 56 g most retain es) (hk : Kept w 80 es ss) :
    Calls Try.prog 17 #[ptr g] w fun e w' => e = .returned (.int .i64 (lenS ss : Int)) ∧ w = w' := by
  obtain ⟨A, C, hrow, hown, hcells⟩ := h.at
  have c2 : w.cell? ⟨g, 2, none⟩ = some (.slice A es.length C) := by rw [cell_of_row _ _ _ _ _ _ hrow]; rfl
  have HC := Lib.hid hcells
  have hn : es.length ≤ 16 := by rw [hk.length]; have := ho.le; have := ho.hm; omega
  have HG : Hid (∀ i, i < es.length → ∃ e, es[i]? = some e) := Lib.hid (fun i hi => ⟨_, List.getElem?_eq_getElem hi⟩)
  have HK : Hid (∀ (i : Nat) (e : Ent), es[i]? = some e → ∃ s a c, ss[i]? = some s ∧ e.2 = .slice a s.2.length c ∧ PairsT w 80 (.slice a s.2.length c) s.2) := Lib.hid (fun i e he => hk.form he)
  have HEND : Hid (∀ i, es.length ≤ i → lenS (ss.take i) = lenS ss) := Lib.hid (fun i hi => by rw [List.take_of_length_le (by rw [← hk.length]; exact hi)])
  have HS : Hid (∀ (i : Nat) s, ss[i]? = some s → s.2.length ≤ 64 ∧ lenS (ss.take (i + 1)) = lenS (ss.take i) + s.2.length) := Lib.hid (fun i s hs => ⟨by have := (ho.each s (List.mem_of_getElem? hs)).1; have := ho.hr; omega, lenS_next ss i s hs⟩)
  have H0 : Hid (lenS (ss.take 0) = 0) := Lib.hid rfl
  clear h hrow hown hcells hk ho
  generalize es.length = n at *
  unfold ptr
  go_enter Try.func17, Try.ntmps17
  go_wp2_with fail
  go_loopg [3, 4] n (fun kx vn vi wr => w = wr ∧ ∃ (i S : Nat), vi = .int .i64 (i : Int) ∧ vn = .int .i64 (S : Int) ∧ i ≤ n ∧ n - i ≤ kx ∧ S ≤ i * 64 ∧ Hid (lenS (ss.take i) = S))
  case atStart => exact ⟨rfl, 0, 0, rfl, rfl, Nat.zero_le _, by omega, by omega, H0⟩
  case round =>
    obtain ⟨rfl, i, S, rfl, rfl, hi, hk, hS, HSS⟩ := hrel
    by_cases hlt : i < n
    · obtain ⟨e, he⟩ := HG.out i hlt
      obtain ⟨b, rfl, k0, k1⟩ := HC.out i e he
      obtain ⟨s, a, c, hs, hv, -⟩ := HK.out i e he
      rw [hv] at k1
      obtain ⟨hb, hnx⟩ := HS.out i s hs
      rw [HSS.out] at hnx
      have HNX := Lib.hid hnx
      have i1 : (i : Int) < (n : Int) := by omega
      have i2 : 0 ≤ (i : Int) := by omega
      clear he hs hv k0 hnx
      generalize s.2.length = L at *
      have hw : wrap64 ((S : Int) + (L : Int)) = (S : Int) + (L : Int) := by simp only [wrap64]; omega
      go_wp2
      go_roundg (n - (i + 1))
      case measure => omega
      case rel => exact ⟨rfl, i + 1, S + L, by simp, by simp, by omega, by omega, by omega, HNX⟩
    · obtain rfl : i = n := by omega
      have HX : Hid (S = lenS ss) := Lib.hid (by rw [← HSS.out]; exact HEND.out i (Nat.le_refl _))
      go_wp2
      go_ret
      exact ⟨by rw [← HX.out]; rfl, rfl⟩
theorem idx_has {w : World} {t : TypeId} {es : List Ent} {ss : List SE} (h : Kept w t es ss) (nm : ByteArray) : (hasS nm ss = true → idx nm es = (placeS nm ss : Int)) ∧ (hasS nm ss = false → idx nm es = -1) := by
  refine ⟨fun hh => ?_, fun hh => ?_⟩
  · unfold idx
    rw [if_pos ((h.has nm).trans hh), h.place nm]
  · unfold idx
    rw [if_neg (by rw [h.has nm, hh]; decide)]
theorem Kept.got {w : World} {t : TypeId} {es : List Ent} {ss : List SE} (h : Kept w t es ss) {nm : ByteArray} (hh : hasS nm ss = true) : ∃ a c, es[placeS nm ss]? = some (nm, .slice a (wasS nm ss).length c) ∧ PairsT w t (.slice a (wasS nm ss).length c) (wasS nm ss) ∧ placeS nm ss < es.length := by
  obtain ⟨v, h1, h2⟩ := h.get hh
  obtain ⟨a, c, rfl⟩ := pairs_form h2.is
  rw [h.place nm] at h1
  exact ⟨a, c, h1, h2, by rw [h.length]; exact hasS_lt hh⟩
set_option maxHeartbeats 4000000 in
theorem rsamples_any (B g : Nat) (most retain : Int) (es : List Ent) (ss : List SE) (nm : ByteArray) (w : World) (ho : OkS most retain ss) (h : RStAt w B 44 56 g most retain es) (hk : Kept w 80 es ss) :
    Calls Try.prog 19 #[ptr g, .string nm] w fun e w' => ∃ A C, e = .returned (.slice A (wasS nm ss).length C) ∧ PairsT w' 80 (.slice A (wasS nm ss).length C) (wasS nm ss) ∧ w = w' := by
  have hn : es.length ≤ 16 := by rw [hk.length]; have := ho.le; have := ho.hm; omega
  have HAT := Lib.hid (rat_any B g most retain es nm w (by omega) h (hk.sorted ho.srt))
  obtain ⟨hix1, hix2⟩ := idx_has hk nm
  cases hh : hasS nm ss with
  | false =>
    rw [hix2 hh] at HAT
    rw [was_none hh]
    clear hix1 hix2 hk h ho
    go_enter Try.func19, Try.ntmps19
    go_wp2_with fail
    refine HAT.out.mono ?_
    rintro e w1 ⟨rfl, rfl⟩
    go_wp2
    go_ret
    exact ⟨none, 0, rfl, pairsT_nil _ _, rfl⟩
  | true =>
    rw [hix1 hh] at HAT
    obtain ⟨a, c, hv, hp, hpl⟩ := hk.got hh
    obtain ⟨A, C, hrow, hown, hcells⟩ := h.at
    have c2 : w.cell? ⟨g, 2, none⟩ = some (.slice A es.length C) := by rw [cell_of_row _ _ _ _ _ _ hrow]; rfl
    have HC := Lib.hid hcells
    obtain ⟨b, rfl, k0, k1⟩ := hcells _ _ hv
    have HPT := Lib.hid hp
    clear hix1 hix2 hk h ho hv hrow hown hcells HC hp k0
    generalize wasS nm ss = was at *
    generalize placeS nm ss = i at *
    generalize es.length = n at *
    have i1 : (i : Int) < (n : Int) := by omega
    have i2 : 0 ≤ (i : Int) := by omega
    unfold ptr at *
    go_enter Try.func19, Try.ntmps19
    go_wp2_with fail
    refine HAT.out.mono ?_
    rintro e w1 ⟨rfl, rfl⟩
    go_wp2
    go_ret
    exact ⟨a, c, rfl, HPT.out, rfl⟩
theorem range_sized {l : List Sm} (h : SizedS l) (f t : Int) : SizedS (rangeOf l f t) := sized_sub h (fun q hq => (List.mem_filter.1 hq).1)
theorem range_len (l : List Sm) (f t : Int) : (rangeOf l f t).length ≤ l.length := List.length_filter_le _ _
set_option maxRecDepth 100000 in
set_option maxHeartbeats 4000000 in
theorem rquery_any (B g : Nat) (most retain : Int) (es : List Ent) (ss : List SE) (nm : ByteArray) (f t : Int) (w : World) (ho : OkS most retain ss) (h : RStAt w B 44 56 g most retain es) (hk : Kept w 80 es ss) :
    Calls Try.prog 14 #[ptr g, .string nm, .int .i64 f, .int .i64 t] w fun e w' => e = .returned (.tuple #[.agg (a6 (queryOut nm f t ss)), .int .i64 (queryErr nm ss)]) ∧ Fr0 w w' := by
  have hn : es.length ≤ 16 := by rw [hk.length]; have := ho.le; have := ho.hm; omega
  have HF0 : Hid (Fr0 w (w.alloc (.cells #[.int .i64 0, .int .i64 0, .int .i64 0, .int .i64 0, .int .i64 0, .bool false] 47))) := Lib.hid ((Fr.refl _ _).alloc _)
  have HB0 : Hid (Bx 47 (w.alloc (.cells #[.int .i64 0, .int .i64 0, .int .i64 0, .int .i64 0, .int .i64 0, .bool false] 47)) w.heap.size zeroA) := Lib.hid (Bx.new 47 w zeroA)
  have HAT := Lib.hid (rat_any B g most retain es nm (w.alloc (.cells #[.int .i64 0, .int .i64 0, .int .i64 0, .int .i64 0, .int .i64 0, .bool false] 47)) (by omega) (h.fr0 HF0.out) (hk.sorted ho.srt))
  obtain ⟨hix1, hix2⟩ := idx_has hk nm
  cases hh : hasS nm ss with
  | false =>
    rw [hix2 hh] at HAT
    have HR := Lib.hid (HB0.out.setRow zeroA)
    have HRF := Lib.hid (Fr.setRow (g := w.heap.size) HF0.out (fun h => by have h' : w.heap.size < w.heap.size := h; omega) #[.int .i64 0, .int .i64 0, .int .i64 0, .int .i64 0, .int .i64 0, .bool false])
    rw [show queryOut nm f t ss = zeroA by unfold queryOut; rw [hh]; rfl, show queryErr nm ss = 8 by unfold queryErr; rw [hh]; rfl]
    clear hix1 hix2 hk h ho
    unfold ptr at *
    go_enter Try.func14, Try.ntmps14
    go_wp2_with fail
    refine HAT.out.mono ?_
    rintro e w1 ⟨rfl, rfl⟩
    go_wp2
    exact bodyPost_ret (res2 rfl Try.underlying47 rfl infoA _ _ rfl rfl HB0.out) rfl ⟨rfl, HF0.out⟩
  | true =>
    rw [hix1 hh] at HAT
    obtain ⟨a, c, hv, hp, hpl⟩ := hk.got hh
    obtain ⟨hw1, hw2, -⟩ := ho.was nm
    have hw3 : (wasS nm ss).length ≤ 64 := by have := ho.hr; omega
    obtain ⟨A, C, hrow, hown, hcells⟩ := h.at
    have c2 : w.cell? ⟨g, 2, none⟩ = some (.slice A es.length C) := by rw [cell_of_row _ _ _ _ _ _ hrow]; rfl
    have HC := Lib.hid hcells
    obtain ⟨b, rfl, k0, k1⟩ := hcells _ _ hv
    rw [show queryOut nm f t ss = agOf (rangeOf (wasS nm ss) f t) by unfold queryOut; rw [hh]; rfl, show queryErr nm ss = 0 by unfold queryErr; rw [hh]; rfl]
    have HRG := Lib.hid (fun w hP => rrange_any (.slice a (wasS nm ss).length c) (wasS nm ss) f t (by omega) w hP)
    have HOF := Lib.hid (fun v w hP => rof_any v (rangeOf (wasS nm ss) f t) (by have := range_len (wasS nm ss) f t; omega) (range_sized hw2 f t) w hP)
    have HPT := Lib.hid hp.is
    have hlt := World.block_lt_of_cell? w _ k1
    have d2 : (w.alloc (.cells #[.int .i64 0, .int .i64 0, .int .i64 0, .int .i64 0, .int .i64 0, .bool false] 47)).cell? ⟨g, 2, none⟩ = some (.slice (some ⟨b, 0, none⟩) es.length C) := (HF0.out.cell (p := ⟨g, 2, none⟩) (World.block_lt_of_cell? w _ c2) (fun f => f)).trans c2
    have d1 : (w.alloc (.cells #[.int .i64 0, .int .i64 0, .int .i64 0, .int .i64 0, .int .i64 0, .bool false] 47)).cell? ⟨b, placeS nm ss * 2 + 1, none⟩ = some (.slice a (wasS nm ss).length c) := (HF0.out.cell (p := ⟨b, placeS nm ss * 2 + 1, none⟩) hlt (fun f => f)).trans k1
    clear hix1 hix2 hk h ho hv hrow hown hcells HC hp k0 hw1 hw2 c2 k1 hlt
    generalize agOf (rangeOf (wasS nm ss) f t) = q at *
    rw [show a6 q = #[.int .i64 q.c, .int .i64 q.s, .int .i64 q.n, .int .i64 q.x, .int .i64 q.l, .bool q.o] from rfl] at HOF ⊢
    generalize wasS nm ss = was at *
    generalize placeS nm ss = i at *
    generalize es.length = n at *
    have i1 : (i : Int) < (n : Int) := by omega
    have i2 : 0 ≤ (i : Int) := by omega
    generalize hW1 : w.alloc (.cells #[.int .i64 0, .int .i64 0, .int .i64 0, .int .i64 0, .int .i64 0, .bool false] 47) = W1 at *
    have HW1 := Lib.hid hW1
    clear hW1
    unfold ptr at *
    go_enter Try.func14, Try.ntmps14
    go_wp2_with fail
    rw [HW1.out]
    clear HW1
    refine HAT.out.mono ?_
    rintro e w1 ⟨rfl, rfl⟩
    go_wp2_with fail
    generalize hg0 : w.heap.size = g0 at *
    have HGE := Lib.hid hg0
    clear hg0
    refine (HRG.out _ (HPT.out.fr0 HF0.out)).mono ?_
    rintro e w2 ⟨v2, rfl, hP2, hF2⟩
    have HF2 := Lib.hid (HF0.out.trans' hF2)
    have HB2 := Lib.hid (HB0.out.fr0 hF2)
    have hof := HOF.out v2 w2 hP2
    clear hP2 hF2 HRG HOF
    go_wp2_with fail
    refine hof.mono ?_
    clear hof
    rintro e w3 ⟨rfl, hF3⟩
    have HF3 := Lib.hid (HF2.out.trans' hF3)
    have HB3 := Lib.hid (HB2.out.fr0 hF3)
    clear hF3 HF2 HB2
    have HR := Lib.hid (HB3.out.setRow q)
    have HRF := Lib.hid (Fr.setRow (g := g0) HF3.out (fun h => by have := HGE.out; omega) #[.int .i64 q.c, .int .i64 q.s, .int .i64 q.n, .int .i64 q.x, .int .i64 q.l, .bool q.o])
    go_wp2_with ((with_reducible change wpList _ _ _ (⟨_, Op.store 47 _ _, _, _, _, _⟩ :: _) _ _); refine wpList_store_row rfl 47 _ _ rfl g0 #[.int .i64 q.c, .int .i64 q.s, .int .i64 q.n, .int .i64 q.x, .int .i64 q.l, .bool q.o] rfl rfl 47 _ HB3.out.heap infoA rfl (a6_one q) ?_)
    exact bodyPost_ret (res2 rfl Try.underlying47 rfl infoA _ _ rfl rfl HR.out) rfl ⟨rfl, HRF.out⟩
end Go.Proofs.Ytbbmjkligiglmaa.Store
