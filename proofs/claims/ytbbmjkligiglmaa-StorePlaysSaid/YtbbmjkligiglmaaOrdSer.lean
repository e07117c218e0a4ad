/-
  The calls of an ord of things of type []warrener/series.Sample (made by wip/tools/ord.py).
-/
import Derived.Test.YtbbmjkligiglmaaOrdRowSer
import Derived.Test.YtbbmjkligiglmaaOrdAll
import Derived.BigQuiet
import Derived.OwnWalk
import Derived.Deep.WholeRow
namespace Go.Proofs.Ytbbmjkligiglmaa.Ord
open Go.RowKit Base

theorem len_ser (B g most : Nat) (es : List Ent) (w : World) (h : OrdAt w B 83 88 87 g most es) :
    Calls Try.prog 23 #[ptr g] w fun e w' => e = .returned (.int .i64 ((es.length : Nat) : Int)) ∧ w' = w := by
  obtain ⟨A, C, ps, h1, _⟩ := h.parts
  have c1 : w.cell? ⟨g, 1, none⟩ = some (.slice A es.length C) := by rw [cell_of_row _ _ _ _ _ _ h1]; rfl
  clear h1 h
  unfold ptr
  go_enter Try.func23, Try.ntmps23
  go_wp2
  go_ret
  exact ⟨rfl, rfl⟩

theorem new_ser (m : Int) (B : Nat) (w : World) (hB : B ≤ w.heap.size) :
    Calls Try.prog 21 #[.int .i64 m] w fun e w' => ∃ g, e = .returned (ptr g) ∧ w.heap.size ≤ g ∧ OrdAt w' B 83 88 87 g (held m) [] ∧ Fr0 w w' := by
  have fin : ∀ k : Int, k = (held m : Nat) → OrdAt (w.alloc (.cells #[.int .i64 k, .slice none 0 0] 83)) B 83 88 87 w.heap.size (held m) [] := fun k hk => by
    subst hk
    exact ord_new w B _ _ _ (held m) (held_le m) hB
  have HF := Lib.hid fin
  have hFr : Hid (∀ k : Int, Fr0 w (w.alloc (.cells #[.int .i64 k, .slice none 0 0] 83))) := fun k => (Fr.refl _ _).alloc _
  clear fin
  unfold ptr
  go_enter Try.func21, Try.ntmps21
  go_wp2
  go_ret
  exact ⟨_, rfl, Nat.le_refl _, HF.out _ (held_int m).symm, hFr.out _⟩

theorem get_ser_none (B g most : Nat) (es : List Ent) (nm : ByteArray) (w : World) (h : OrdAt w B 83 88 87 g most es) (hh : has nm es = false) :
    Calls Try.prog 22 #[ptr g, .string nm] w fun e w' => e = .returned (.tuple #[.slice none 0 0, .bool false]) ∧ w' = w := by
  have hf := find_ser B g most es nm w h
  rw [hh] at hf
  clear h hh
  unfold ptr at hf ⊢
  go_enter Try.func22, Try.ntmps22
  go_wp2_with fail
  refine hf.mono ?_
  rintro e w' ⟨rfl, rfl⟩
  go_wp2
  go_ret2
  exact ⟨rfl, rfl⟩
theorem get_ser_some (B g most : Nat) (es : List Ent) (nm : ByteArray) (v : Value) (w : World) (h : OrdAt w B 83 88 87 g most es) (hh : es[place nm es]? = some (nm, v)) :
    Calls Try.prog 22 #[ptr g, .string nm] w fun e w' => e = .returned (.tuple #[v, .bool true]) ∧ w' = w := by
  have hf := find_ser B g most es nm w h
  rw [has_iff.2 ⟨v, hh⟩] at hf
  obtain ⟨A, C, ps, h1, h2, h3, h4, h5, h6⟩ := h.parts
  have c1 : w.cell? ⟨g, 1, none⟩ = some (.slice A es.length C) := by rw [cell_of_row _ _ _ _ _ _ h1]; rfl
  have hlt := (List.getElem?_eq_some_iff.1 hh).1
  obtain ⟨p, hp⟩ : ∃ p, ps[place nm es]? = some p := ⟨_, List.getElem?_eq_getElem (by omega)⟩
  obtain ⟨b, rfl, c2⟩ := h6 _ _ hp
  have c3 : w.cell? ⟨p, 1, none⟩ = some v := by rw [cell_of_row _ _ _ _ _ _ (h3.get _ _ _ hp hh)]; rfl
  clear h hh h1 h2 h3 h4 h5 h6 hp
  generalize place nm es = k at *
  generalize es.length = m at *
  unfold ptr at hf c2 ⊢
  go_enter Try.func22, Try.ntmps22
  go_wp2_with fail
  refine hf.mono ?_
  rintro e w' ⟨rfl, rfl⟩
  go_wp2
  go_ret2
  exact ⟨rfl, rfl⟩

theorem at_ser_none (B g most : Nat) (es : List Ent) (i : Int) (w : World) (h : OrdAt w B 83 88 87 g most es) (hi : i < 0 ∨ (es.length : Int) ≤ i) :
    Calls Try.prog 29 #[ptr g, .int .i64 i] w fun e w' => e = .returned (.tuple #[.string ⟨#[]⟩, .slice none 0 0, .bool false]) ∧ w' = w := by
  have hl := len_ser B g most es w h
  clear h
  generalize es.length = m at *
  unfold ptr at hl ⊢
  by_cases h0 : i < 0
  · go_enter Try.func29, Try.ntmps29
    go_wp2
    go_ret3
    exact ⟨rfl, rfl⟩
  · have h1 : (m : Int) ≤ i := by omega
    go_enter Try.func29, Try.ntmps29
    go_wp2_with fail
    refine hl.mono ?_
    rintro e w' ⟨rfl, rfl⟩
    go_wp2
    go_ret3
    exact ⟨rfl, rfl⟩
theorem at_ser_some (B g most : Nat) (es : List Ent) (i : Nat) (nm : ByteArray) (v : Value) (w : World) (h : OrdAt w B 83 88 87 g most es) (hi : es[i]? = some (nm, v)) :
    Calls Try.prog 29 #[ptr g, .int .i64 (i : Int)] w fun e w' => e = .returned (.tuple #[.string nm, v, .bool true]) ∧ Fr0 w w' := by
  have hl := len_ser B g most es w h
  obtain ⟨A, C, ps, h1, h2, h3, h4, h5, h6⟩ := h.parts
  have c1 : w.cell? ⟨g, 1, none⟩ = some (.slice A es.length C) := by rw [cell_of_row _ _ _ _ _ _ h1]; rfl
  have hlt := (List.getElem?_eq_some_iff.1 hi).1
  obtain ⟨p, hp⟩ : ∃ p, ps[i]? = some p := ⟨_, List.getElem?_eq_getElem (by omega)⟩
  obtain ⟨b, rfl, c2⟩ := h6 _ _ hp
  have c4 : w.cell? ⟨p, 0, none⟩ = some (.string nm) := by rw [cell_of_row _ _ _ _ _ _ (h3.get _ _ _ hp hi)]; rfl
  have c3 : w.cell? ⟨p, 1, none⟩ = some v := by rw [cell_of_row _ _ _ _ _ _ (h3.get _ _ _ hp hi)]; rfl
  clear h hi h1 h2 h3 h4 h5 h6 hp
  generalize es.length = m at *
  unfold ptr at hl c2 ⊢
  have a1 : ¬ (i : Int) < 0 := by omega
  have a2 : (i : Int) < (m : Int) := by omega
  have mixed : Try.prog.follows .mixedOrders = true := by kernel_rfl
  go_enter Try.func29, Try.ntmps29
  go_wp2_with fail
  refine hl.mono ?_
  rintro e w' ⟨rfl, rfl⟩
  go_wp2
  go_quiet (fail)
  go_wp2
  go_ret3
  exact ⟨rfl, (Fr.refl _ _).drewN _⟩
set_option maxRecDepth 100000 in
/-- another thing for a name that is there -/
theorem put_ser_there (B g most : Nat) (es : List Ent) (nm : ByteArray) (a : Option Addr) (n c : Nat) (w : World) (h : OrdAt w B 83 88 87 g most es) (hh : has nm es = true) :
    Calls Try.prog 25 #[ptr g, .string nm, .slice a n c] w fun e w' => e = .returned (.tuple #[.bool false, .int .i64 0]) ∧ OrdAt w' B 83 88 87 g most (put nm (.slice a n c) es) ∧ FrO B 83 88 87 w w' := by
  have hf := find_ser B g most es nm w h
  rw [hh] at hf
  obtain ⟨A, C, ps, h1, h2, h3, h4, h5, h6⟩ := h.parts
  have c1 : w.cell? ⟨g, 1, none⟩ = some (.slice A es.length C) := by rw [cell_of_row _ _ _ _ _ _ h1]; rfl
  have hlt := has_lt hh
  obtain ⟨u, hu⟩ := has_iff.1 hh
  obtain ⟨p, hp⟩ : ∃ p, ps[place nm es]? = some p := ⟨_, List.getElem?_eq_getElem (by omega)⟩
  obtain ⟨b, rfl, c2⟩ := h6 _ _ hp
  have hpb := h3.get _ _ _ hp hu
  have c3 : w.cell? ⟨p, 1, none⟩ = some u := by rw [cell_of_row _ _ _ _ _ _ hpb]; rfl
  have z3 : w.frozen? ⟨p, 1, none⟩ = false := by simp [World.frozen?, hpb]
  have hfr : Fr (fun k => k = p) w (w.setCell ⟨p, 1, none⟩ (.slice a n c)) := Fr.setCell (S := fun k => k = p) (Fr.refl _ w) (p := ⟨p, 1, none⟩) (fun _ => rfl) _
  have hnew : (w.setCell ⟨p, 1, none⟩ (.slice a n c)).heap[p]? = some (.cells #[.string nm, .slice a n c] 87 (0, 0)) := heap_setCell hpb _
  have hgp : g ≠ p := fun e => by subst e; rw [h1] at hpb; cases hpb
  have hfin : OrdAt (w.setCell ⟨p, 1, none⟩ (.slice a n c)) B 83 88 87 g most (put nm (.slice a n c) es) := by
    have hput : put nm (.slice a n c) es = es.set (place nm es) (nm, .slice a n c) := by unfold put; rw [if_pos hh]
    have hln : (put nm (.slice a n c) es).length = es.length := by rw [hput]; simp
    refine ⟨h.hB, Nat.le_trans h.hsz hfr.size, ⟨_, ps, hfr.heap h1 hgp, ?_, ?_, h4⟩, sorted_put h.srt, by rw [hln]; exact h.le, h.big⟩
    · rw [hln]
      refine owns_fr hfr h2 fun q hq e => ?_
      have e' : q = p := e
      subst e'
      obtain ⟨_, cs, hc⟩ := owns_heap h2 hq
      rw [hc] at hpb
      cases hpb
    · rw [hput]
      refine Lie.of (by simp [h5]) fun i q e hq he => ?_
      rw [List.getElem?_set] at he
      by_cases hi : place nm es = i
      · subst hi
        rw [hp] at hq
        cases hq
        rw [if_pos rfl, if_pos hlt] at he
        cases he
        exact hnew
      · rw [if_neg hi] at he
        refine hfr.heap (h3.get _ _ _ hq he) fun e' => ?_
        have e'' : q = p := e'
        subst e''
        have hx := h3.get _ _ _ hq he
        rw [hpb] at hx
        cases hx
        exact hi (h.srt.named he)
  have hfo : FrO B 83 88 87 w (w.setCell ⟨p, 1, none⟩ (.slice a n c)) := hfr.mono fun k _ hk => by
    have e : k = p := hk
    subst e
    exact ⟨h4 _ (List.mem_of_getElem? hp), _, _, _, hpb, .inr (.inr rfl)⟩
  have HFIN := Lib.hid hfin
  have HFO := Lib.hid hfo
  clear hfin hfo hnew hfr hpb hgp h hh hu h1 h2 h3 h4 h5 h6 hp
  generalize put nm (.slice a n c) es = es2 at *
  generalize place nm es = k at *
  generalize es.length = m at *
  unfold ptr at hf c2 ⊢
  go_enter Try.func25, Try.ntmps25
  go_wp2_with fail
  refine hf.mono ?_
  rintro e w' ⟨rfl, rfl⟩
  go_wp2
  go_ret2
  exact ⟨rfl, HFIN.out, HFO.out⟩

set_option maxRecDepth 100000 in
/-- no room for a new one -/
theorem put_ser_full (B g most : Nat) (es : List Ent) (nm : ByteArray) (a : Option Addr) (n c : Nat) (w : World) (h : OrdAt w B 83 88 87 g most es) (hh : has nm es = false) (hfull : most ≤ es.length) :
    Calls Try.prog 25 #[ptr g, .string nm, .slice a n c] w fun e w' => e = .returned (.tuple #[.bool false, .int .i64 6]) ∧ Fr0 w w' := by
  have hf := find_ser B g most es nm w h
  rw [hh] at hf
  have hl := fun n => len_ser B g most es (w.drewN n) (h.fr0 ((Fr.refl _ _).drewN n))
  obtain ⟨A, C, ps, h1, _⟩ := h.parts
  have c0 : w.cell? ⟨g, 0, none⟩ = some (.int .i64 (most : Int)) := by rw [cell_of_row _ _ _ _ _ _ h1]; rfl
  clear h hh h1
  generalize place nm es = k at *
  generalize es.length = m at *
  unfold ptr at hf hl ⊢
  have a1 : (most : Int) ≤ (m : Int) := by omega
  have mixed : Try.prog.follows .mixedOrders = true := by kernel_rfl
  go_enter Try.func25, Try.ntmps25
  go_wp2_with fail
  refine hf.mono ?_
  rintro e w' ⟨rfl, rfl⟩
  go_wp2_with fail
  go_quiet (refine Calls.quiet_of_same (hl _))
  go_wp2
  go_ret2
  exact ⟨rfl, (Fr.refl _ _).drewN _⟩

set_option maxHeartbeats 4000000 in
set_option maxRecDepth 100000 in
/-- a new one -/
theorem put_ser_new (B g most : Nat) (es : List Ent) (nm : ByteArray) (a : Option Addr) (n c : Nat) (w : World) (h : OrdAt w B 83 88 87 g most es) (hh : has nm es = false) (hroom : es.length < most) (hs : nm.size ≤ 140737488351232) :
    Calls Try.prog 25 #[ptr g, .string nm, .slice a n c] w fun e w' => e = .returned (.tuple #[.bool true, .int .i64 0]) ∧ OrdAt w' B 83 88 87 g most (put nm (.slice a n c) es) ∧ FrO B 83 88 87 w w' := by
  have hf := find_ser B g most es nm w h
  rw [hh] at hf
  have hl := fun n => len_ser B g most es (w.drewN n) (h.fr0 ((Fr.refl _ _).drewN n))
  have hcl := fun n => clone nm (w.drewN n) hs
  obtain ⟨A, C, ps, h1, h2, h3, h4, h5, h6⟩ := h.parts
  have c0 : w.cell? ⟨g, 0, none⟩ = some (.int .i64 (most : Int)) := by rw [cell_of_row _ _ _ _ _ _ h1]; rfl
  have hmb := h.big
  have hpl := place_le nm es
  have H1 := Lib.hid h1
  have H2 := Lib.hid h2
  have H3 := Lib.hid h3
  have H4 := Lib.hid h4
  have H := Lib.hid h
  have HH := Lib.hid hh
  clear h hh h1 h2 h3 h4 h6
  have a1 : ¬ (most : Int) ≤ (es.length : Int) := by omega
  have mixed : Try.prog.follows .mixedOrders = true := by kernel_rfl
  obtain ⟨k, hk⟩ : ∃ k, place nm es = k := ⟨_, rfl⟩
  obtain ⟨m, hm⟩ : ∃ m, es.length = m := ⟨_, rfl⟩
  have HK := Lib.hid hk
  have HM := Lib.hid hm
  rw [hk] at hf hpl
  simp only [hm] at hf hl hpl a1 h5 hroom H1 H2
  clear hk hm
  unfold ptr at hf hl ⊢
  go_enter Try.func25, Try.ntmps25
  go_wp2_with fail
  refine hf.mono ?_
  rintro e w' ⟨rfl, rfl⟩
  go_wp2_with fail
  go_quiet (refine Calls.quiet_of_same (hl _))
  go_wp2_with fail
  refine (hcl _).mono ?_
  rintro e w1 ⟨rfl, hF1⟩
  have hF : Fr0 w' w1 := Fr.trans' ((Fr.refl _ w').drewN nq) hF1
  have hg1 := hF.heap H1.out (fun f => f)
  have c1 : w1.cell? ⟨g, 1, none⟩ = some (.slice A m C) := by rw [cell_of_row _ _ _ _ _ _ hg1]; rfl
  have hB1 : B ≤ w1.heap.size := Nat.le_trans H.out.hsz hF.size
  have hO1 := owns_fr hF H2.out (fun _ _ f => f)
  have hne : (Value.slice A m C).ownBlock ≠ some (w1.heap.size + 1) := fun e => by have := (World.ownsRow.lt hO1 _ e).2; omega
  have hins := insert_ser B (.slice A m C) ps m k w1.heap.size (w1.heap.size + 1) ((w1.alloc (.cells #[.string nm, .slice a n c] 87)).alloc (.cells #[ptr w1.heap.size] 88)) ((hO1.alloc _).alloc _) hpl (by omega) (by simp; omega) (by have := heap_alloc_new (w1.alloc (.cells #[.string nm, .slice a n c] 87)) (.cells #[ptr w1.heap.size] 88); simpa only [World.size_alloc] using this) hne
  have HF := Lib.hid hF
  clear hf hl hcl hF1 hg1 hO1 hne hF
  unfold ptr at hins
  go_wp2_with fail
  refine hins.mono ?_
  rintro e w4 ⟨v', rfl, hO, hI⟩
  obtain ⟨A', C', rfl⟩ := owns_slice hO
  obtain ⟨c4, z4, hOrd, hFo⟩ := ord_insert (val := .slice a n c) (by decide) (by decide) (by decide) H.out H1.out H2.out H3.out H4.out HM.out HK.out HH.out hroom HF.out hI hO
  have HOrd := Lib.hid hOrd
  have HFo := Lib.hid hFo
  clear hOrd hFo hO hI
  go_wp2
  go_ret2
  exact ⟨rfl, HOrd.out, HFo.out⟩

theorem info_str_ser : (Try.prog.info? 9).map (fun i => (i.zero, i.size, i.bytes)) = some (some (.string ⟨#[]⟩), 1, 16) := by kernel_rfl
/-- the names, as values -/
def nameVals_ser (es : List Ent) : List Value := es.map fun e => .string e.1
set_option maxHeartbeats 4000000 in
set_option maxRecDepth 100000 in
theorem names_ser (B g most : Nat) (es : List Ent) (w : World) (h : OrdAt w B 83 88 87 g most es) :
    Calls Try.prog 27 #[ptr g] w fun e w' => ∃ b, e = .returned (.slice (some ⟨b, 0, none⟩) es.length es.length) ∧ w.heap.size ≤ b ∧ w'.ownsRow w.heap.size 9 1 (.slice (some ⟨b, 0, none⟩) es.length es.length) es.length (es.map fun e => .string e.1) ∧ Fr0 w w' := by
  have hl := len_ser B g most es w h
  have hle : es.length ≤ 4096 := Nat.le_trans h.le h.big
  have H := Lib.hid h
  clear h
  obtain ⟨n, hn⟩ : ∃ n, es.length = n := ⟨_, rfl⟩
  have HN := Lib.hid hn
  rw [hn] at hl hle ⊢
  clear hn
  unfold ptr at hl ⊢
  go_enter Try.func27, Try.ntmps27
  go_wp2_with fail
  refine hl.mono ?_
  rintro e w' ⟨rfl, rfl⟩
  obtain ⟨A, C, ps, h1, h2, h3, h4, h5, h6⟩ := H.out.parts
  rw [HN.out] at h1 h5
  have HC1 : Hid (∀ w1, Fr0 w' w1 → w1.cell? ⟨g, 1, none⟩ = some (.slice A n C)) := fun w1 hf => by rw [cell_of_row _ _ _ _ _ _ (hf.heap h1 (fun f => f))]; rfl
  have HX : Hid (∀ i e, es[i]? = some e → ∃ b p, A = some ⟨b, 0, none⟩ ∧ (∀ wr, Fr0 w' wr → wr.cell? ⟨b, i, none⟩ = some (ptr p) ∧ wr.cell? ⟨p, 0, none⟩ = some (.string e.1))) := fun i e he => by
    have hlt := (List.getElem?_eq_some_iff.1 he).1
    obtain ⟨p, hp⟩ : ∃ p, ps[i]? = some p := ⟨_, List.getElem?_eq_getElem (by rw [h5, ← HN.out]; exact hlt)⟩
    obtain ⟨b, rfl, hc⟩ := h6 i p hp
    have hx := h3.get i p e hp he
    obtain ⟨_, cs2, hb2⟩ := owns_heap h2 rfl
    refine ⟨b, p, rfl, fun wr hF => ?_⟩
    exact ⟨(hF.cell (p := ⟨b, i, none⟩) (lt_of_heap hb2) (fun f => f)).trans hc, by rw [cell_of_row _ _ _ _ _ _ (hF.heap hx (fun f => f))]; rfl⟩
  clear h1 h2 h3 h4 h5 h6 hl
  obtain ⟨ei, hi, hz0, hz1, hz2⟩ := info_parts info_str_ser
  go_wp2_with (refine wpList_make_own _ rfl _ _ 36 rfl w'.heap.size 9 ei (.string ⟨#[]⟩) 1 Try.underlying36 hi hz0 hz1 .i64 .i64 _ n rfl rfl rfl (by rw [hz2]; omega) (by unfold maxLen; omega) (Nat.le_refl _) ?_; intro w1 hO1 hG1; have hF1 : Fr0 w' w1 := (Fr.refl _ w').grown hG1 (fun _ _ e => by cases e); have HO1 := Lib.hid hO1; have HF1 := Lib.hid hF1; have c1 := HC1.out w1 hF1; clear hO1 hG1 hF1)
  clear hi hz0 hz1 hz2
  go_loopg [3, 5, 14] n (fun kx v s5 i wr => ∃ k : Nat, k ≤ n ∧ n - k ≤ kx ∧ i = .int .i64 k ∧ v = .slice (some ⟨w'.heap.size, 0, none⟩) k n ∧ Hid (wr.ownsRow w'.heap.size 9 1 (.slice (some ⟨w'.heap.size, 0, none⟩) k n) k ((es.take k).map fun e => .string e.1)) ∧ Hid (Fr0 w' wr))
  case atStart => exact ⟨0, Nat.zero_le _, by omega, rfl, rfl, Lib.hid (by simpa using HO1.out), HF1⟩
  case round =>
    obtain ⟨k, hk, hg, rfl, rfl, HOW, HFR⟩ := hrel
    by_cases hlt : k < n
    · obtain ⟨e, he⟩ : ∃ e, es[k]? = some e := ⟨_, List.getElem?_eq_getElem (by rw [HN.out]; exact hlt)⟩
      obtain ⟨b, p, rfl, hcells⟩ := HX.out k e he
      obtain ⟨c2, c3⟩ := hcells wr HFR.out
      have ht : (es.take (k + 1)).map (fun e => Value.string e.1) = (es.take k).map (fun e => Value.string e.1) ++ [.string e.1] := by rw [List.take_add_one, he]; simp
      have HT := Lib.hid ht
      clear hcells he ht
      unfold ptr at c2
      obtain ⟨ei, hi, hz0, hz1, hz2⟩ := info_parts info_str_ser
      go_wp2_with (at_builtin; refine wpList_append_fits _ rfl _ _ 36 rfl w'.heap.size 9 ei 1 Try.underlying36 hi hz1 w'.heap.size k n ((es.take k).map fun e => .string e.1) rfl (HOW.out.alloc _) ⟨wr.heap.size, 0, none⟩ 1 1 [.string e.1] rfl rfl (cell_one_new _ _ _) (by intro u hu; simp at hu; subst hu; rfl) (by omega) ?_; intro w5 hO5 hG5)
      clear hi hz0 hz1 hz2
      have HF5 : Hid (Fr0 w' w5) := Lib.hid (Fr.trans HFR.out (Fr.grown (S := fun q => q = w'.heap.size) ((Fr.refl _ wr).alloc _) hG5 (fun q _ e => by cases e; rfl)) (fun i hi e => by have e' : i = w'.heap.size := e; omega))
      have HO5 : Hid (w5.ownsRow w'.heap.size 9 1 (.slice (some ⟨w'.heap.size, 0, none⟩) (k + 1) n) (k + 1) ((es.take (k + 1)).map fun e => .string e.1)) := Lib.hid (by rw [HT.out]; exact hO5)
      clear hO5 hG5
      go_wp2
      go_roundg (n - (k + 1))
      case measure => omega
      case rel => exact ⟨k + 1, by omega, by omega, by simp, rfl, HO5, HF5⟩
    · obtain rfl : k = n := by omega
      go_wp2
      go_ret
      have ho := HOW.out
      rw [List.take_of_length_le (by rw [HN.out]; exact Nat.le_refl _)] at ho
      exact ⟨_, rfl, Nat.le_refl _, ho, HFR.out⟩
end Go.Proofs.Ytbbmjkligiglmaa.Ord
