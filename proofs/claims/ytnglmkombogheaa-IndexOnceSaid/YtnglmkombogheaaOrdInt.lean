/-
  The calls of an ord of things of type int (made by wip/tools/ord.py).
-/
import Derived.Test.YtnglmkombogheaaOrdRowInt
import Derived.Test.YtnglmkombogheaaOrdAll
import Derived.BigQuiet
import Derived.OwnWalk
import Derived.Deep.WholeRow
namespace Go.Proofs.Ytnglmkombogheaa.Ord
open Go.RowKit Base

theorem len_int (B g most : Nat) (es : List Ent) (w : World) (h : OrdAt w B 56 59 58 g most es) :
    Calls Try.prog 26 #[ptr g] w fun e w' => e = .returned (.int .i64 ((es.length : Nat) : Int)) ∧ w' = w := by
  obtain ⟨A, C, ps, h1, _⟩ := h.parts
  have c1 : w.cell? ⟨g, 1, none⟩ = some (.slice A es.length C) := by rw [cell_of_row _ _ _ _ _ _ h1]; rfl
  clear h1 h
  unfold ptr
  go_enter Try.func26, Try.ntmps26
  go_wp2
  go_ret
  exact ⟨rfl, rfl⟩

theorem new_int (m : Int) (B : Nat) (w : World) (hB : B ≤ w.heap.size) :
    Calls Try.prog 18 #[.int .i64 m] w fun e w' => ∃ g, e = .returned (ptr g) ∧ w.heap.size ≤ g ∧ OrdAt w' B 56 59 58 g (held m) [] ∧ Fr0 w w' := by
  have fin : ∀ k : Int, k = (held m : Nat) → OrdAt (w.alloc (.cells #[.int .i64 k, .slice none 0 0] 56)) B 56 59 58 w.heap.size (held m) [] := fun k hk => by
    subst hk
    exact ord_new w B _ _ _ (held m) (held_le m) hB
  have HF := Lib.hid fin
  have hFr : Hid (∀ k : Int, Fr0 w (w.alloc (.cells #[.int .i64 k, .slice none 0 0] 56))) := fun k => (Fr.refl _ _).alloc _
  clear fin
  unfold ptr
  go_enter Try.func18, Try.ntmps18
  go_wp2
  go_ret
  exact ⟨_, rfl, Nat.le_refl _, HF.out _ (held_int m).symm, hFr.out _⟩

theorem get_int_none (B g most : Nat) (es : List Ent) (nm : ByteArray) (w : World) (h : OrdAt w B 56 59 58 g most es) (hh : has nm es = false) :
    Calls Try.prog 24 #[ptr g, .string nm] w fun e w' => e = .returned (.tuple #[.int .i64 0, .bool false]) ∧ w' = w := by
  have hf := find_int B g most es nm w h
  rw [hh] at hf
  clear h hh
  unfold ptr at hf ⊢
  go_enter Try.func24, Try.ntmps24
  go_wp2_with fail
  refine hf.mono ?_
  rintro e w' ⟨rfl, rfl⟩
  go_wp2
  go_ret2
  exact ⟨rfl, rfl⟩
theorem get_int_some (B g most : Nat) (es : List Ent) (nm : ByteArray) (v : Value) (w : World) (h : OrdAt w B 56 59 58 g most es) (hh : es[place nm es]? = some (nm, v)) :
    Calls Try.prog 24 #[ptr g, .string nm] w fun e w' => e = .returned (.tuple #[v, .bool true]) ∧ w' = w := by
  have hf := find_int B g most es nm w h
  rw [has_iff.2 ⟨v, hh⟩] at hf
  obtain ⟨A, C, ps, h1, h2, h3, h4, h5, h6⟩ := h.parts
  have c1 : w.cell? ⟨g, 1, none⟩ = some (.slice A es.length C) := by rw [cell_of_row _ _ _ _ _ _ h1]; rfl
  have hlt := (List.getElem?_eq_some_iff.1 hh).1
  obtain ⟨p, hp⟩ : ∃ p, ps[place nm es]? = some p := ⟨_, List.getElem?_eq_getElem (by omega)⟩
  obtain ⟨b, rfl, c2⟩ := h6 _ _ hp
  have c3 : w.cell? ⟨p, 1, none⟩ = some v := by rw [cell_of_row _ _ _ _ _ _ (h3.get _ _ _ hp hh)]; rfl
  clear h hh h1 h2 h3 h4 h5 h6 hp
  generalize place nm es = k at *
  generalize es.length = m at *
  unfold ptr at hf c2 ⊢
  go_enter Try.func24, Try.ntmps24
  go_wp2_with fail
  refine hf.mono ?_
  rintro e w' ⟨rfl, rfl⟩
  go_wp2
  go_ret2
  exact ⟨rfl, rfl⟩

set_option maxRecDepth 100000 in
/-- another thing for a name that is there -/
theorem put_int_there (B g most : Nat) (es : List Ent) (nm : ByteArray) (n : Int) (w : World) (h : OrdAt w B 56 59 58 g most es) (hh : has nm es = true) :
    Calls Try.prog 20 #[ptr g, .string nm, .int .i64 n] w fun e w' => e = .returned (.tuple #[.bool false, .int .i64 0]) ∧ OrdAt w' B 56 59 58 g most (put nm (.int .i64 n) es) ∧ FrO B 56 59 58 w w' := by
  have hf := find_int B g most es nm w h
  rw [hh] at hf
  obtain ⟨A, C, ps, h1, h2, h3, h4, h5, h6⟩ := h.parts
  have c1 : w.cell? ⟨g, 1, none⟩ = some (.slice A es.length C) := by rw [cell_of_row _ _ _ _ _ _ h1]; rfl
  have hlt := has_lt hh
  obtain ⟨u, hu⟩ := has_iff.1 hh
  obtain ⟨p, hp⟩ : ∃ p, ps[place nm es]? = some p := ⟨_, List.getElem?_eq_getElem (by omega)⟩
  obtain ⟨b, rfl, c2⟩ := h6 _ _ hp
  have hpb := h3.get _ _ _ hp hu
  have c3 : w.cell? ⟨p, 1, none⟩ = some u := by rw [cell_of_row _ _ _ _ _ _ hpb]; rfl
  have z3 : w.frozen? ⟨p, 1, none⟩ = false := by simp [World.frozen?, hpb]
  have hfr : Fr (fun k => k = p) w (w.setCell ⟨p, 1, none⟩ (.int .i64 n)) := Fr.setCell (S := fun k => k = p) (Fr.refl _ w) (p := ⟨p, 1, none⟩) (fun _ => rfl) _
  have hnew : (w.setCell ⟨p, 1, none⟩ (.int .i64 n)).heap[p]? = some (.cells #[.string nm, .int .i64 n] 58 (0, 0)) := heap_setCell hpb _
  have hgp : g ≠ p := fun e => by subst e; rw [h1] at hpb; cases hpb
  have hfin : OrdAt (w.setCell ⟨p, 1, none⟩ (.int .i64 n)) B 56 59 58 g most (put nm (.int .i64 n) es) := by
    have hput : put nm (.int .i64 n) es = es.set (place nm es) (nm, .int .i64 n) := by unfold put; rw [if_pos hh]
    have hln : (put nm (.int .i64 n) es).length = es.length := by rw [hput]; simp
    refine ⟨h.hB, Nat.le_trans h.hsz hfr.size, ⟨_, ps, hfr.heap h1 hgp, ?_, ?_, h4⟩, sorted_put h.srt, by rw [hln]; exact h.le, h.big⟩
    · rw [hln]
      refine owns_fr hfr h2 fun q hq e => ?_
      have e' : q = p := e
      subst e'
      obtain ⟨_, cs, hc⟩ := owns_heap h2 hq
      rw [hc] at hpb
      cases hpb
    · rw [hput]
      refine Lie.of (by simp [h5]) fun i q e hq he => ?_
      rw [List.getElem?_set] at he
      by_cases hi : place nm es = i
      · subst hi
        rw [hp] at hq
        cases hq
        rw [if_pos rfl, if_pos hlt] at he
        cases he
        exact hnew
      · rw [if_neg hi] at he
        refine hfr.heap (h3.get _ _ _ hq he) fun e' => ?_
        have e'' : q = p := e'
        subst e''
        have hx := h3.get _ _ _ hq he
        rw [hpb] at hx
        cases hx
        exact hi (h.srt.named he)
  have hfo : FrO B 56 59 58 w (w.setCell ⟨p, 1, none⟩ (.int .i64 n)) := hfr.mono fun k _ hk => by
    have e : k = p := hk
    subst e
    exact ⟨h4 _ (List.mem_of_getElem? hp), _, _, _, hpb, .inr (.inr rfl)⟩
  have HFIN := Lib.hid hfin
  have HFO := Lib.hid hfo
  clear hfin hfo hnew hfr hpb hgp h hh hu h1 h2 h3 h4 h5 h6 hp
  generalize put nm (.int .i64 n) es = es2 at *
  generalize place nm es = k at *
  generalize es.length = m at *
  unfold ptr at hf c2 ⊢
  go_enter Try.func20, Try.ntmps20
  go_wp2_with fail
  refine hf.mono ?_
  rintro e w' ⟨rfl, rfl⟩
  go_wp2
  go_ret2
  exact ⟨rfl, HFIN.out, HFO.out⟩

set_option maxRecDepth 100000 in
/-- no room for a new one -/
theorem put_int_full (B g most : Nat) (es : List Ent) (nm : ByteArray) (n : Int) (w : World) (h : OrdAt w B 56 59 58 g most es) (hh : has nm es = false) (hfull : most ≤ es.length) :
    Calls Try.prog 20 #[ptr g, .string nm, .int .i64 n] w fun e w' => e = .returned (.tuple #[.bool false, .int .i64 6]) ∧ Fr0 w w' := by
  have hf := find_int B g most es nm w h
  rw [hh] at hf
  have hl := fun n => len_int B g most es (w.drewN n) (h.fr0 ((Fr.refl _ _).drewN n))
  obtain ⟨A, C, ps, h1, _⟩ := h.parts
  have c0 : w.cell? ⟨g, 0, none⟩ = some (.int .i64 (most : Int)) := by rw [cell_of_row _ _ _ _ _ _ h1]; rfl
  clear h hh h1
  generalize place nm es = k at *
  generalize es.length = m at *
  unfold ptr at hf hl ⊢
  have a1 : (most : Int) ≤ (m : Int) := by omega
  have mixed : Try.prog.follows .mixedOrders = true := by kernel_rfl
  go_enter Try.func20, Try.ntmps20
  go_wp2_with fail
  refine hf.mono ?_
  rintro e w' ⟨rfl, rfl⟩
  go_wp2_with fail
  go_quiet (refine Calls.quiet_of_same (hl _))
  go_wp2
  go_ret2
  exact ⟨rfl, (Fr.refl _ _).drewN _⟩

set_option maxHeartbeats 4000000 in
set_option maxRecDepth 100000 in
/-- a new one -/
theorem put_int_new (B g most : Nat) (es : List Ent) (nm : ByteArray) (n : Int) (w : World) (h : OrdAt w B 56 59 58 g most es) (hh : has nm es = false) (hroom : es.length < most) (hs : nm.size ≤ 140737488351232) :
    Calls Try.prog 20 #[ptr g, .string nm, .int .i64 n] w fun e w' => e = .returned (.tuple #[.bool true, .int .i64 0]) ∧ OrdAt w' B 56 59 58 g most (put nm (.int .i64 n) es) ∧ FrO B 56 59 58 w w' := by
  have hf := find_int B g most es nm w h
  rw [hh] at hf
  have hl := fun n => len_int B g most es (w.drewN n) (h.fr0 ((Fr.refl _ _).drewN n))
  have hcl := fun n => clone nm (w.drewN n) hs
  obtain ⟨A, C, ps, h1, h2, h3, h4, h5, h6⟩ := h.parts
  have c0 : w.cell? ⟨g, 0, none⟩ = some (.int .i64 (most : Int)) := by rw [cell_of_row _ _ _ _ _ _ h1]; rfl
  have hmb := h.big
  have hpl := place_le nm es
  have H1 := Lib.hid h1
  have H2 := Lib.hid h2
  have H3 := Lib.hid h3
  have H4 := Lib.hid h4
  have H := Lib.hid h
  have HH := Lib.hid hh
  clear h hh h1 h2 h3 h4 h6
  have a1 : ¬ (most : Int) ≤ (es.length : Int) := by omega
  have mixed : Try.prog.follows .mixedOrders = true := by kernel_rfl
  obtain ⟨k, hk⟩ : ∃ k, place nm es = k := ⟨_, rfl⟩
  obtain ⟨m, hm⟩ : ∃ m, es.length = m := ⟨_, rfl⟩
  have HK := Lib.hid hk
  have HM := Lib.hid hm
  rw [hk] at hf hpl
  simp only [hm] at hf hl hpl a1 h5 hroom H1 H2
  clear hk hm
  unfold ptr at hf hl ⊢
  go_enter Try.func20, Try.ntmps20
  go_wp2_with fail
  refine hf.mono ?_
  rintro e w' ⟨rfl, rfl⟩
  go_wp2_with fail
  go_quiet (refine Calls.quiet_of_same (hl _))
  go_wp2_with fail
  refine (hcl _).mono ?_
  rintro e w1 ⟨rfl, hF1⟩
  have hF : Fr0 w' w1 := Fr.trans' ((Fr.refl _ w').drewN nq) hF1
  have hg1 := hF.heap H1.out (fun f => f)
  have c1 : w1.cell? ⟨g, 1, none⟩ = some (.slice A m C) := by rw [cell_of_row _ _ _ _ _ _ hg1]; rfl
  have hB1 : B ≤ w1.heap.size := Nat.le_trans H.out.hsz hF.size
  have hO1 := owns_fr hF H2.out (fun _ _ f => f)
  have hne : (Value.slice A m C).ownBlock ≠ some (w1.heap.size + 1) := fun e => by have := (World.ownsRow.lt hO1 _ e).2; omega
  have hins := insert_int B (.slice A m C) ps m k w1.heap.size (w1.heap.size + 1) ((w1.alloc (.cells #[.string nm, .int .i64 n] 58)).alloc (.cells #[ptr w1.heap.size] 59)) ((hO1.alloc _).alloc _) hpl (by omega) (by simp; omega) (by have := heap_alloc_new (w1.alloc (.cells #[.string nm, .int .i64 n] 58)) (.cells #[ptr w1.heap.size] 59); simpa only [World.size_alloc] using this) hne
  have HF := Lib.hid hF
  clear hf hl hcl hF1 hg1 hO1 hne hF
  unfold ptr at hins
  go_wp2_with fail
  refine hins.mono ?_
  rintro e w4 ⟨v', rfl, hO, hI⟩
  obtain ⟨A', C', rfl⟩ := owns_slice hO
  obtain ⟨c4, z4, hOrd, hFo⟩ := ord_insert (val := .int .i64 n) (by decide) (by decide) (by decide) H.out H1.out H2.out H3.out H4.out HM.out HK.out HH.out hroom HF.out hI hO
  have HOrd := Lib.hid hOrd
  have HFo := Lib.hid hFo
  clear hOrd hFo hO hI
  go_wp2
  go_ret2
  exact ⟨rfl, HOrd.out, HFo.out⟩

theorem drop_int_none (B g most : Nat) (es : List Ent) (nm : ByteArray) (w : World) (h : OrdAt w B 56 59 58 g most es) (hh : has nm es = false) :
    Calls Try.prog 22 #[ptr g, .string nm] w fun e w' => e = .returned (.bool false) ∧ w' = w := by
  have hf := find_int B g most es nm w h
  rw [hh] at hf
  clear h hh
  unfold ptr at hf ⊢
  go_enter Try.func22, Try.ntmps22
  go_wp2_with fail
  refine hf.mono ?_
  rintro e w' ⟨rfl, rfl⟩
  go_wp2
  go_ret
  exact ⟨rfl, rfl⟩
theorem drop_int_some (B g most : Nat) (es : List Ent) (nm : ByteArray) (w : World) (h : OrdAt w B 56 59 58 g most es) (hh : has nm es = true) :
    Calls Try.prog 22 #[ptr g, .string nm] w fun e w' => e = .returned (.bool true) ∧ OrdAt w' B 56 59 58 g most (drop nm es) ∧ FrO B 56 59 58 w w' := by
  have hf := find_int B g most es nm w h
  rw [hh] at hf
  obtain ⟨A, C, ps, h1, h2, h3, h4, h5, h6⟩ := h.parts
  have c1 : w.cell? ⟨g, 1, none⟩ = some (.slice A es.length C) := by rw [cell_of_row _ _ _ _ _ _ h1]; rfl
  have hmb := h.big
  have hle := h.le
  have hlt := has_lt hh
  have hdel := delete_int B (.slice A es.length C) ps (place nm es) w (by rw [h5]; exact h2) (by omega) (by omega)
  rw [h5] at hdel
  have H1 := Lib.hid h1
  have H2 := Lib.hid h2
  have H3 := Lib.hid h3
  have H4 := Lib.hid h4
  have H := Lib.hid h
  have HH := Lib.hid hh
  clear h hh h1 h2 h3 h4 h6
  obtain ⟨k, hk⟩ : ∃ k, place nm es = k := ⟨_, rfl⟩
  obtain ⟨m, hm⟩ : ∃ m, es.length = m := ⟨_, rfl⟩
  have HK := Lib.hid hk
  have HM := Lib.hid hm
  rw [hk] at hf hlt hdel
  simp only [hm] at hf hlt h5 c1 hdel hle H1 H2
  clear hk hm
  have hw : IntKind.i64.wrap ((k : Int) + 1) = (k : Int) + 1 := by rw [IntKind.wrap_i64]; omega
  unfold ptr at hf ⊢
  go_enter Try.func22, Try.ntmps22
  go_wp2_with fail
  refine hf.mono ?_
  rintro e w' ⟨rfl, rfl⟩
  go_wp2_with fail
  refine hdel.mono ?_
  rintro e w4 ⟨v', rfl, hO, hI, -⟩
  obtain ⟨A', C', rfl⟩ := owns_slice hO
  obtain ⟨c4, z4, hOrd, hFo⟩ := ord_delete (by decide) (by decide) (by decide) H.out H1.out H2.out H3.out H4.out HM.out HK.out HH.out hI hO
  have HOrd := Lib.hid hOrd
  have HFo := Lib.hid hFo
  clear hOrd hFo hO hI
  go_wp2
  go_ret
  exact ⟨rfl, HOrd.out, HFo.out⟩

theorem info_str_int : (Try.prog.info? 9).map (fun i => (i.zero, i.size, i.bytes)) = some (some (.string ⟨#[]⟩), 1, 16) := by kernel_rfl
/-- the names, as values -/
def nameVals_int (es : List Ent) : List Value := es.map fun e => .string e.1
end Go.Proofs.Ytnglmkombogheaa.Ord
