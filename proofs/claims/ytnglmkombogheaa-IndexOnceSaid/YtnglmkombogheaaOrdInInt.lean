/-
  Its blocks told of an ord of things of type int (made by wip/tools/ord.py).
-/
import Derived.Test.YtnglmkombogheaaOrdInt
import Derived.Test.YtnglmkombogheaaOrdAll
namespace Go.Proofs.Ytnglmkombogheaa.Ord
open Go.RowKit Base

theorem new_int_in (m : Int) (w : World) :
    Calls Try.prog 18 #[.int .i64 m] w fun e w' => ∃ g, e = .returned (ptr g) ∧ w.heap.size ≤ g ∧ OrdIn (fun k => w.heap.size ≤ k ∧ k < w'.heap.size) w' 56 59 58 g (held m) [] ∧ Fr0 w w' := by
  have fin : ∀ k : Int, k = (held m : Nat) → OrdIn (fun j => w.heap.size ≤ j ∧ j < (w.alloc (.cells #[.int .i64 k, .slice none 0 0] 56)).heap.size) (w.alloc (.cells #[.int .i64 k, .slice none 0 0] 56)) 56 59 58 w.heap.size (held m) [] := fun k hk => by
    subst hk
    exact (ordIn_new w _ _ _ (held m) (held_le m)).mono fun k hk => by subst hk; exact ⟨Nat.le_refl _, by simp⟩
  have HF := Lib.hid fin
  have hFr : Hid (∀ k : Int, Fr0 w (w.alloc (.cells #[.int .i64 k, .slice none 0 0] 56))) := fun k => (Fr.refl _ _).alloc _
  clear fin
  unfold ptr
  go_enter Try.func18, Try.ntmps18
  go_wp2
  go_ret
  exact ⟨_, rfl, Nat.le_refl _, HF.out _ (held_int m).symm, hFr.out _⟩
set_option maxRecDepth 100000 in
theorem put_int_there_in (O : Nat → Prop) (g most : Nat) (es : List Ent) (nm : ByteArray) (n : Int) (w : World) (h : OrdIn O w 56 59 58 g most es) (hh : has nm es = true) :
    Calls Try.prog 20 #[ptr g, .string nm, .int .i64 n] w fun e w' => e = .returned (.tuple #[.bool false, .int .i64 0]) ∧ OrdIn O w' 56 59 58 g most (put nm (.int .i64 n) es) ∧ Fr O w w' ∧ FrO 0 56 59 58 w w' := by
  have hf := find_int 0 g most es nm w h.at
  rw [hh] at hf
  obtain ⟨A, C, ps, h1, h2, h3, hA, h4, h5, h6⟩ := h.parts
  have c1 : w.cell? ⟨g, 1, none⟩ = some (.slice A es.length C) := by rw [cell_of_row _ _ _ _ _ _ h1]; rfl
  have hlt := has_lt hh
  obtain ⟨u, hu⟩ := has_iff.1 hh
  obtain ⟨p, hp⟩ : ∃ p, ps[place nm es]? = some p := ⟨_, List.getElem?_eq_getElem (by omega)⟩
  obtain ⟨b, rfl, c2⟩ := h6 _ _ hp
  have hpb := h3.get _ _ _ hp hu
  have c3 : w.cell? ⟨p, 1, none⟩ = some u := by rw [cell_of_row _ _ _ _ _ _ hpb]; rfl
  have z3 : w.frozen? ⟨p, 1, none⟩ = false := by simp [World.frozen?, hpb]
  obtain ⟨hfin, hfo, hft⟩ := ordIn_set (val := .int .i64 n) (by decide) (by decide) h h1 h2 h3 hA h4 hh hp
  have HFIN := Lib.hid hfin
  have HFO := Lib.hid hfo
  have HFT := Lib.hid hft
  clear hfin hfo hft hpb h hh hu h1 h2 h3 hA h4 h5 h6 hp
  generalize put nm (.int .i64 n) es = es2 at *
  generalize place nm es = k at *
  generalize es.length = m at *
  unfold ptr at hf c2 ⊢
  go_enter Try.func20, Try.ntmps20
  go_wp2_with fail
  refine hf.mono ?_
  rintro e w' ⟨rfl, rfl⟩
  go_wp2
  go_ret2
  exact ⟨rfl, HFIN.out, HFO.out, HFT.out⟩
set_option maxHeartbeats 4000000 in
set_option maxRecDepth 100000 in
theorem put_int_new_in (O : Nat → Prop) (g most : Nat) (es : List Ent) (nm : ByteArray) (n : Int) (w : World) (h : OrdIn O w 56 59 58 g most es) (hh : has nm es = false) (hroom : es.length < most) (hs : nm.size ≤ 140737488351232) :
    Calls Try.prog 20 #[ptr g, .string nm, .int .i64 n] w fun e w' => e = .returned (.tuple #[.bool true, .int .i64 0]) ∧ OrdIn (Grown O w w') w' 56 59 58 g most (put nm (.int .i64 n) es) ∧ Fr O w w' ∧ FrO 0 56 59 58 w w' := by
  have hf := find_int 0 g most es nm w h.at
  rw [hh] at hf
  have hl := fun n => len_int 0 g most es (w.drewN n) (h.at.fr0 ((Fr.refl _ _).drewN n))
  have hcl := fun n => clone nm (w.drewN n) hs
  obtain ⟨A, C, ps, h1, h2, h3, hA, h4, h5, h6⟩ := h.parts
  have c0 : w.cell? ⟨g, 0, none⟩ = some (.int .i64 (most : Int)) := by rw [cell_of_row _ _ _ _ _ _ h1]; rfl
  have hmb := h.big
  have hpl := place_le nm es
  have H1 := Lib.hid h1
  have H2 := Lib.hid h2
  have H3 := Lib.hid h3
  have H4 := Lib.hid h4
  have HA := Lib.hid hA
  have H := Lib.hid h
  have HH := Lib.hid hh
  clear h hh h1 h2 h3 hA h4 h6
  have a1 : ¬ (most : Int) ≤ (es.length : Int) := by omega
  have mixed : Try.prog.follows .mixedOrders = true := by kernel_rfl
  obtain ⟨k, hk⟩ : ∃ k, place nm es = k := ⟨_, rfl⟩
  obtain ⟨m, hm⟩ : ∃ m, es.length = m := ⟨_, rfl⟩
  have HK := Lib.hid hk
  have HM := Lib.hid hm
  rw [hk] at hf hpl
  simp only [hm] at hf hl hpl a1 h5 hroom H1 H2 HA
  clear hk hm
  unfold ptr at hf hl ⊢
  go_enter Try.func20, Try.ntmps20
  go_wp2_with fail
  refine hf.mono ?_
  rintro e w' ⟨rfl, rfl⟩
  go_wp2_with fail
  go_quiet (refine Calls.quiet_of_same (hl _))
  go_wp2_with fail
  refine (hcl _).mono ?_
  rintro e w1 ⟨rfl, hF1⟩
  have hF : Fr0 w' w1 := Fr.trans' ((Fr.refl _ w').drewN nq) hF1
  have hg1 := hF.heap H1.out (fun f => f)
  have c1 : w1.cell? ⟨g, 1, none⟩ = some (.slice A m C) := by rw [cell_of_row _ _ _ _ _ _ hg1]; rfl
  have hB1 : 0 ≤ w1.heap.size := Nat.zero_le _
  have hO1 := owns_fr hF H2.out (fun _ _ f => f)
  have hne : (Value.slice A m C).ownBlock ≠ some (w1.heap.size + 1) := fun e => by have := (World.ownsRow.lt hO1 _ e).2; omega
  have hins := insert_int_row 0 (.slice A m C) ps m k w1.heap.size (w1.heap.size + 1) ((w1.alloc (.cells #[.string nm, .int .i64 n] 58)).alloc (.cells #[ptr w1.heap.size] 59)) ((hO1.alloc _).alloc _) hpl (by omega) (Nat.zero_le _) (by have := heap_alloc_new (w1.alloc (.cells #[.string nm, .int .i64 n] 58)) (.cells #[ptr w1.heap.size] 59); simpa only [World.size_alloc] using this) hne
  have HF := Lib.hid hF
  clear hf hl hcl hF1 hg1 hO1 hne hF
  unfold ptr at hins
  go_wp2_with fail
  refine hins.mono ?_
  rintro e w4 ⟨v', rfl, hO, hI, hNR⟩
  obtain ⟨A', C', rfl⟩ := owns_slice hO
  obtain ⟨c4, z4, hOrd, hFo, hFt⟩ := ordIn_insert (val := .int .i64 n) (by decide) (by decide) (by decide) H.out H1.out H2.out H3.out HA.out H4.out HM.out HK.out HH.out hroom HF.out hI hO hNR
  have HOrd := Lib.hid hOrd
  have HFo := Lib.hid hFo
  have HFt := Lib.hid hFt
  clear hOrd hFo hFt hO hI hNR
  go_wp2
  go_ret2
  exact ⟨rfl, HOrd.out, HFo.out, HFt.out⟩
set_option maxHeartbeats 4000000 in
set_option maxRecDepth 100000 in
theorem drop_int_some_in (O : Nat → Prop) (g most : Nat) (es : List Ent) (nm : ByteArray) (w : World) (h : OrdIn O w 56 59 58 g most es) (hh : has nm es = true) :
    Calls Try.prog 22 #[ptr g, .string nm] w fun e w' => e = .returned (.bool true) ∧ OrdIn O w' 56 59 58 g most (drop nm es) ∧ Fr O w w' ∧ FrO 0 56 59 58 w w' := by
  have hf := find_int 0 g most es nm w h.at
  rw [hh] at hf
  obtain ⟨A, C, ps, h1, h2, h3, hA, h4, h5, h6⟩ := h.parts
  have c1 : w.cell? ⟨g, 1, none⟩ = some (.slice A es.length C) := by rw [cell_of_row _ _ _ _ _ _ h1]; rfl
  have hmb := h.big
  have hle := h.le
  have hlt := has_lt hh
  have hdel := delete_int 0 (.slice A es.length C) ps (place nm es) w (by rw [h5]; exact h2) (by omega) (by omega)
  rw [h5] at hdel
  have H1 := Lib.hid h1
  have H2 := Lib.hid h2
  have H3 := Lib.hid h3
  have H4 := Lib.hid h4
  have HA := Lib.hid hA
  have H := Lib.hid h
  have HH := Lib.hid hh
  clear h hh h1 h2 h3 hA h4 h6
  obtain ⟨k, hk⟩ : ∃ k, place nm es = k := ⟨_, rfl⟩
  obtain ⟨m, hm⟩ : ∃ m, es.length = m := ⟨_, rfl⟩
  have HK := Lib.hid hk
  have HM := Lib.hid hm
  rw [hk] at hf hlt hdel
  simp only [hm] at hf hlt h5 c1 hdel hle H1 H2 HA
  clear hk hm
  have hw : IntKind.i64.wrap ((k : Int) + 1) = (k : Int) + 1 := by rw [IntKind.wrap_i64]; omega
  unfold ptr at hf ⊢
  go_enter Try.func22, Try.ntmps22
  go_wp2_with fail
  refine hf.mono ?_
  rintro e w' ⟨rfl, rfl⟩
  go_wp2_with fail
  refine hdel.mono ?_
  rintro e w4 ⟨v', rfl, hO, hI, hSB⟩
  obtain ⟨A', C', rfl⟩ := owns_slice hO
  obtain ⟨c4, z4, hOrd, hFo, hFt⟩ := ordIn_delete (by decide) (by decide) (by decide) H.out H1.out H2.out H3.out HA.out H4.out HM.out HK.out HH.out hI hO hSB
  have HOrd := Lib.hid hOrd
  have HFo := Lib.hid hFo
  have HFt := Lib.hid hFt
  clear hOrd hFo hFt hO hI hSB
  go_wp2
  go_ret
  exact ⟨rfl, HOrd.out, HFo.out, HFt.out⟩
end Go.Proofs.Ytnglmkombogheaa.Ord
