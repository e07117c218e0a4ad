/-
  The program's index: what turns it.
-/
import Derived.Test.YtnglmkombogheaaIndexGoA
namespace Go.Proofs.Ytnglmkombogheaa.Index
open Go.RowKit Base
open _root_.Go.Proofs.Ytnglmkombogheaa.Ord (Ent ptr Sorted Grown OrdIn FrO Mine held setCells_at fr_setCells)

theorem trim_is {L : List En} {m : Nat} (hm : m ≤ L.length) (h : ∀ j, m ≤ j → gap (L.getD j zeroE) = true) (h0 : m = 0 ∨ gap (L.getD (m - 1) zeroE) = false) : m = (trim L).length ∧ trim L = L.take m := by
  obtain ⟨n, h1, h2, h3, h4⟩ := trim_pre L
  have e : m = n := by
    rcases Nat.lt_trichotomy m n with k | k | k
    · rcases h4 with h4 | h4
      · omega
      · rw [h (n - 1) (by omega)] at h4; cases h4
    · exact k
    · rcases h0 with h0 | h0
      · omega
      · rw [h3 (m - 1) (by omega)] at h0; cases h0
  subst e
  exact ⟨by rw [h1, List.length_take]; omega, h1⟩
set_option maxHeartbeats 4000000 in
/-- empty rows at the end go; an index whose last row may be empty -/
theorem icut_any (g o : Nat) (A : Option Addr) (C : Nat) (L : List En) (w : World) (hrow : w.heap[g]? = some (.cells #[.slice A L.length C, ptr o] 50 (0, 0))) (hown : w.ownsRow 0 28 5 (.slice A L.length C) L.length (ecells L)) (hle : L.length ≤ 4096) :
    Calls Try.prog 23 #[ptr g] w fun e w' => e = .returned (.tuple #[]) ∧ w' = w.setCell ⟨g, 0, none⟩ (.slice A (trim L).length C) := by
  have c0 : w.cell? ⟨g, 0, none⟩ = some (.slice A L.length C) := by rw [cell_of_row _ _ _ _ _ _ hrow]; rfl
  have z0 : w.frozen? ⟨g, 0, none⟩ = false := by simp [World.frozen?, hrow]
  have hcap : L.length ≤ C := by
    rcases hown.2 with ⟨hx, h0⟩ | ⟨b, cap, cur, hx, hb, hg, hc, _⟩
    · simp only [Value.slice.injEq] at hx; omega
    · cases hx; exact hc
  have HK : Hid (∀ i, i < L.length → ∃ b, A = some ⟨b, 0, none⟩ ∧ w.cell? ⟨b, i * 5, none⟩ = some (.string (L.getD i zeroE).k)) := Lib.hid (fun i hi => by
    rcases hown.2 with ⟨_, h0⟩ | ⟨b, cap, cur, hv, hb, hgb, hc, hm, hs, ht⟩
    · omega
    · cases hv
      refine ⟨b, rfl, ?_⟩
      have h1 := ecells_get L (i * 5 + 0) (by omega)
      rw [cellE_at L i 0 (by decide), show (e5 (L.getD i zeroE)).getD 0 undef = .string (L.getD i zeroE).k from rfl, ← ht, List.getElem?_take, if_pos (by omega)] at h1
      rw [cell_of_row _ _ _ _ _ _ hgb]
      simpa using h1)
  have HT : Hid (∀ m, m ≤ L.length → (∀ j, m ≤ j → gap (L.getD j zeroE) = true) → (m = 0 ∨ gap (L.getD (m - 1) zeroE) = false) → m = (trim L).length) := Lib.hid (fun m hm h h0 => (trim_is hm h h0).1)
  have H0 : Hid (∀ j, L.length ≤ j → gap (L.getD j zeroE) = true) := Lib.hid (fun j hj => by
    rw [List.getD_eq_getElem?_getD, List.getElem?_eq_none hj]; rfl)
  have hcut := fun (m : Nat) (hm : m ≤ C) (wx : World) => cut_hi_of (P := Try.prog) 48 28 Try.underlying48 5 infoE A L.length C m hm (m : Int) rfl wx
  clear hrow hown
  obtain ⟨n, hn⟩ : ∃ n, n = L.length := ⟨_, rfl⟩
  rw [← hn] at c0 hcap hle HK HT H0 hcut
  clear hn
  unfold ptr at *
  go_enter Try.func23, Try.ntmps23
  go_wp2_with fail
  go_loopg [2] n (fun kx vm wr => ∃ (m : Nat), vm = .int .i64 (m : Int) ∧ m ≤ n ∧ m ≤ kx ∧ Hid (∀ j, m ≤ j → gap (L.getD j zeroE) = true) ∧ w = wr)
  case atStart => exact ⟨n, rfl, Nat.le_refl _, Nat.le_refl _, H0, rfl⟩
  case round =>
    obtain ⟨m, rfl, hm, hk, HG, rfl⟩ := hrel
    rcases m with _ | i
    · have HE := Lib.hid (HT.out 0 (Nat.zero_le _) HG.out (.inl rfl))
      have hc := hcut 0 (Nat.zero_le _)
      clear hcut HT HG HK H0
      go_wp2
      go_end0
      exact ⟨rfl, by rw [← HE.out]⟩
    · obtain ⟨b, rfl, k0⟩ := HK.out i (by omega)
      have hE := gap_raw (L.getD i zeroE)
      have i1 : (0 : Int) < ((i + 1 : Nat) : Int) := by omega
      have i2 : wrap64 (((i + 1 : Nat) : Int) - 1) = (i : Int) := by simp only [wrap64]; omega
      have i3 : (i : Int) < (n : Int) := by omega
      have HX := Lib.hid (HT.out (i + 1) hm HG.out)
      have hc := hcut (i + 1) (by omega)
      cases hg : gap (L.getD i zeroE) with
      | true =>
        rw [hg] at hE
        have HG2 : Hid (∀ j, i ≤ j → gap (L.getD j zeroE) = true) := Lib.hid (fun j hj => by
          rcases Nat.lt_or_eq_of_le hj with h1 | rfl
          · exact HG.out j h1
          · exact hg)
        clear hcut HT HG HK H0 hg HX hc
        generalize L.getD i zeroE = q at *
        go_wp2

        go_roundg i
        case measure => omega
        case rel => exact ⟨i, by simp, by omega, by omega, HG2, rfl⟩
      | false =>
        rw [hg] at hE
        have HE := Lib.hid (HX.out (.inr hg))
        clear hcut HT HG HK H0 hg HX
        generalize L.getD i zeroE = q at *
        go_wp2
        go_end0
        exact ⟨rfl, by rw [← HE.out]⟩
/-! the rows while they turn -/
structure Rw (w : World) (g o : Nat) (A : Option Addr) (C : Nat) (L : List En) : Prop where
  row : w.heap[g]? = some (.cells #[.slice A L.length C, ptr o] 50 (0, 0))
  own : w.ownsRow 0 28 5 (.slice A L.length C) L.length (ecells L)
section
variable {w : World} {g o : Nat} {A : Option Addr} {C : Nat} {L : List En}
theorem Rw.fr {S : Nat → Prop} {w' : World} (h : Rw w g o A C L) (hf : Fr S w w') (hg : ¬ S g) (hb : ∀ b, (Value.slice A L.length C).ownBlock = some b → ¬ S b) : Rw w' g o A C L :=
  ⟨hf.heap h.row hg, ownsFr hf h.own hb⟩
theorem Rw.fr0 {w' : World} (h : Rw w g o A C L) (hf : Fr0 w w') : Rw w' g o A C L := h.fr hf (fun f => f) (fun _ _ f => f)
theorem Rw.frO {w' : World} (h : Rw w g o A C L) (hf : FrO 0 56 59 58 w w') : Rw w' g o A C L :=
  ⟨hf.cells h.row ⟨by decide, by decide, by decide⟩, hf.owns h.own ⟨by decide, by decide, by decide⟩⟩
theorem Rw.c0 (h : Rw w g o A C L) : w.cell? ⟨g, 0, none⟩ = some (.slice A L.length C) := by rw [cell_of_row _ _ _ _ _ _ h.row]; rfl
theorem Rw.c1 (h : Rw w g o A C L) : w.cell? ⟨g, 1, none⟩ = some (ptr o) := by rw [cell_of_row _ _ _ _ _ _ h.row]; rfl
theorem Rw.z0 (h : Rw w g o A C L) (k : Nat) : w.frozen? ⟨g, k, none⟩ = false := by simp [World.frozen?, h.row]
theorem Rw.lt (h : Rw w g o A C L) : g < w.heap.size := (Array.getElem?_eq_some_iff.1 h.row).1
/-- its row's block -/
theorem Rw.blk {b : Nat} (h : Rw w g o (some ⟨b, 0, none⟩) C L) : g ≠ b ∧ ∃ cs, w.heap[b]? = some (.cells cs 28 (0, 0)) ∧ L.length * 5 ≤ cs.size := by
  rcases h.own.2 with ⟨hv, _⟩ | ⟨b', cap, cur, hv, hb, hgb, hc, hm, hs, ht⟩
  · cases hv
  · cases hv
    refine ⟨fun e => ?_, cur, hgb, by rw [hs]; exact Nat.mul_le_mul_right _ hc⟩
    have h1 := h.row
    rw [e, hgb] at h1
    simp only [Option.some.injEq, Obj.cells.injEq] at h1
    exact absurd h1.2.1 (by decide)
theorem Rw.has_blk (h : Rw w g o A C L) {i : Nat} (hi : i < L.length) : ∃ b, A = some ⟨b, 0, none⟩ := by
  rcases h.own.2 with ⟨hv, h0⟩ | ⟨b', cap, cur, hv, _⟩
  · omega
  · cases hv; exact ⟨_, rfl⟩
theorem Rw.there {b : Nat} (h : Rw w g o (some ⟨b, 0, none⟩) C L) (i : Nat) (hi : i < L.length) : w.there b (i * 5) 5 := fun j hj => by
  obtain ⟨_, cs, hb, hl⟩ := h.blk
  refine ⟨?_, by simp [World.frozen?, hb]⟩
  rw [cell_of_row _ _ _ _ _ _ hb, Array.getElem?_eq_getElem (by omega)]
  rfl
/-- an entry is stored into row i -/
theorem Rw.store {b : Nat} (h : Rw w g o (some ⟨b, 0, none⟩) C L) (i : Nat) (hi : i < L.length) (e : En) : Rw (w.setCells b (i * 5) (e5 e).toList) g o (some ⟨b, 0, none⟩) C (L.set i e) ∧ Fr (fun k => k = b) w (w.setCells b (i * 5) (e5 e).toList) := by
  have hF : Fr (fun k => k = b) w (w.setCells b (i * 5) (e5 e).toList) := fr_setCells (S := fun k => k = b) (fun _ => rfl) _ _ _ (Fr.refl _ _)
  have h5 : (e5 e).toList.length = 5 := rfl
  refine ⟨⟨?_, ?_⟩, hF⟩
  · rw [List.length_set]
    exact hF.heap h.row h.blk.1
  · have h1 := owns_store h.own (i * 5) (e5 e).toList (by rw [h5]; omega)
    rw [h5, ← ecells_set L i e hi] at h1
    rw [List.length_set]
    exact h1
theorem Rw.mark {b : Nat} (h : Rw w g o (some ⟨b, 0, none⟩) C L) (i : Nat) (hi : i < L.length) (u : Bool) : Rw (w.setCell ⟨b, i * 5 + 4, none⟩ (.bool u)) g o (some ⟨b, 0, none⟩) C (L.set i { L.getD i zeroE with u := u }) ∧ Fr (fun k => k = b) w (w.setCell ⟨b, i * 5 + 4, none⟩ (.bool u)) := by
  have hF : Fr (fun k => k = b) w (w.setCell ⟨b, i * 5 + 4, none⟩ (.bool u)) := Fr.setCell (S := fun k => k = b) (Fr.refl _ _) (p := ⟨b, i * 5 + 4, none⟩) (fun _ => rfl) _
  refine ⟨⟨?_, ?_⟩, hF⟩
  · rw [List.length_set]
    exact hF.heap h.row h.blk.1
  · have h1 := owns_store h.own (i * 5 + 4) [.bool u] (by rw [List.length_singleton]; omega)
    rw [List.length_singleton, show i * 5 + 4 + 1 = i * 5 + 5 from rfl, ← ecells_mark L i u hi] at h1
    rw [List.length_set]
    exact h1
/-- another slice in its place -/
theorem Rw.head (h : Rw w g o A C L) {A' : Option Addr} {C' : Nat} {L' : List En} (hown : w.ownsRow 0 28 5 (.slice A' L'.length C') L'.length (ecells L')) :
    Rw (w.setCell ⟨g, 0, none⟩ (.slice A' L'.length C')) g o A' C' L' ∧ Fr (fun k => k = g) w (w.setCell ⟨g, 0, none⟩ (.slice A' L'.length C')) := by
  have hF : Fr (fun k => k = g) w (w.setCell ⟨g, 0, none⟩ (.slice A' L'.length C')) := Fr.setCell (S := fun k => k = g) (Fr.refl _ _) (p := ⟨g, 0, none⟩) (fun _ => rfl) _
  refine ⟨⟨Ord.heap_setCell h.row _, ownsFr hF hown fun b hb e => ?_⟩, hF⟩
  have e' : b = g := e
  subst e'
  obtain ⟨_, cs, hc⟩ := Ord.owns_heap hown hb
  rw [h.row] at hc
  simp only [Option.some.injEq, Obj.cells.injEq] at hc
  exact absurd hc.2.1 (by decide)
theorem Rw.cut (h : Rw w g o A C L) : Rw (w.setCell ⟨g, 0, none⟩ (.slice A (trim L).length C)) g o A C (trim L) ∧ Fr (fun k => k = g) w (w.setCell ⟨g, 0, none⟩ (.slice A (trim L).length C)) := by
  refine h.head ?_
  obtain ⟨n, h1, h2, _, _⟩ := trim_pre L
  rw [h1, ecells_take L n h2, List.length_take, Nat.min_eq_left h2]
  exact owns_cut h.own h2
end
theorem IxIn.rw {O : Nat → Prop} {w : World} {g o : Nat} {A : Option Addr} {C : Nat} {L : List En} {es : List Ent} (h : IxIn O w g o A C L es) : Rw w g o A C L := ⟨h.row, h.own⟩
theorem set_row {L : List En} {i : Nat} {b : Bool} (h : isRow L (i : Int) = true) : setSt L (i : Int) b = L.set i { L.getD i zeroE with u := b } := by
  unfold setSt
  rw [if_pos h, Int.toNat_natCast]
theorem set_none {L : List En} {r : Int} {b : Bool} (h : isRow L r = false) : setSt L r b = L := by
  unfold setSt
  rw [h]
  rfl
/-- a marked row -/
theorem IxIn.mark {O : Nat → Prop} {w : World} {g o b : Nat} {C : Nat} {L : List En} {es : List Ent} (h : IxIn O w g o (some ⟨b, 0, none⟩) C L es) (i : Nat) (hi : i < L.length) (u : Bool) : IxIn O (w.setCell ⟨b, i * 5 + 4, none⟩ (.bool u)) g o (some ⟨b, 0, none⟩) C (L.set i { L.getD i zeroE with u := u }) es ∧ Fr O w (w.setCell ⟨b, i * 5 + 4, none⟩ (.bool u)) := by
  obtain ⟨hr, hF⟩ := h.rw.mark i hi u
  obtain ⟨_, cs, hb, _⟩ := h.rw.blk
  have hO : O b := h.hA b rfl
  refine ⟨⟨hr.row, hr.own, h.hg, fun k hk => h.hA k (by cases hk; rfl), ordIn_kind h.ord hF fun k hm e => ?_, h.keys.mark u hi⟩, hF.mono fun k _ e => ?_⟩
  · have e' : k = b := e
    subst e'
    exact not_mine hb ⟨by decide, by decide, by decide⟩ hm
  · have e' : k = b := e
    rw [e']
    exact hO
def ISetPost (O : Nat → Prop) (g : Nat) (L : List En) (r : Int) (b : Bool) (w : World) (e : Ending) (w' : World) : Prop :=
  e = .returned (.bool (isRow L r)) ∧ Fr O w w' ∧ IxAt (Grown O w w') w' g (setSt L r b)
set_option maxHeartbeats 4000000 in
theorem iset_is (O : Nat → Prop) (g : Nat) (L : List En) (r : Int) (hr : inI64 r) (b : Bool) (w : World) (h : IxAt O w g L) :
    Calls Try.prog 11 #[ptr g, .int .i64 r, .bool b] w (ISetPost O g L r b w) := by
  have HAT := Lib.hid (iat_any O g L r hr w h)
  cases hx : isRow L r with
  | false =>
    have HE : Hid (∀ w', Fr0 w w' → ISetPost O g L r b w (.returned (.bool false)) w') := Lib.hid (fun w' hf => ⟨by rw [hx], hf.zero, by rw [set_none hx]; exact (h.fr hf (fun _ _ _ f => f)).mono (fun _ hk => .inl hk)⟩)
    rw [hx] at HAT
    generalize hPT : ISetPost O g L r b w = post at *
    generalize atX L r = q at *
    unfold e5 at HAT
    clear hPT h hx
    unfold ptr at *
    go_enter Try.func11, Try.ntmps11
    go_wp2_with fail
    refine HAT.out.mono ?_
    rintro e w1 ⟨rfl, hF⟩
    have HX := Lib.hid (HE.out (w1.alloc (.cells #[.string q.k, .string q.s, .int .i64 q.id, .int .i64 q.sz, .bool q.u] 28)) (hF.trans' ((Fr.refl _ _).alloc _)))
    clear HAT HE hF
    go_wp2
    exact HX.out
  | true =>
    obtain ⟨i, rfl, hi, hgp⟩ := isRow_iff.1 hx
    obtain ⟨ho, o, A, C, es, hp⟩ := h
    obtain ⟨bb, rfl⟩ := hp.rw.has_blk hi
    have HP := Lib.hid hp
    have c0 := hp.c0
    have hgl := hp.lt
    have HE : Hid (∀ w2, Fr0 w w2 → ISetPost O g L (i : Int) b w (.returned (.bool true)) (w2.setCell ⟨bb, i * 5 + 4, none⟩ (.bool b))) := Lib.hid (fun w2 hf => by
      obtain ⟨h1, h2⟩ := (hp.fr0 hf).mark i hi b
      exact ⟨by rw [hx], hf.zero.trans' h2, ho.set _ _, o, _, C, es, by rw [set_row hx]; exact h1.mono (fun _ hk => .inl hk)⟩)
    rw [hx] at HAT
    generalize hPT : ISetPost O g L (i : Int) b w = post at *
    generalize atX L (i : Int) = q at *
    have i1 : (i : Int) < (L.length : Int) := by omega
    have hle := ho.le
    unfold e5 at HAT
    have HAB : Hid (∀ w2, Fr0 w w2 → w2.cell? ⟨g, 0, none⟩ = some (.slice (some ⟨bb, 0, none⟩) L.length C) ∧ ∃ v, w2.cell? ⟨bb, i * 5 + 4, none⟩ = some v ∧ w2.frozen? ⟨bb, i * 5 + 4, none⟩ = false) := Lib.hid (fun w2 hf => by
      obtain ⟨b', hb', -, -, ⟨cs, hcs, -⟩, -, -, -, -, k4⟩ := (hp.fr0 hf).at i hi
      cases hb'
      exact ⟨(hp.fr0 hf).c0, _, k4, by simp [World.frozen?, hcs]⟩)
    clear hPT hx hp ho hgp HP c0 hgl
    generalize L.length = n at *
    unfold ptr at *
    go_enter Try.func11, Try.ntmps11
    go_wp2_with fail
    refine HAT.out.mono ?_
    rintro e w1 ⟨rfl, hF⟩
    have hF2 := hF.trans' ((Fr.refl (fun _ => False) w1).alloc (.cells #[.string q.k, .string q.s, .int .i64 q.id, .int .i64 q.sz, .bool q.u] 28))
    obtain ⟨c0, v, k4, z4⟩ := HAB.out _ hF2
    have HX := Lib.hid (HE.out _ hF2)
    clear HAT HE hF hF2 HAB
    go_wp2
    exact HX.out
theorem iset_any (O : Nat → Prop) (g : Nat) (L : List En) (r : Int) (hr : inI64 r) (b : Bool) (w : World) (h : IxAt O w g L) :
    Calls Try.prog 11 #[ptr g, .int .i64 r, .bool b] w fun e w' => e = .returned (.bool (isRow L r)) ∧ Fr O w w' ∧ IxAt (Grown O w w') w' g (setSt L r b) := iset_is O g L r hr b w h
end Go.Proofs.Ytnglmkombogheaa.Index
