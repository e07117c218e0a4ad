/-
  How two holds of each side come to be; what is asked of them.
-/
import Derived.Test.YtkdpdbjefehmpaaHoldTwo
namespace Go.Proofs.Ytkdpdbjefehmpaa.Hold
open Go.RowKit Base Go.Maps Arena
open Blocks (BlkR whole whole_le frees nints nvals tout took terr give gave gerr)

section
variable {nP nR : Nat} {w0 w w' : World} {Ex Ex' : Nat → Prop} {c : Cs} {s t : Vs} {i : Nat}
/-- neither has a hold yet -/
theorem two_start (c : Cs) (s t : Vs) (ha : AreP w w0.heap.size c.ga c.pb c.cb c.L s.b) (hr : AreR w w0.heap.size c.wa c.wb c.wc c.L t.b) (hne : (c.wa ≠ c.pb ∧ c.wb ≠ c.pb ∧ c.wc ≠ c.pb) ∧ (c.ga ≠ c.wb ∧ c.pb ≠ c.wb ∧ c.cb ≠ c.wb)) : Two 0 0 w0 w (fun _ => False) c s t :=
  ⟨fun _ => 0, fun _ h => absurd h (Nat.not_lt_zero _), fun _ h => absurd h (Nat.not_lt_zero _), fun _ _ => rfl, fun _ _ => rfl, fun _ h => h.elim, ha, hr, ⟨⟨rfl, rfl, rfl⟩, rfl, rfl, rfl⟩, hne, fun _ h => absurd h (Nat.not_lt_zero _), fun _ h => absurd h (Nat.not_lt_zero _), Nat.zero_le _, Nat.zero_le _⟩
theorem TwoC.newP {col : Nat → Nat} {n g xg ob mb : Nat} (h : TwoC col n nR w0 w Ex c s t) (hn : n < c.L.length) (hf : Fr0 w w') (ho : HoldP w' (fun j => w.heap.size ≤ j) n c.ga g xg ob mb (s.O n) (s.p n) (s.es n)) (hg : Good c.L n s.b (s.O n) (s.p n) (s.es n)) :
    Two (n + 1) nR w0 w' Ex { c with G := upd c.G n g } s t := by
  have hsz := hf.size
  have a1 := h.arP.g_lt
  have a2 := h.arP.pb_lt
  have a3 := h.arP.cb_lt
  have b1 := h.arR.g_lt
  have b2 := h.arR.pb_lt
  have b3 := h.arR.cb_lt
  obtain ⟨⟨c1, c2, c3⟩, c4, c5, c6⟩ := h.c6
  have hlt : ∀ {k j : Nat}, col j = k + 1 → j < w.heap.size := fun {k j} e => by
    by_cases hj : w.heap.size ≤ j
    · have := h.hi j hj; omega
    · omega
  have hb0 : w0.heap.size ≤ w.heap.size := by have := h.arP.gB; omega
  refine ⟨paint col w.heap.size w'.heap.size (2 * n + 1), fun k hk => ?_, fun k hk => ?_, fun j hj => (paint_hi hj).trans (h.hi j (by omega)), fun j hj => (paint_lo (by omega)).trans (h.lo j hj), fun j hj => ?_, h.arP.fr0 hf, h.arR.fr0 hf,
    ⟨⟨(paint_lo a1).trans c1, (paint_lo a2).trans c2, (paint_lo a3).trans c3⟩, (paint_lo b1).trans c4, (paint_lo b2).trans c5, (paint_lo b3).trans c6⟩, h.ne, fun k hk => ?_, h.gR, ⟨hn, h.nL.2⟩⟩
  · by_cases hki : k = n
    · subst hki
      refine ⟨xg, ob, mb, ?_⟩
      simp only [upd_self]
      exact ho.mono (fun j hj hh => paint_in hh hj)
    · obtain ⟨xg', ob', mb', hp⟩ := h.hP k (by omega)
      refine ⟨xg', ob', mb', ?_⟩
      simp only [upd_ne _ _ hki]
      exact (hp.fr0 hf).mono (fun j _ hh => (paint_lo (hlt hh)).trans hh)
  · obtain ⟨xg', ob', v', hp⟩ := h.hR k hk
    exact ⟨xg', ob', v', (hp.fr0 hf).mono (fun j _ hh => (paint_lo (hlt (k := 2 * k + 1) hh)).trans hh)⟩
  · obtain ⟨e1, e2, e3⟩ := h.ex j hj
    exact ⟨(paint_lo e2).trans e1, by omega, e3⟩
  · by_cases hki : k = n
    · subst hki; exact hg
    · exact h.gP k (by omega)
theorem TwoC.newR {col : Nat → Nat} {n g xg ob : Nat} {v : Value} (h : TwoC col nP n w0 w Ex c s t) (hn : n < c.L.length) (hf : Fr0 w w') (ho : HoldR w' (fun j => w.heap.size ≤ j) n c.wa g xg ob v (t.O n) (t.p n) (t.es n)) (hg : Good c.L n t.b (t.O n) (t.p n) (t.es n)) :
    Two nP (n + 1) w0 w' Ex { c with V := upd c.V n g } s t := by
  have hsz := hf.size
  have a1 := h.arP.g_lt
  have a2 := h.arP.pb_lt
  have a3 := h.arP.cb_lt
  have b1 := h.arR.g_lt
  have b2 := h.arR.pb_lt
  have b3 := h.arR.cb_lt
  obtain ⟨⟨c1, c2, c3⟩, c4, c5, c6⟩ := h.c6
  have hlt : ∀ {k j : Nat}, col j = k + 1 → j < w.heap.size := fun {k j} e => by
    by_cases hj : w.heap.size ≤ j
    · have := h.hi j hj; omega
    · omega
  have hb0 : w0.heap.size ≤ w.heap.size := by have := h.arP.gB; omega
  refine ⟨paint col w.heap.size w'.heap.size (2 * n + 2), fun k hk => ?_, fun k hk => ?_, fun j hj => (paint_hi hj).trans (h.hi j (by omega)), fun j hj => (paint_lo (by omega)).trans (h.lo j hj), fun j hj => ?_, h.arP.fr0 hf, h.arR.fr0 hf,
    ⟨⟨(paint_lo a1).trans c1, (paint_lo a2).trans c2, (paint_lo a3).trans c3⟩, (paint_lo b1).trans c4, (paint_lo b2).trans c5, (paint_lo b3).trans c6⟩, h.ne, h.gP, fun k hk => ?_, ⟨h.nL.1, hn⟩⟩
  · obtain ⟨xg', ob', mb', hp⟩ := h.hP k hk
    exact ⟨xg', ob', mb', (hp.fr0 hf).mono (fun j _ hh => (paint_lo (hlt (k := 2 * k) hh)).trans hh)⟩
  · by_cases hki : k = n
    · subst hki
      refine ⟨xg, ob, v, ?_⟩
      simp only [upd_self]
      exact ho.mono (fun j hj hh => paint_in hh hj)
    · obtain ⟨xg', ob', v', hp⟩ := h.hR k (by omega)
      refine ⟨xg', ob', v', ?_⟩
      simp only [upd_ne _ _ hki]
      exact (hp.fr0 hf).mono (fun j _ hh => (paint_lo (hlt (k := 2 * k + 1) hh)).trans hh)
  · obtain ⟨e1, e2, e3⟩ := h.ex j hj
    exact ⟨(paint_lo e2).trans e1, by omega, e3⟩
  · by_cases hki : k = n
    · subst hki; exact hg
    · exact h.gR k (by omega)
/-- both sides before any call -/
def Vs.start (L : List Int) (b : List UInt8) : Vs := ⟨b, fun i => List.replicate (whole (L.getD i 0)) false, fun _ => 0, fun _ => []⟩
theorem two_newP {n : Nat} {b : List UInt8} (h : Two n nR w0 w Ex c (Vs.start c.L b) t) (hn : n < c.L.length) :
    Calls Try.prog 9 #[ptr c.ga, .int .i64 (n : Int)] w fun e w' => ∃ g, e = .returned (.tuple #[ptr g, .int .i64 0]) ∧ Two (n + 1) nR w0 w' Ex { c with G := upd c.G n g } (Vs.start c.L b) t ∧ Fr0 w w' := by
  obtain ⟨col, h⟩ := h
  have hs := cut_succ c.L n hn
  have e1 : cut c.L (n + 1) - cut c.L n = c.L.getD n 0 := by omega
  have hp := h.arP.fits.pos n hn
  refine (new_in w0.heap.size c.ga c.pb c.cb c.L _ n w h.arP hn).mono ?_
  rintro e w' ⟨g, xg, ob, mb, rfl, ho, hf⟩
  rw [e1] at ho
  exact ⟨g, rfl, h.newP hn hf ho (Good.start (whole_room hp)), hf⟩
theorem two_newR {n : Nat} {b : List UInt8} (h : Two nP n w0 w Ex c s (Vs.start c.L b)) (hn : n < c.L.length) :
    Calls Try.prog 19 #[ptr c.wa, .int .i64 (n : Int)] w fun e w' => ∃ g, e = .returned (.tuple #[ptr g, .int .i64 0]) ∧ Two nP (n + 1) w0 w' Ex { c with V := upd c.V n g } s (Vs.start c.L b) ∧ Fr0 w w' := by
  obtain ⟨col, h⟩ := h
  have hs := cut_succ c.L n hn
  have e1 : cut c.L (n + 1) - cut c.L n = c.L.getD n 0 := by omega
  have hp := h.arP.fits.pos n hn
  refine (rnew_in w0.heap.size c.wa c.wb c.wc c.L _ n w h.arR hn).mono ?_
  rintro e w' ⟨g, xg, ob, rfl, ho, hf⟩
  rw [e1] at ho
  exact ⟨g, rfl, h.newR hn hf ho (Good.start (whole_room hp)), hf⟩
/-! what is asked -/
theorem two_arP (h : Two nP nR w0 w Ex c s t) : AreP w w0.heap.size c.ga c.pb c.cb c.L s.b := by obtain ⟨col, h⟩ := h; exact h.arP
theorem two_arR (h : Two nP nR w0 w Ex c s t) : AreR w w0.heap.size c.wa c.wb c.wc c.L t.b := by obtain ⟨col, h⟩ := h; exact h.arR
theorem two_ex (h : Two nP nR w0 w Ex c s t) {j : Nat} (hj : Ex j) : j < w.heap.size := by obtain ⟨col, h⟩ := h; exact (h.ex j hj).2.1
theorem two_O (h : Two nP nR w0 w Ex c s t) (hi : i < nP) : (s.O i).length ≤ 2048 := by
  obtain ⟨col, h⟩ := h
  obtain ⟨xg, ob, mb, hh⟩ := h.hP i hi
  exact hh.blk.len
theorem two_ids (h : Two nP nR w0 w Ex c s t) (hi : i < nP) : (ids (s.es i)).length ≤ s.p i ∧ ∀ n ∈ ids (s.es i), 1 ≤ n ∧ n ≤ (s.p i : Int) := by
  obtain ⟨col, h⟩ := h
  obtain ⟨xg, ob, mb, hh⟩ := h.hP i hi
  refine ⟨by rw [show (ids (s.es i)).length = (s.es i).length by simp [ids]]; exact ids_length hh.rise (h.gP i hi).pos hh.top, fun n hn => ?_⟩
  obtain ⟨e, he, rfl⟩ := List.mem_map.1 hn
  exact ⟨(h.gP i hi).pos e he, hh.top e he⟩
theorem two_liveP (h : Two nP nR w0 w Ex c s t) (hi : i < nP) : Calls Try.prog 16 #[ptr (c.G i)] w fun e w' => e = .returned (.int .i64 (live (s.es i) : Int)) ∧ Fr0 w w' := by
  obtain ⟨col, h⟩ := h
  obtain ⟨xg, ob, mb, hh⟩ := h.hP i hi
  have h1 := (h.gP i hi).live
  have h2 := hh.blk.len
  exact live_any _ i c.ga (c.G i) xg ob mb (s.O i) (s.p i) (s.es i) (by omega) w hh
theorem two_roomP (h : Two nP nR w0 w Ex c s t) (hi : i < nP) : Calls Try.prog 17 #[ptr (c.G i)] w fun e w' => e = .returned (.int .i64 (32 * ((frees (s.O i)).length : Int))) ∧ Fr0 w w' := by
  obtain ⟨col, h⟩ := h
  obtain ⟨xg, ob, mb, hh⟩ := h.hP i hi
  have := room_any _ i c.ga (c.G i) xg ob mb (s.O i) (s.p i) (s.es i) w hh
  rwa [Int.mul_comm] at this
theorem two_listP (h : Two nP nR w0 w Ex c s t) (hi : i < nP) (hp : s.p i ≤ 1000000) : Calls Try.prog 15 #[ptr (c.G i)] w (IntsPost (ids (s.es i)) w) := by
  obtain ⟨col, h⟩ := h
  obtain ⟨xg, ob, mb, hh⟩ := h.hP i hi
  exact list_any _ i c.ga (c.G i) xg ob mb (s.O i) (s.p i) (s.es i) (good_len (h.gP i hi) hh.rise hh.top hp) w hh
theorem two_liveR (h : Two nP nR w0 w Ex c s t) (hi : i < nR) (hp : t.p i ≤ 1000000) : Calls Try.prog 23 #[ptr (c.V i)] w fun e w' => e = .returned (.int .i64 (live (t.es i) : Int)) ∧ Fr0 w w' := by
  obtain ⟨col, h⟩ := h
  obtain ⟨xg, ob, v, hh⟩ := h.hR i hi
  have h1 := (h.gR i hi).live
  have h2 := hh.blk.len
  refine (rlive_any _ i c.wa (c.V i) xg ob v (t.O i) (t.p i) (t.es i) (by omega) (good_len (h.gR i hi) hh.rise hh.top hp) w hh).mono ?_
  rintro e w' ⟨rfl, rfl⟩
  exact ⟨rfl, Fr.refl _ _⟩
theorem two_listR (h : Two nP nR w0 w Ex c s t) (hi : i < nR) (hp : t.p i ≤ 1000000) : Calls Try.prog 25 #[ptr (c.V i)] w (IntsPost (ids (t.es i)) w) := by
  obtain ⟨col, h⟩ := h
  obtain ⟨xg, ob, v, hh⟩ := h.hR i hi
  exact rlist_any _ i c.wa (c.V i) xg ob v (t.O i) (t.p i) (t.es i) (good_len (h.gR i hi) hh.rise hh.top hp) w hh
/-- its blocks, as the law itself asks them -/
theorem two_X (h : Two nP nR w0 w Ex c s t) (hi : i < nR) : ∃ xg, ∀ W, Fr0 w W → W.cell? ⟨c.V i, 2, none⟩ = some (.pointer (some ⟨xg, 0, none⟩)) ∧ Calls Try.prog 24 #[.pointer (some ⟨xg, 0, none⟩)] W fun e w' => e = .returned (.int .i64 ((frees (t.O i)).length : Int)) ∧ Fr0 W w' := by
  obtain ⟨col, h⟩ := h
  obtain ⟨xg, ob, v, hh⟩ := h.hR i hi
  refine ⟨xg, fun W hW => ⟨(hh.fr0 hW).c2, ?_⟩⟩
  refine (Blocks.refFree_any 0 xg ob (t.O i) W (hh.fr0 hW).blk).mono ?_
  rintro e w' ⟨rfl, rfl⟩
  exact ⟨rfl, Fr.refl _ _⟩
end
/-- the law's own pick of one of two -/
theorem and_who (n : Int) : ∃ i : Nat, i < 2 ∧ bits BinOp.and IntKind.i64 n 1 = (i : Int) := by
  refine ⟨(BitVec.ofInt 64 n).toNat % 2, by omega, ?_⟩
  show IntKind.i64.wrap ((BitVec.ofInt 64 n &&& BitVec.ofInt 64 1).toNat : Int) = _
  rw [BitVec.toNat_and]
  have h1 : (BitVec.ofInt 64 1).toNat = 1 := by decide
  rw [h1, Nat.and_one_is_mod, IntKind.wrap_i64]
  omega
end Go.Proofs.Ytkdpdbjefehmpaa.Hold
