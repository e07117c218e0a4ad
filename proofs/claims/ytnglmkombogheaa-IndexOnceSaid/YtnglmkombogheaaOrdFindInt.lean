/-
  The search for a name of an ord of things of type int (made by wip/tools/ord.py).
-/
import Derived.Test.YtnglmkombogheaaOrdStrs
import Derived.Test.YtnglmkombogheaaOrdAll
import Derived.Deep.LoopGhost
import Derived.Deep.WholeRow
import Derived.Laws.Rows
namespace Go.Proofs.Ytnglmkombogheaa.Ord
open Go.RowKit Base

theorem closure_int (p : Nat) (nm0 nm : ByteArray) (v : Value) (w : World) (h : w.heap[p]? = some (.cells #[.string nm0, v] 58 (0, 0))) :
    Calls Try.prog 31 #[ptr p, .string nm] w fun e w' => e = .returned (.int .i64 (cmp nm0 nm)) ∧ w' = w := by
  have c0 : w.cell? ⟨p, 0, none⟩ = some (.string nm0) := by rw [cell_of_row _ _ _ _ _ _ h]; rfl
  clear h
  unfold ptr
  go_enter Try.func31, Try.ntmps31
  go_wp2_with fail
  refine (compare nm0 nm w).mono ?_
  rintro e w' ⟨rfl, rfl⟩
  go_wp2
  go_ret
  exact ⟨rfl, rfl⟩

set_option maxHeartbeats 4000000 in
set_option maxRecDepth 1000000 in
theorem search_int (v : Value) (ps : List Nat) (es : List Ent) (nm : ByteArray) (w : World) (hp : PtrsAre w v ps) (hl : Lie w 58 ps es) (hs : Sorted es) (hn : es.length ≤ 4096) :
    Calls Try.prog 30 #[v, .string nm, .func (.func 31) #[] #[]] w fun e w' => e = .returned (.tuple #[.int .i64 ((place nm es : Nat) : Int), .bool (has nm es)]) ∧ w' = w := by
  obtain ⟨A, C, rfl, hcells⟩ := hp
  have hlen := hl.length
  have HC := Lib.hid hcells
  have HL := Lib.hid hl
  have HS := Lib.hid hs
  have HLEN := Lib.hid hlen
  generalize hm : ps.length = m at *
  have hm' : m ≤ 4096 := by omega
  clear hcells hl hs hlen hn
  obtain ⟨S, hS⟩ : ∃ S : Bool, has nm es = S := ⟨_, rfl⟩
  obtain ⟨K, hK⟩ : ∃ K : Nat, place nm es = K := ⟨_, rfl⟩
  rw [hS, hK]
  have HSS := Lib.hid hS
  have HKK := Lib.hid hK
  clear hS hK
  go_enter Try.func30, Try.ntmps30
  go_wp2
  go_loopg [9, 10] m (fun kx s9 s10 wr => ∃ lo hi : Nat, s9 = .int .i64 lo ∧ s10 = .int .i64 hi ∧ lo ≤ hi ∧ hi ≤ m ∧ hi - lo ≤ kx ∧ wr = w ∧ Hid (∀ j e, j < lo → es[j]? = some e → lt e.1 nm = true) ∧ Hid (∀ j e, hi ≤ j → es[j]? = some e → lt e.1 nm = false))
  case atStart => exact ⟨0, m, rfl, rfl, Nat.zero_le _, Nat.le_refl _, by omega, rfl, Lib.hid (fun j e hj => by omega), Lib.hid (fun j e hj he => by have := (List.getElem?_eq_some_iff.1 he).1; have := HLEN.out; omega)⟩
  case round =>
    obtain ⟨lo, hi, rfl, rfl, hlh, him, hg, rfl, I1, I2⟩ := hrel
    by_cases hlt : lo < hi
    · obtain ⟨b, rfl, hC, hcl⟩ := HC.out (by omega)
      have hh : (lo + hi) / 2 < m := by omega
      obtain ⟨e, he⟩ : ∃ e, es[(lo + hi) / 2]? = some e := ⟨_, List.getElem?_eq_getElem (by have := HLEN.out; omega)⟩
      obtain ⟨p, hp⟩ : ∃ p, ps[(lo + hi) / 2]? = some p := ⟨_, List.getElem?_eq_getElem (by omega)⟩
      have c1 := hcl _ _ hp
      have hc := closure_int p e.1 nm e.2 wr (HL.out.get _ _ _ hp he)
      have HE := Lib.hid he
      clear hcl hp he
      unfold ptr at c1 hc
      have hlm := cmp_range e.1 nm
      obtain ⟨c, hce⟩ : ∃ c, cmp e.1 nm = c := ⟨_, rfl⟩
      have hneg := cmp_neg e.1 nm
      rw [hce] at hc hneg hlm
      have HNEG := Lib.hid hneg
      clear hneg hce
      by_cases hcz : c < 0
      · go_wp2_with fail
        refine hc.mono ?_
        rintro e' w' ⟨rfl, rfl⟩
        go_wp2
        go_roundg (hi - ((lo + hi) / 2 + 1))
        case measure => omega
        case rel =>
          refine ⟨(lo + hi) / 2 + 1, hi, by rw [show ((lo : Int) + (hi : Int)) / 2 + 1 = (((lo + hi) / 2 + 1 : Nat) : Int) by omega], rfl, by omega, him, Nat.le_refl _, rfl, Lib.hid (fun j x hj hx => ?_), I2⟩
          have h1 : lt e.1 nm = true := by rw [← HNEG.out]; exact decide_eq_true hcz
          rcases Nat.lt_or_eq_of_le (Nat.le_of_lt_succ hj) with hj | rfl
          · exact lt_trans (HS.out.lt hj hx HE.out) h1
          · rw [HE.out] at hx; cases hx; exact h1
      · go_wp2_with fail
        refine hc.mono ?_
        rintro e' w' ⟨rfl, rfl⟩
        go_wp2
        go_roundg ((lo + hi) / 2 - lo)
        case measure => omega
        case rel =>
          refine ⟨lo, (lo + hi) / 2, rfl, by rw [show ((lo : Int) + (hi : Int)) / 2 = (((lo + hi) / 2 : Nat) : Int) by omega], by omega, by omega, Nat.le_refl _, rfl, I1, Lib.hid (fun j x hj hx => ?_)⟩
          have h1 : lt e.1 nm = false := by rw [← HNEG.out]; exact decide_eq_false (by omega)
          by_cases hk : lt x.1 nm = true
          · rcases Nat.lt_or_eq_of_le hj with hj | rfl
            · have := lt_trans (HS.out.lt hj HE.out hx) hk
              rw [h1] at this; cases this
            · rw [HE.out] at hx; cases hx; rw [h1] at hk; cases hk
          · simpa using hk
    · obtain rfl : hi = lo := by omega
      have hplace : place nm es = hi := place_unique nm es hi (by have := HLEN.out; omega) I1.out (fun x hx => I2.out _ x (Nat.le_refl _) hx)
      by_cases hlm : hi < m
      · obtain ⟨b, rfl, hC, hcl⟩ := HC.out (by omega)
        obtain ⟨e, he⟩ : ∃ e, es[hi]? = some e := ⟨_, List.getElem?_eq_getElem (by have := HLEN.out; omega)⟩
        obtain ⟨p, hp⟩ : ∃ p, ps[hi]? = some p := ⟨_, List.getElem?_eq_getElem (by omega)⟩
        have c1 := hcl _ _ hp
        have hc := closure_int p e.1 nm e.2 wr (HL.out.get _ _ _ hp he)
        unfold ptr at c1 hc
        obtain ⟨c, hce⟩ : ∃ c, cmp e.1 nm = c := ⟨_, rfl⟩
        have hz := cmp_zero e.1 nm
        have hfin : has nm es = decide (e.1 = nm) := by unfold has; rw [hplace, he]
        have hlm2 := cmp_range e.1 nm
        rw [hce] at hc hz hlm2
        have HF := Lib.hid (⟨hfin, hz, hplace⟩ : _ ∧ _ ∧ _)
        clear hcl hp he hz hfin hce hplace
        go_wp2_with fail
        refine hc.mono ?_
        rintro e' w' ⟨rfl, rfl⟩
        go_wp2
        go_ret2
        have h1 := HSS.out
        have h2 := HKK.out
        rw [HF.out.2.2] at h2
        subst h2
        rw [HF.out.1, ← HF.out.2.1] at h1
        subst h1
        first
          | exact ⟨rfl, rfl⟩
          | (refine ⟨?_, rfl⟩
             congr 2
             simp)
      · have hfin : has nm es = false := by
          unfold has
          rw [hplace, List.getElem?_eq_none (by have := HLEN.out; omega)]
        have HF := Lib.hid (⟨hfin, hplace⟩ : _ ∧ _)
        clear hplace hfin
        go_wp2
        go_ret2
        have h1 := HSS.out
        have h2 := HKK.out
        rw [HF.out.2] at h2
        subst h2
        rw [HF.out.1] at h1
        subst h1
        exact ⟨rfl, rfl⟩
end Go.Proofs.Ytnglmkombogheaa.Ord
