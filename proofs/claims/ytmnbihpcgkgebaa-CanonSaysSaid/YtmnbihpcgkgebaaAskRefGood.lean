/-
  The reference's GoodName, GoodAsk.
-/
import Derived.Test.YtmnbihpcgkgebaaProg
import Derived.Test.YtmnbihpcgkgebaaAskSpec
import Derived.Test.YtmnbihpcgkgebaaLawP
import Derived.Deep.LoopGhost
import Derived.BigQuiet
import Derived.Lib.Hide
namespace Go.Proofs.Ytmnbihpcgkgebaa.Ask
open Go.RowKit Base Pack

theorem nameOk_bad {n : List UInt8} {i : Nat} (h : i < n.length) (hc : nameCh (n.getD i 0) = false) : nameOk n = false := by
  unfold nameOk
  have : n.all nameCh = false := by
    rw [List.all_eq_false]
    refine ⟨n.getD i 0, ?_, by rw [hc]; decide⟩
    rw [List.getD_eq_getElem?_getD, List.getElem?_eq_getElem h]
    exact List.getElem_mem h
  rw [this, Bool.false_and]
theorem nameOk_all {n : List UInt8} (h : ∀ i, i < n.length → nameCh (n.getD i 0) = true) : nameOk n = decide (1 ≤ n.length ∧ n.length ≤ 16) := by
  unfold nameOk
  have : n.all nameCh = true := by
    rw [List.all_eq_true]
    intro c hc
    obtain ⟨i, hi, rfl⟩ := List.getElem_of_mem hc
    have := h i hi
    rw [List.getD_eq_getElem?_getD, List.getElem?_eq_getElem hi] at this
    exact this
  rw [this, Bool.true_and]
set_option maxHeartbeats 2000000 in
theorem rname_any (n : List UInt8) (hn : n.length ≤ 9223372036854775807) (w : World) :
    Calls Try.prog 28 #[.string ⟨n.toArray⟩] w fun e w' => e = .returned (.bool (nameOk n)) ∧ w = w' := by
  have hsz := size_str n
  have hix := fun (i : Nat) (h : i < n.length) (wx : World) => index_str (P := Try.prog) 9 Try.underlying9 n i h .i64 wx
  have HIX := Lib.hid hix
  clear hix
  have HB : Hid (∀ i, i < n.length → nameCh (n.getD i 0) = false → nameOk n = false) := Lib.hid (fun i h hc => nameOk_bad h hc)
  have HA : Hid ((∀ i, i < n.length → nameCh (n.getD i 0) = true) → nameOk n = decide (1 ≤ n.length ∧ n.length ≤ 16)) := Lib.hid nameOk_all
  obtain ⟨b, hb⟩ : ∃ b, b = nameOk n := ⟨_, rfl⟩
  rw [← hb] at HA HB ⊢
  clear hb
  go_enter Try.func28, Try.ntmps28
  go_wp2_with fail
  go_loopg [3] n.length (fun kx vi wr => ∃ i : Nat, vi = .int .i64 (i : Int) ∧ i ≤ n.length ∧ n.length - i ≤ kx ∧ Hid (w = wr) ∧ Hid (∀ j, j < i → nameCh (n.getD j 0) = true))
  case atStart => exact ⟨0, rfl, Nat.zero_le _, by omega, Lib.hid rfl, Lib.hid (fun j h => absurd h (by omega))⟩
  case round =>
    obtain ⟨i, rfl, hi, hk, HW, HC⟩ := hrel
    by_cases hlt : i < n.length
    · have hix := HIX.out i hlt
      have hbad := HB.out i hlt
      have HBAD := Lib.hid hbad
      have HNX : Hid (nameCh (n.getD i 0) = true → ∀ j, j < i + 1 → nameCh (n.getD j 0) = true) := Lib.hid (fun h j hj => by
        rcases Nat.lt_or_eq_of_le (Nat.le_of_lt_succ hj) with h1 | rfl
        · exact HC.out j h1
        · exact h)
      have hcl := (n.getD i 0).toNat_lt
      have i1 : (i : Int) < (n.length : Int) := by omega
      have i2 : 0 ≤ (i : Int) := by omega
      have hch : nameCh (n.getD i 0) = decide ((97 ≤ (n.getD i 0).toNat ∧ (n.getD i 0).toNat ≤ 122) ∨ (48 ≤ (n.getD i 0).toNat ∧ (n.getD i 0).toNat ≤ 57) ∨ (n.getD i 0).toNat = 95) := rfl
      have HCH := Lib.hid hch
      clear hbad hch
      generalize hc : (n.getD i 0).toNat = c at *
      generalize hy : nameCh (n.getD i 0) = y at *
      clear hc hy
      by_cases h1 : (c : Int) < 97
      · by_cases h2 : (c : Int) < 48
        · have hy := HCH.out.trans (decide_eq_false (by omega))
          go_wp2
          go_ret
          exact ⟨by rw [HBAD.out hy]; rfl, HW.out⟩
        · by_cases h3 : 57 < (c : Int)
          · by_cases h4 : (c : Int) = 95
            · have hy := HCH.out.trans (decide_eq_true (by omega))
              have HN := Lib.hid (HNX.out hy)
              clear hy
              go_wp2
              go_roundg (n.length - (i + 1))
              case measure => omega
              case rel => exact ⟨i + 1, by simp, by omega, by omega, HW, HN⟩
            · have hy := HCH.out.trans (decide_eq_false (by omega))
              go_wp2
              go_ret
              exact ⟨by rw [HBAD.out hy]; rfl, HW.out⟩
          · have hy := HCH.out.trans (decide_eq_true (by omega))
            have HN := Lib.hid (HNX.out hy)
            clear hy
            go_wp2
            go_roundg (n.length - (i + 1))
            case measure => omega
            case rel => exact ⟨i + 1, by simp, by omega, by omega, HW, HN⟩
      · by_cases h2 : 122 < (c : Int)
        · have h3 : 57 < (c : Int) := by omega
          have h4 : ¬ (c : Int) = 95 := by omega
          have hy := HCH.out.trans (decide_eq_false (by omega))
          go_wp2
          go_ret
          exact ⟨by rw [HBAD.out hy]; rfl, HW.out⟩
        · have hy := HCH.out.trans (decide_eq_true (by omega))
          have HN := Lib.hid (HNX.out hy)
          clear hy
          go_wp2
          go_roundg (n.length - (i + 1))
          case measure => omega
          case rel => exact ⟨i + 1, by simp, by omega, by omega, HW, HN⟩
    · obtain rfl : i = n.length := by omega
      have hend := HA.out HC.out
      by_cases h1 : (1 : Int) ≤ (n.length : Int)
      · by_cases h2 : (n.length : Int) ≤ 16
        · have h3 := hend.trans (decide_eq_true (by omega))
          have HE := Lib.hid h3
          clear hend h3
          go_wp2
          go_ret
          exact ⟨by rw [HE.out]; rfl, HW.out⟩
        · have h3 := hend.trans (decide_eq_false (by omega))
          have HE := Lib.hid h3
          clear hend h3
          go_wp2
          go_ret
          exact ⟨by rw [HE.out]; rfl, HW.out⟩
      · have h3 := hend.trans (decide_eq_false (by omega))
        have HE := Lib.hid h3
        clear hend h3
        go_wp2
        go_ret
        exact ⟨by rw [HE.out]; rfl, HW.out⟩
/-- GoodAsk -/
def rv (sv : Value) (a : Rq) : Array Value := #[.int .i64 a.k, .string ⟨a.n.toArray⟩, sv, .int .i64 a.f, .int .i64 a.t, .int .i64 a.wn]
theorem good_push {a : Rq} (hn : nameOk a.n = true) (hk : a.k = 1) : good a = decide (1 ≤ a.s.length ∧ a.s.length ≤ 16 ∧ a.f = 0 ∧ a.t = 0 ∧ a.wn = 0) := by unfold good restOk; rw [hn, Bool.true_and, if_pos hk]
theorem good_query {a : Rq} (hn : nameOk a.n = true) (hk : a.k = 2) : good a = decide (a.s.length = 0 ∧ 1 ≤ a.wn ∧ a.wn ≤ 31) := by unfold good restOk; rw [hn, Bool.true_and, if_neg (by omega), if_pos hk]
theorem good_none {a : Rq} (hk : ¬ a.k = 1) (hk2 : ¬ a.k = 2) : good a = false := by unfold good restOk; rw [if_neg hk, if_neg hk2, Bool.and_false]
theorem good_noname {a : Rq} (hn : nameOk a.n = false) : good a = false := by unfold good; rw [hn, Bool.false_and]
set_option maxHeartbeats 2000000 in
theorem rgood_any (A : Option Addr) (C : Nat) (a : Rq) (hn : a.n.length ≤ 9223372036854775807) (w : World) :
    Calls Try.prog 21 #[.agg (rv (.slice A a.s.length C) a)] w fun e w' => e = .returned (.bool (good a)) ∧ Fr0 w w' := by
  obtain ⟨b, hb⟩ : ∃ b, b = good a := ⟨_, rfl⟩
  rw [← hb]
  have HB : Hid (∀ {x}, good a = x → b = x) := Lib.hid (fun h => hb.trans h)
  have HN := Lib.hid (good_noname (a := a))
  have HP := Lib.hid (good_push (a := a))
  have HQ := Lib.hid (good_query (a := a))
  have HZ := Lib.hid (good_none (a := a))
  clear hb
  unfold rv
  have HF : Hid (∀ o, Fr0 w (w.alloc o)) := Lib.hid (fun o => (Fr.refl _ _).alloc o)
  have hnm := rname_any a.n hn (w.alloc (.cells #[.int .i64 a.k, .string ⟨a.n.toArray⟩, .slice A a.s.length C, .int .i64 a.f, .int .i64 a.t, .int .i64 a.wn] 39))
  generalize hl : a.s.length = L at *
  generalize a.k = k at *
  generalize a.f = f at *
  generalize a.t = t at *
  generalize a.wn = wn at *
  go_enter Try.func21, Try.ntmps21
  go_wp2_with fail
  refine hnm.mono ?_
  clear hnm
  rintro e w1 ⟨rfl, rfl⟩
  cases hq : nameOk a.n with
  | false =>
    have HQ := Lib.hid hq
    clear hq hl
    go_wp2
    go_ret
    exact ⟨by rw [HB.out (HN.out HQ.out)]; rfl, HF.out _⟩
  | true =>
    have HNT := Lib.hid hq
    have HL := Lib.hid hl
    clear hq hl
    by_cases hk : k = 1
    · by_cases hc1 : (1 : Int) ≤ (L : Int)
      · by_cases hc2 : (L : Int) ≤ 16
        · by_cases hc3 : f = 0
          · by_cases hc4 : t = 0
            · by_cases hc5 : wn = 0
              · have HD := Lib.hid ((HP.out HNT.out hk).trans (decide_eq_true (by omega)))
                go_wp2
                go_ret
                exact ⟨by rw [HB.out (HD.out)]; rfl, HF.out _⟩
              · have HD := Lib.hid ((HP.out HNT.out hk).trans (decide_eq_false (by omega)))
                have hd := (beq_eq_false_iff_ne.2 hc5)
                go_wp2
                go_ret
                exact ⟨by rw [HB.out (HD.out)]; rfl, HF.out _⟩
            · have HD := Lib.hid ((HP.out HNT.out hk).trans (decide_eq_false (by omega)))
              have hd := (beq_eq_false_iff_ne.2 hc4)
              go_wp2
              go_ret
              exact ⟨by rw [HB.out (HD.out)]; rfl, HF.out _⟩
          · have HD := Lib.hid ((HP.out HNT.out hk).trans (decide_eq_false (by omega)))
            have hd := (beq_eq_false_iff_ne.2 hc3)
            go_wp2
            go_ret
            exact ⟨by rw [HB.out (HD.out)]; rfl, HF.out _⟩
        · have HD := Lib.hid ((HP.out HNT.out hk).trans (decide_eq_false (by omega)))
          have hd := decide_eq_false hc2
          go_wp2
          go_ret
          exact ⟨by rw [HB.out (HD.out)]; rfl, HF.out _⟩
      · have HD := Lib.hid ((HP.out HNT.out hk).trans (decide_eq_false (by omega)))
        have hd := decide_eq_false hc1
        go_wp2
        go_ret
        exact ⟨by rw [HB.out (HD.out)]; rfl, HF.out _⟩
    · by_cases hk2 : k = 2
      · by_cases hc1 : (L : Int) = 0
        · by_cases hc2 : (1 : Int) ≤ wn
          · by_cases hc3 : wn ≤ 31
            · have HD := Lib.hid ((HQ.out HNT.out hk2).trans (decide_eq_true (by omega)))
              go_wp2
              go_ret
              exact ⟨by rw [HB.out (HD.out)]; rfl, HF.out _⟩
            · have HD := Lib.hid ((HQ.out HNT.out hk2).trans (decide_eq_false (by omega)))
              have hd := decide_eq_false hc3
              go_wp2
              go_ret
              exact ⟨by rw [HB.out (HD.out)]; rfl, HF.out _⟩
          · have HD := Lib.hid ((HQ.out HNT.out hk2).trans (decide_eq_false (by omega)))
            have hd := decide_eq_false hc2
            go_wp2
            go_ret
            exact ⟨by rw [HB.out (HD.out)]; rfl, HF.out _⟩
        · have HD := Lib.hid ((HQ.out HNT.out hk2).trans (decide_eq_false (by omega)))
          have hd := (beq_eq_false_iff_ne.2 hc1)
          go_wp2
          go_ret
          exact ⟨by rw [HB.out (HD.out)]; rfl, HF.out _⟩
      · have HD := Lib.hid (HZ.out hk hk2)
        go_wp2
        go_ret
        exact ⟨by rw [HB.out (HD.out)]; rfl, HF.out _⟩
end Go.Proofs.Ytmnbihpcgkgebaa.Ask
