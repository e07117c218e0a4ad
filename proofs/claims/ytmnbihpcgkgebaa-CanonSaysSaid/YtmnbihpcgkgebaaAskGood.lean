/-
  The program's inName, GoodName, Good.
-/
import Derived.Test.YtmnbihpcgkgebaaAskRefGood
namespace Go.Proofs.Ytmnbihpcgkgebaa.Ask
open Go.RowKit Base Pack

set_option maxHeartbeats 1000000 in
theorem inname_any (c : UInt8) (w : World) :
    Calls Try.prog 30 #[.int .u8 (c.toNat : Int)] w fun e w' => e = .returned (.bool (nameCh c)) ∧ w = w' := by
  have hch : nameCh c = decide ((97 ≤ c.toNat ∧ c.toNat ≤ 122) ∨ (48 ≤ c.toNat ∧ c.toNat ≤ 57) ∨ c.toNat = 95) := rfl
  have hcl := c.toNat_lt
  have HCH := Lib.hid hch
  clear hch
  generalize c.toNat = x at *
  generalize nameCh c = y at *
  by_cases h1 : (x : Int) < 97
  ·
    by_cases h2 : (x : Int) < 48
    ·
      have hy := Lib.hid (HCH.out.trans (decide_eq_false (by omega)))
      have n5 : ((x : Int) == 95) = false := beq_eq_false_iff_ne.2 (by omega)
      go_enter Try.func30, Try.ntmps30
      go_wp2
      go_ret
      exact ⟨by rw [hy.out]; rfl, rfl⟩
    ·
      by_cases h3 : (x : Int) ≤ 57
      ·
        have hy := Lib.hid (HCH.out.trans (decide_eq_true (by omega)))
        go_enter Try.func30, Try.ntmps30
        go_wp2
        go_ret
        exact ⟨by rw [hy.out]; rfl, rfl⟩
      ·
        by_cases h4 : (x : Int) = 95
        ·
          have hy := Lib.hid (HCH.out.trans (decide_eq_true (by omega)))
          go_enter Try.func30, Try.ntmps30
          go_wp2
          go_ret
          exact ⟨by rw [hy.out]; rfl, rfl⟩
        ·
          have hy := Lib.hid (HCH.out.trans (decide_eq_false (by omega)))
          have n5 : ((x : Int) == 95) = false := beq_eq_false_iff_ne.2 h4
          go_enter Try.func30, Try.ntmps30
          go_wp2
          go_ret
          exact ⟨by rw [hy.out]; rfl, rfl⟩
  ·
    by_cases h2 : (x : Int) ≤ 122
    ·
      have hy := Lib.hid (HCH.out.trans (decide_eq_true (by omega)))
      go_enter Try.func30, Try.ntmps30
      go_wp2
      go_ret
      exact ⟨by rw [hy.out]; rfl, rfl⟩
    ·
      have hy := Lib.hid (HCH.out.trans (decide_eq_false (by omega)))
      have n5 : ((x : Int) == 95) = false := beq_eq_false_iff_ne.2 (by omega)
      have n4 : ¬ (x : Int) ≤ 57 := by omega
      go_enter Try.func30, Try.ntmps30
      go_wp2
      go_ret
      exact ⟨by rw [hy.out]; rfl, rfl⟩
theorem nameOk_short {n : List UInt8} (h : n.length < 1 ∨ 16 < n.length) : nameOk n = false := by
  unfold nameOk
  rw [decide_eq_false (by omega), Bool.and_false]
set_option maxHeartbeats 2000000 in
theorem pname_any (n : List UInt8) (hn : n.length ≤ 9223372036854775807) (w : World) :
    Calls Try.prog 23 #[.string ⟨n.toArray⟩] w fun e w' => e = .returned (.bool (nameOk n)) ∧ w = w' := by
  have hsz := size_str n
  have hix := fun (i : Nat) (h : i < n.length) (wx : World) => index_str (P := Try.prog) 9 Try.underlying9 n i h .i64 wx
  have HIX := Lib.hid hix
  clear hix
  have HS : Hid (n.length < 1 ∨ 16 < n.length → nameOk n = false) := Lib.hid nameOk_short
  have HB : Hid (∀ i, i < n.length → nameCh (n.getD i 0) = false → nameOk n = false) := Lib.hid (fun i h hc => nameOk_bad h hc)
  have HA : Hid ((∀ i, i < n.length → nameCh (n.getD i 0) = true) → nameOk n = decide (1 ≤ n.length ∧ n.length ≤ 16)) := Lib.hid nameOk_all
  obtain ⟨b, hb⟩ : ∃ b, b = nameOk n := ⟨_, rfl⟩
  rw [← hb] at HS HA HB ⊢
  clear hb
  by_cases h1 : (n.length : Int) < 1
  · have hb := HS.out (.inl (by omega))
    have HBB := Lib.hid hb
    clear hb
    go_enter Try.func23, Try.ntmps23
    go_wp2
    go_ret
    exact ⟨by rw [HBB.out]; rfl, rfl⟩
  · by_cases h2 : 16 < (n.length : Int)
    · have hb := HS.out (.inr (by omega))
      have HBB := Lib.hid hb
      clear hb
      go_enter Try.func23, Try.ntmps23
      go_wp2
      go_ret
      exact ⟨by rw [HBB.out]; rfl, rfl⟩
    · go_enter Try.func23, Try.ntmps23
      go_wp2_with fail
      go_loopg [14] n.length (fun kx vi wr => ∃ i : Nat, vi = .int .i64 (i : Int) ∧ i ≤ n.length ∧ n.length - i ≤ kx ∧ Hid (w = wr) ∧ Hid (∀ j, j < i → nameCh (n.getD j 0) = true))
      case atStart => exact ⟨0, rfl, Nat.zero_le _, by omega, Lib.hid rfl, Lib.hid (fun j h => absurd h (by omega))⟩
      case round =>
        obtain ⟨i, rfl, hi, hk, HW, HC⟩ := hrel
        by_cases hlt : i < n.length
        · have hix := HIX.out i hlt
          have hin := inname_any (n.getD i 0) wr
          have HBAD := Lib.hid (HB.out i hlt)
          have HNX : Hid (nameCh (n.getD i 0) = true → ∀ j, j < i + 1 → nameCh (n.getD j 0) = true) := Lib.hid (fun h j hj => by
            rcases Nat.lt_or_eq_of_le (Nat.le_of_lt_succ hj) with h1 | rfl
            · exact HC.out j h1
            · exact h)
          have i1 : (i : Int) < (n.length : Int) := by omega
          have i2 : 0 ≤ (i : Int) := by omega
          generalize ((n.getD i 0).toNat : Int) = c at *
          generalize nameCh (n.getD i 0) = y at *
          cases y with
          | false =>
            have HBD := Lib.hid (HBAD.out rfl)
            clear HBAD HNX
            go_wp2_with fail
            refine hin.mono ?_
            clear hin
            rintro e w1 ⟨rfl, rfl⟩
            go_wp2
            go_ret
            exact ⟨by rw [HBD.out]; rfl, HW.out⟩
          | true =>
            have HN := Lib.hid (HNX.out rfl)
            clear HBAD HNX
            go_wp2_with fail
            refine hin.mono ?_
            clear hin
            rintro e w1 ⟨rfl, rfl⟩
            go_wp2
            go_roundg (n.length - (i + 1))
            case measure => omega
            case rel => exact ⟨i + 1, by simp, by omega, by omega, HW, HN⟩
        · obtain rfl : i = n.length := by omega
          have HE := Lib.hid ((HA.out HC.out).trans (decide_eq_true (by omega)))
          go_wp2
          go_ret
          exact ⟨by rw [HE.out]; rfl, HW.out⟩
set_option maxHeartbeats 2000000 in
theorem pgood_any (A : Option Addr) (C : Nat) (a : Rq) (hn : a.n.length ≤ 9223372036854775807) (w : World) :
    Calls Try.prog 15 #[.agg (rv (.slice A a.s.length C) a)] w fun e w' => e = .returned (.bool (good a)) ∧ Fr0 w w' := by
  obtain ⟨b, hb⟩ : ∃ b, b = good a := ⟨_, rfl⟩
  rw [← hb]
  have HB : Hid (∀ {x}, good a = x → b = x) := Lib.hid (fun h => hb.trans h)
  have HN := Lib.hid (good_noname (a := a))
  have HP := Lib.hid (good_push (a := a))
  have HQ := Lib.hid (good_query (a := a))
  have HZ := Lib.hid (good_none (a := a))
  clear hb
  unfold rv
  have HF : Hid (∀ o, Fr0 w (w.alloc o)) := Lib.hid (fun o => (Fr.refl _ _).alloc o)
  have hnm := pname_any a.n hn (w.alloc (.cells #[.int .i64 a.k, .string ⟨a.n.toArray⟩, .slice A a.s.length C, .int .i64 a.f, .int .i64 a.t, .int .i64 a.wn] 27))
  generalize hl : a.s.length = L at *
  generalize a.k = k at *
  generalize a.f = f at *
  generalize a.t = t at *
  generalize a.wn = wn at *
  by_cases hk : k = 1
  ·
    cases hq : nameOk a.n with
    | false =>
      have HD := Lib.hid (HN.out hq)
      rw [hq] at hnm
      clear hq hl
      have zhk : (k == 1) = true := beq_iff_eq.2 hk
      clear hk
      go_enter Try.func15, Try.ntmps15
      go_wp2_with fail
      refine hnm.mono ?_
      clear hnm
      rintro e w1 ⟨rfl, rfl⟩
      go_wp2
      go_ret
      exact ⟨by rw [HB.out (HD.out)]; rfl, HF.out _⟩
    | true =>
      have HNT := Lib.hid hq
      have HL := Lib.hid hl
      rw [hq] at hnm
      clear hq hl
      by_cases hc1 : (1 : Int) ≤ (L : Int)
      ·
        by_cases hc2 : (L : Int) ≤ 16
        ·
          by_cases hc3 : f = 0
          ·
            by_cases hc4 : t = 0
            ·
              by_cases hc5 : wn = 0
              ·
                have HD := Lib.hid ((HP.out HNT.out hk).trans (decide_eq_true (by omega)))
                have zhk : (k == 1) = true := beq_iff_eq.2 hk
                clear hk
                have zhc3 : (f == 0) = true := beq_iff_eq.2 hc3
                clear hc3
                have zhc4 : (t == 0) = true := beq_iff_eq.2 hc4
                clear hc4
                have zhc5 : (wn == 0) = true := beq_iff_eq.2 hc5
                clear hc5
                go_enter Try.func15, Try.ntmps15
                go_wp2_with fail
                refine hnm.mono ?_
                clear hnm
                rintro e w1 ⟨rfl, rfl⟩
                go_wp2
                go_ret
                exact ⟨by rw [HB.out (HD.out)]; rfl, HF.out _⟩
              ·
                have HD := Lib.hid ((HP.out HNT.out hk).trans (decide_eq_false (by omega)))
                have hd := beq_eq_false_iff_ne.2 hc5
                have zhk : (k == 1) = true := beq_iff_eq.2 hk
                clear hk
                have zhc3 : (f == 0) = true := beq_iff_eq.2 hc3
                clear hc3
                have zhc4 : (t == 0) = true := beq_iff_eq.2 hc4
                clear hc4
                go_enter Try.func15, Try.ntmps15
                go_wp2_with fail
                refine hnm.mono ?_
                clear hnm
                rintro e w1 ⟨rfl, rfl⟩
                go_wp2
                go_ret
                exact ⟨by rw [HB.out (HD.out)]; rfl, HF.out _⟩
            ·
              have HD := Lib.hid ((HP.out HNT.out hk).trans (decide_eq_false (by omega)))
              have hd := beq_eq_false_iff_ne.2 hc4
              have zhk : (k == 1) = true := beq_iff_eq.2 hk
              clear hk
              have zhc3 : (f == 0) = true := beq_iff_eq.2 hc3
              clear hc3
              go_enter Try.func15, Try.ntmps15
              go_wp2_with fail
              refine hnm.mono ?_
              clear hnm
              rintro e w1 ⟨rfl, rfl⟩
              go_wp2
              go_ret
              exact ⟨by rw [HB.out (HD.out)]; rfl, HF.out _⟩
          ·
            have HD := Lib.hid ((HP.out HNT.out hk).trans (decide_eq_false (by omega)))
            have hd := beq_eq_false_iff_ne.2 hc3
            have zhk : (k == 1) = true := beq_iff_eq.2 hk
            clear hk
            go_enter Try.func15, Try.ntmps15
            go_wp2_with fail
            refine hnm.mono ?_
            clear hnm
            rintro e w1 ⟨rfl, rfl⟩
            go_wp2
            go_ret
            exact ⟨by rw [HB.out (HD.out)]; rfl, HF.out _⟩
        ·
          have HD := Lib.hid ((HP.out HNT.out hk).trans (decide_eq_false (by omega)))
          have hd := decide_eq_false hc2
          have zhk : (k == 1) = true := beq_iff_eq.2 hk
          clear hk
          go_enter Try.func15, Try.ntmps15
          go_wp2_with fail
          refine hnm.mono ?_
          clear hnm
          rintro e w1 ⟨rfl, rfl⟩
          go_wp2
          go_ret
          exact ⟨by rw [HB.out (HD.out)]; rfl, HF.out _⟩
      ·
        have HD := Lib.hid ((HP.out HNT.out hk).trans (decide_eq_false (by omega)))
        have hd := decide_eq_false hc1
        have zhk : (k == 1) = true := beq_iff_eq.2 hk
        clear hk
        go_enter Try.func15, Try.ntmps15
        go_wp2_with fail
        refine hnm.mono ?_
        clear hnm
        rintro e w1 ⟨rfl, rfl⟩
        go_wp2
        go_ret
        exact ⟨by rw [HB.out (HD.out)]; rfl, HF.out _⟩
  ·
    by_cases hk2 : k = 2
    ·
      have z1 : (k == 1) = false := beq_eq_false_iff_ne.2 hk
      cases hq : nameOk a.n with
      | false =>
        have HD := Lib.hid (HN.out hq)
        rw [hq] at hnm
        clear hq hl
        have zhk2 : (k == 2) = true := beq_iff_eq.2 hk2
        clear hk2
        go_enter Try.func15, Try.ntmps15
        go_wp2_with fail
        refine hnm.mono ?_
        clear hnm
        rintro e w1 ⟨rfl, rfl⟩
        go_wp2
        go_ret
        exact ⟨by rw [HB.out (HD.out)]; rfl, HF.out _⟩
      | true =>
        have HNT := Lib.hid hq
        have HL := Lib.hid hl
        rw [hq] at hnm
        clear hq hl
        by_cases hc1 : (L : Int) = 0
        ·
          by_cases hc2 : (1 : Int) ≤ wn
          ·
            by_cases hc3 : wn ≤ 31
            ·
              have HD := Lib.hid ((HQ.out HNT.out hk2).trans (decide_eq_true (by omega)))
              have zhk2 : (k == 2) = true := beq_iff_eq.2 hk2
              clear hk2
              have zhc1 : ((L : Int) == 0) = true := beq_iff_eq.2 hc1
              clear hc1
              go_enter Try.func15, Try.ntmps15
              go_wp2_with fail
              refine hnm.mono ?_
              clear hnm
              rintro e w1 ⟨rfl, rfl⟩
              go_wp2
              go_ret
              exact ⟨by rw [HB.out (HD.out)]; rfl, HF.out _⟩
            ·
              have HD := Lib.hid ((HQ.out HNT.out hk2).trans (decide_eq_false (by omega)))
              have hd := decide_eq_false hc3
              have zhk2 : (k == 2) = true := beq_iff_eq.2 hk2
              clear hk2
              have zhc1 : ((L : Int) == 0) = true := beq_iff_eq.2 hc1
              clear hc1
              go_enter Try.func15, Try.ntmps15
              go_wp2_with fail
              refine hnm.mono ?_
              clear hnm
              rintro e w1 ⟨rfl, rfl⟩
              go_wp2
              go_ret
              exact ⟨by rw [HB.out (HD.out)]; rfl, HF.out _⟩
          ·
            have HD := Lib.hid ((HQ.out HNT.out hk2).trans (decide_eq_false (by omega)))
            have hd := decide_eq_false hc2
            have zhk2 : (k == 2) = true := beq_iff_eq.2 hk2
            clear hk2
            have zhc1 : ((L : Int) == 0) = true := beq_iff_eq.2 hc1
            clear hc1
            go_enter Try.func15, Try.ntmps15
            go_wp2_with fail
            refine hnm.mono ?_
            clear hnm
            rintro e w1 ⟨rfl, rfl⟩
            go_wp2
            go_ret
            exact ⟨by rw [HB.out (HD.out)]; rfl, HF.out _⟩
        ·
          have HD := Lib.hid ((HQ.out HNT.out hk2).trans (decide_eq_false (by omega)))
          have hd := beq_eq_false_iff_ne.2 hc1
          have zhk2 : (k == 2) = true := beq_iff_eq.2 hk2
          clear hk2
          go_enter Try.func15, Try.ntmps15
          go_wp2_with fail
          refine hnm.mono ?_
          clear hnm
          rintro e w1 ⟨rfl, rfl⟩
          go_wp2
          go_ret
          exact ⟨by rw [HB.out (HD.out)]; rfl, HF.out _⟩
    ·
      have HD := Lib.hid (HZ.out hk hk2)
      have z1 : (k == 1) = false := beq_eq_false_iff_ne.2 hk
      have z2 : (k == 2) = false := beq_eq_false_iff_ne.2 hk2
      clear hnm
      go_enter Try.func15, Try.ntmps15
      go_wp2
      go_ret
      exact ⟨by rw [HB.out (HD.out)]; rfl, HF.out _⟩
end Go.Proofs.Ytmnbihpcgkgebaa.Ask
