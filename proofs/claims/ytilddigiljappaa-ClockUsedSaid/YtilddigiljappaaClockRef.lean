/-
  The reference's dial: GoodDial, Next.
-/
import Derived.Test.YtilddigiljappaaClockMem
import Derived.Test.YtilddigiljappaaChecked
import Derived.WalkKit
import Derived.KernelRfl
import Derived.BigQuiet
import Derived.OwnWalk
import Derived.Deep.DeepCutAuto
import Derived.Deep.LoopGhost
namespace Go.Proofs.Ytilddigiljappaa.Clock
open Go.RowKit Base

set_option maxHeartbeats 2000000 in
theorem rgood_any (v : Value) (d : List Int) (h : Int) (hd : d.length ≤ 9223372036854775807) (hs : ∀ x ∈ d, I64 x) (hh : I64 h) (w : World) (hI : IntsIs w v d) :
    Calls Try.prog 13 #[v, .int .i64 h] w fun e w' => e = .returned (.bool (goodD d h)) ∧ w = w' := by
  obtain ⟨A, C, rfl⟩ := ints_form hI
  obtain ⟨pb, po, hA, hC⟩ := ints_cells hI
  have HA := Lib.hid hA
  have HC := Lib.hid hC
  clear hA hC hI hs
  have HBAD : Hid (∀ j, j < d.length → (d.getD j 0 < 0 ∨ 2 < d.getD j 0) → goodD d h = false) := Lib.hid (fun j h1 h2 => good_bad h1 h2)
  have HGOOD : Hid ((∀ j, j < d.length → 0 ≤ d.getD j 0 ∧ d.getD j 0 ≤ 2) → goodD d h = (decide (0 ≤ h) && decide (h ≤ (d.length : Int)))) := Lib.hid good_is
  generalize goodD d h = gd at *
  generalize d.length = n at *
  go_enter Try.func13, Try.ntmps13
  go_wp2
  go_loopg [5] n (fun kx vi wr => w = wr ∧ ∃ i : Nat, vi = .int .i64 (i : Int) ∧ i ≤ n ∧ n - i ≤ kx ∧ Hid (∀ j, j < i → 0 ≤ d.getD j 0 ∧ d.getD j 0 ≤ 2))
  case atStart => exact ⟨rfl, 0, rfl, Nat.zero_le _, by omega, Lib.hid (fun j hj => absurd hj (Nat.not_lt_zero _))⟩
  case round =>
    obtain ⟨rfl, i, rfl, hi, hk, HP⟩ := hrel
    by_cases hlt : i < n
    · obtain rfl := HA.out (by omega)
      have c1 := (HC.out i hlt).2
      have HB := Lib.hid (HBAD.out i hlt)
      have HN := Lib.hid (fun (h1 : 0 ≤ d.getD i 0) (h2 : d.getD i 0 ≤ 2) => (fun j hj => by
        by_cases e : j = i
        · subst e; exact ⟨h1, h2⟩
        · exact HP.out j (by omega) : ∀ j, j < i + 1 → 0 ≤ d.getD j 0 ∧ d.getD j 0 ≤ 2))
      have i1 : (i : Int) < (n : Int) := by omega
      have i2 : 0 ≤ (i : Int) := by omega
      generalize d.getD i 0 = x at *
      by_cases h1 : x < 0
      · have HX := Lib.hid (HB.out (.inl h1))
        clear HB HN HP HGOOD HBAD
        go_wp2
        go_ret
        exact ⟨by rw [HX.out]; rfl, rfl⟩
      · by_cases h2 : 2 < x
        · have HX := Lib.hid (HB.out (.inr h2))
          clear HB HN HP HGOOD HBAD
          go_wp2
          go_ret
          exact ⟨by rw [HX.out]; rfl, rfl⟩
        · have HX := Lib.hid (HN.out (by omega) (by omega))
          clear HB HN HP
          go_wp2
          go_roundg (n - (i + 1))
          case measure => omega
          case rel => exact ⟨rfl, i + 1, by simp, by omega, by omega, HX⟩
    · obtain rfl : i = n := by omega
      have HX := Lib.hid (HGOOD.out HP.out)
      clear HGOOD HBAD HP
      by_cases h1 : 0 ≤ h
      · have d1 : decide (0 ≤ h) = true := decide_eq_true h1
        by_cases h2 : h ≤ (i : Int)
        · have d2 : decide (h ≤ (i : Int)) = true := decide_eq_true h2
          rw [d1, d2] at HX
          go_wp2
          go_ret
          exact ⟨by rw [HX.out]; rfl, rfl⟩
        · have d2 : decide (h ≤ (i : Int)) = false := decide_eq_false h2
          rw [d1, d2] at HX
          go_wp2
          go_ret
          exact ⟨by rw [HX.out]; rfl, rfl⟩
      · have d1 : decide (0 ≤ h) = false := decide_eq_false h1
        rw [d1] at HX
        go_wp2
        go_ret
        exact ⟨by rw [HX.out]; rfl, rfl⟩
theorem infoI : (Try.prog.info? 3).map (fun i => (i.zero, i.size, i.bytes)) = some (some (.int .i64 0), 1, 8) := by kernel_rfl
set_option maxHeartbeats 4000000 in
set_option maxRecDepth 100000 in
theorem rnext_any (v : Value) (d : List Int) (h : Int) (hd : d.length ≤ 1000000) (hs : ∀ x ∈ d, I64 x) (hh : I64 h) (w : World) (hI : IntsIs w v d) :
    Calls Try.prog 12 #[v, .int .i64 h] w (NextPost d h w) := by
  have HI := Lib.hid hI
  obtain ⟨A, C, rfl⟩ := ints_form hI
  obtain ⟨pb, po, hA, hC⟩ := ints_cells hI
  have HA := Lib.hid hA
  have HC := Lib.hid hC
  have HGD := Lib.hid (rgood_any _ d h (by omega) hs hh w hI)
  have HNO : Hid (∀ w', okD d h = false → Fr0 w w' → NextPost d h w (.returned (.tuple #[.int .i64 0, .slice none 0 0, .int .i64 0, .bool false])) w') := Lib.hid (fun w' h1 h2 => next_no h1 h2)
  have HOK : Hid (okD d h = (goodD d h && someD d)) := Lib.hid rfl
  have HST : Hid (∀ i, i < d.length → someD (d.take (i + 1)) = (someD (d.take i) || decide (0 < d.getD i 0))) := Lib.hid (fun i hi => some_take d i hi)
  have HSA : Hid (someD (d.take d.length) = someD d) := Lib.hid (some_all d)
  have HS0 : Hid (someD (d.take 0) = false) := Lib.hid rfl
  have HVAL := Lib.hid (vals_of_ints hI)
  have HGE : Hid (goodD d h = true → 0 ≤ h ∧ h ≤ (d.length : Int)) := Lib.hid (fun hg => (good_each hg).2)
  have HWENT : Hid (okD d h = true → ∃ r m tz, nextS d h = (r, m, tz) ∧ Went d h.toNat r m tz) := Lib.hid (fun ho => by
    obtain ⟨r, m, tz, h1, h2, _⟩ := next_went ho
    exact ⟨r, m, tz, h1, h2⟩)
  clear hA hC hI hs
  generalize hPT : NextPost d h w = post at *
  have HYES : Hid (∀ r m tz w' mv B, nextS d h = (r, m, tz) → okD d h = true → Own w' B 3 mv m → w.heap.size ≤ B → Fr0 w w' → post (.returned (.tuple #[.int .i64 (r : Int), mv, .int .i64 (tz : Int), .bool true])) w') := Lib.hid (fun r m tz w' mv B h1 h2 h3 h4 h5 => by
    rw [← hPT]
    refine ⟨mv, by rw [h1, h2], by rw [h1]; exact h3.ints, h5, fun a n c hv => ?_⟩
    obtain ⟨A, C, hf, hb⟩ := h3.form
    rw [hf] at hv
    cases hv
    exact Nat.le_trans h4 (hb a rfl).1)
  clear hPT
  generalize goodD d h = gd at *
  have hcap : d.length ≤ 1000000 := hd
  clear hd
  have HLN : Hid ((icells d).length = d.length) := Lib.hid (icells_length d)
  have HL1 := Lib.hid (icells_one d)
  obtain ⟨n, hn⟩ : ∃ n, d.length = n := ⟨_, rfl⟩
  have HN := Lib.hid hn
  rw [hn] at HA HC HGD HST HSA HGE HLN HVAL hcap ⊢
  clear hn
  go_enter Try.func12, Try.ntmps12
  go_wp2_with fail
  go_loopg [8, 9] n (fun kx vs vi wr => w = wr ∧ ∃ (i : Nat) (b : Bool), vi = .int .i64 (i : Int) ∧ vs = .bool b ∧ i ≤ n ∧ n - i ≤ kx ∧ Hid (someD (d.take i) = b))
  case atStart => exact ⟨rfl, 0, false, rfl, rfl, Nat.zero_le _, by omega, HS0⟩
  case round =>
    obtain ⟨rfl, i, b, rfl, rfl, hi, hk, HB⟩ := hrel
    by_cases hlt : i < n
    · obtain rfl := HA.out (by omega)
      have c1 := (HC.out i hlt).2
      have hst := HST.out i hlt
      rw [HB.out] at hst
      have HT := Lib.hid hst
      clear hst
      have i1 : (i : Int) < (n : Int) := by omega
      have i2 : 0 ≤ (i : Int) := by omega
      generalize d.getD i 0 = x at *
      cases b with
      | true =>
        go_wp2
        go_roundg (n - (i + 1))
        case measure => omega
        case rel => exact ⟨rfl, i + 1, true, by simp, rfl, by omega, by omega, Lib.hid (by rw [HT.out]; rfl)⟩
      | false =>
        by_cases hx : 0 < x
        · go_wp2
          go_roundg (n - (i + 1))
          case measure => omega
          case rel => exact ⟨rfl, i + 1, true, by simp, rfl, by omega, by omega, Lib.hid (by rw [HT.out, decide_eq_true hx]; rfl)⟩
        · go_wp2
          go_roundg (n - (i + 1))
          case measure => omega
          case rel => exact ⟨rfl, i + 1, false, by simp, rfl, by omega, by omega, Lib.hid (by rw [HT.out, decide_eq_false (show ¬ 0 < x by omega)]; rfl)⟩
    · obtain rfl : i = n := by omega
      rw [HSA.out] at HB
      rw [HB.out] at HOK
      clear HST HSA HS0 HC
      go_wp2_with fail
      refine HGD.out.mono ?_
      rintro e w1 ⟨rfl, rfl⟩
      clear HGD
      cases gd with
      | false =>
        have HX := Lib.hid (HNO.out w HOK.out (Fr.refl _ _))
        clear HNO HOK HYES HWENT HGE
        go_wp2
        refine bodyPost_ret (res4 rfl _ _ _) rfl ?_
        exact HX.out
      | true =>
        cases b with
        | false =>
          have HX := Lib.hid (HNO.out w HOK.out (Fr.refl _ _))
          clear HNO HOK HYES HWENT HGE
          go_wp2
          refine bodyPost_ret (res4 rfl _ _ _) rfl ?_
          exact HX.out
        | true =>
          have HOKT : Hid (okD d h = true) := Lib.hid HOK.out
          obtain ⟨r, m, tz, hnx, hwent⟩ := HWENT.out HOKT.out
          have HNX := Lib.hid hnx
          have HWN := Lib.hid hwent
          obtain ⟨hh1, hh2⟩ := HGE.out rfl
          obtain ⟨h0, rfl⟩ := Int.eq_ofNat_of_zero_le hh1
          rw [Int.toNat_natCast] at HWN
          have hh0 : h0 ≤ i := by omega
          have hr := hwent.lt
          rw [HN.out] at hr
          have hi0 : 0 < i := by omega
          clear hnx hwent HNO HOK HWENT HGE hh1 hh2 hr
          have HF0 := Lib.hid ((Fr.refl (fun _ => False) w).alloc (.cells #[] 3))
          have HO0 : Hid ((w.alloc (.cells #[] 3)).ownsRow w.heap.size 3 1 (.slice (some ⟨w.heap.size, 0, none⟩) 0 0) 0 []) := Lib.hid (Own.fresh w 3 (Nat.le_refl _))
          have HPA := Lib.hid (HVAL.out.fr0 HF0.out)
          clear HVAL
          go_wp2_with (at_builtin; (refine wpList_append_valsM rfl (.tmp 35) (.tmp 36) 23 rfl (w.heap.size) 3 Try.underlying23 (.int .i64 0) 1 8 infoI rfl (by decide) _ _ 0 i [] (icells d) rfl rfl HO0.out HPA.out (by have := HLN.out; omega) (HL1.out) (by unfold maxLen; omega) (by omega) (by exact HF0.out.size) ?_); intro v1 w2 hO1 hG1 _; obtain ⟨b1, C1, hv1, ho1, hb1, hf1⟩ := Own.cloned HN.out hi0 hO1 hG1; subst hv1; have HO1 : Hid (Own w2 w.heap.size 3 (.slice (some ⟨b1, 0, none⟩) i C1) d) := Lib.hid ho1; have HBG : Hid (w.heap.size ≤ b1) := Lib.hid hb1; have HF1 : Hid (Fr0 w w2) := Lib.hid hf1; clear hO1 hG1 hb1 ho1 hf1)
          clear HO0 HPA HF0 HI HA HLN HL1
          have HLOST : Hid (∀ m' h' f, goN f m' h' = (r, m, tz) → f ≠ 0) := Lib.hid (fun m' h' f hf h0 => by
            subst h0
            have hl := HWN.out.len
            have : m = [] := by
              have := congrArg (fun q => q.2.1) hf
              exact this.symm
            rw [this, HN.out] at hl
            simp at hl
            omega)
          go_loopg [1, 11] (2 * i + 2) (fun kx vh vi wr => ∃ (k h' : Nat) (m' : List Int), vi = .int .i64 (k : Int) ∧ vh = .int .i64 (h' : Int) ∧ k ≤ 2 * i + 2 ∧ 2 * i + 2 - k ≤ kx ∧ h' ≤ i ∧ Hid (Own wr w.heap.size 3 (.slice (some ⟨b1, 0, none⟩) i C1) m') ∧ Hid (m'.length = i) ∧ Hid (goN (2 * i + 2 - k) m' h' = (r, m, tz)) ∧ Hid (Fr0 w wr))
          case atStart => exact ⟨0, h0, d, rfl, rfl, Nat.zero_le _, by omega, hh0, HO1, HN, Lib.hid (by have := HWN.out.is; rw [HN.out] at this; exact this), HF1⟩
          case round =>
            obtain ⟨k, h', m', rfl, rfl, hk1, hk2, hh', HOW, HML, HGO, HFR⟩ := hrel
            have hk3 : k < 2 * i + 2 := by
              have := HLOST.out _ _ _ HGO.out
              omega
            have hw1 : wrap64 (2 * (i : Int)) = 2 * (i : Int) := by simp only [wrap64]; omega
            have hw2 : wrap64 (2 * (i : Int) + 2) = 2 * (i : Int) + 2 := by simp only [wrap64]; omega
            have j1 : (k : Int) < 2 * (i : Int) + 2 := by omega
            obtain ⟨f, hf⟩ : ∃ f, 2 * i + 2 - k = f + 1 := ⟨2 * i + 2 - k - 1, by omega⟩
            have hf2 : f = 2 * i + 2 - (k + 1) := by omega
            rw [hf] at HGO
            have STEP : ∀ (x : Nat), x < i → Hid (goN (f + 1) m' x = (r, m, tz)) → Hid (m'.getD x 0 = 1 → r = x ∧ m = m'.set x 0 ∧ tz = if i ≤ x + 1 then 0 else x + 1) ∧ Hid (m'.getD x 0 ≠ 1 → goN f (if m'.getD x 0 = 2 then m'.set x 1 else m') (x + 1) = (r, m, tz)) := fun x hx H => by
              have h := H.out
              rw [goN_in f m' x (by rw [HML.out]; exact hx), HML.out] at h
              refine ⟨Lib.hid (fun h1 => ?_), Lib.hid (fun h1 => ?_)⟩
              · rw [if_pos h1] at h
                simp only [Prod.mk.injEq] at h
                exact ⟨h.1.symm, h.2.1.symm, h.2.2.symm⟩
              · rw [if_neg h1] at h
                exact h
            have hset : ∀ (x : Nat) (y : Int), x < i → Hid (Own (wr.setCell ⟨b1, x, none⟩ (.int .i64 y)) w.heap.size 3 (.slice (some ⟨b1, 0, none⟩) i C1) (m'.set x y)) ∧ Hid (Fr0 w (wr.setCell ⟨b1, x, none⟩ (.int .i64 y))) ∧ wr.cell? ⟨b1, x, none⟩ = some (.int .i64 (m'.getD x 0)) ∧ wr.frozen? ⟨b1, x, none⟩ = false := fun x y hx => by
              have ho : Own wr w.heap.size 3 (.slice (some ⟨b1, 0, none⟩) m'.length C1) m' := by rw [HML.out]; exact HOW.out
              have h1 := ho.set x y
              rw [HML.out] at h1
              obtain ⟨h2, h3⟩ := ho.cell x (by rw [HML.out]; exact hx)
              exact ⟨Lib.hid h1, Lib.hid (Fr.setCell HFR.out (fun h => by have := HBG.out; have h' : b1 < w.heap.size := h; omega) _), h2, h3⟩
            have HS := Lib.hid STEP
            have HSET := Lib.hid hset
            clear STEP hset
            by_cases hx : i ≤ h'
            · have hx1 : (i : Int) ≤ (h' : Int) := by omega
              have HGZ : Hid (goN (f + 1) m' 0 = (r, m, tz)) := Lib.hid (by rw [← goN_wrap (f + 1) m' h' (by rw [HML.out]; exact hx)]; exact HGO.out)
              have hz0 : 0 < i := hi0
              obtain ⟨H1, H2⟩ := HS.out 0 (by omega) HGZ
              obtain ⟨HSO0, HSF0, k0, z0⟩ := HSET.out 0 0 (by omega)
              obtain ⟨HSO1, HSF1, _, _⟩ := HSET.out 0 1 (by omega)
              clear HS HSET HGO HLOST
              generalize hX : m'.getD 0 0 = x0 at *
              clear hX
              have x1 : 0 < (i : Int) := by omega
              by_cases e1 : x0 = 1
              · subst e1
                obtain ⟨q1, q2, q3⟩ := H1.out rfl
                have HSO : Hid (Own (wr.setCell ⟨b1, 0, none⟩ (.int .i64 0)) w.heap.size 3 (.slice (some ⟨b1, 0, none⟩) i C1) m) := Lib.hid (by rw [q2]; exact HSO0.out)
                have HP := Lib.hid (HYES.out r m tz _ _ _ HNX.out HOKT.out HSO.out (Nat.le_refl _) HSF0.out)
                rw [q1, q3] at HP
                clear H1 H2 HSO0 HSO1 HSO HYES HNX q1 q2 q3 HWN HOW HML HN
                by_cases e2 : i ≤ 1
                · rw [if_pos (by omega)] at HP
                  have y1 : (i : Int) ≤ 1 := by omega
                  go_wp2
                  refine bodyPost_ret (res4 rfl _ _ _) rfl ?_
                  exact HP.out
                · rw [if_neg (by omega)] at HP
                  have y1 : ¬ (i : Int) ≤ 1 := by omega
                  go_wp2
                  refine bodyPost_ret (res4 rfl _ _ _) rfl ?_
                  exact HP.out
              · have HG := Lib.hid (H2.out e1)
                by_cases e2 : x0 = 2
                · subst e2
                  rw [if_pos rfl] at HG
                  clear H1 H2 HSO0
                  go_wp2
                  go_roundg (2 * i + 2 - (k + 1))
                  case measure => omega
                  case rel => exact ⟨k + 1, 1, _, by simp, rfl, by omega, by omega, by omega, HSO1, Lib.hid (by rw [List.length_set]; exact HML.out), Lib.hid (by rw [← hf2]; exact HG.out), HSF1⟩
                · rw [if_neg e2] at HG
                  clear H1 H2 HSO0 HSO1
                  go_wp2
                  go_roundg (2 * i + 2 - (k + 1))
                  case measure => omega
                  case rel => exact ⟨k + 1, 1, m', by simp, rfl, by omega, by omega, by omega, HOW, HML, Lib.hid (by rw [← hf2]; exact HG.out), HFR⟩
            · have hx1 : ¬ (i : Int) ≤ (h' : Int) := by omega
              obtain ⟨H1, H2⟩ := HS.out h' (by omega) HGO
              obtain ⟨HSO0, HSF0, k0, z0⟩ := HSET.out h' 0 (by omega)
              obtain ⟨HSO1, HSF1, _, _⟩ := HSET.out h' 1 (by omega)
              clear HS HSET HGO HLOST
              generalize hX : m'.getD h' 0 = x0 at *
              clear hX
              have x1 : (h' : Int) < (i : Int) := by omega
              have x2 : 0 ≤ (h' : Int) := by omega
              by_cases e1 : x0 = 1
              · subst e1
                obtain ⟨q1, q2, q3⟩ := H1.out rfl
                have HSO : Hid (Own (wr.setCell ⟨b1, h', none⟩ (.int .i64 0)) w.heap.size 3 (.slice (some ⟨b1, 0, none⟩) i C1) m) := Lib.hid (by rw [q2]; exact HSO0.out)
                have HP := Lib.hid (HYES.out r m tz _ _ _ HNX.out HOKT.out HSO.out (Nat.le_refl _) HSF0.out)
                rw [q1, q3] at HP
                clear H1 H2 HSO0 HSO1 HSO HYES HNX q1 q2 q3 HWN HOW HML HN
                by_cases e2 : i ≤ h' + 1
                · rw [if_pos e2] at HP
                  have y1 : (i : Int) ≤ (h' : Int) + 1 := by omega
                  go_wp2
                  refine bodyPost_ret (res4 rfl _ _ _) rfl ?_
                  exact HP.out
                · rw [if_neg e2] at HP
                  have y1 : ¬ (i : Int) ≤ (h' : Int) + 1 := by omega
                  rw [show ((h' + 1 : Nat) : Int) = (h' : Int) + 1 from rfl] at HP
                  go_wp2
                  refine bodyPost_ret (res4 rfl _ _ _) rfl ?_
                  exact HP.out
              · have HG := Lib.hid (H2.out e1)
                by_cases e2 : x0 = 2
                · subst e2
                  rw [if_pos rfl] at HG
                  clear H1 H2 HSO0
                  go_wp2
                  go_roundg (2 * i + 2 - (k + 1))
                  case measure => omega
                  case rel => exact ⟨k + 1, h' + 1, _, by simp, by simp, by omega, by omega, by omega, HSO1, Lib.hid (by rw [List.length_set]; exact HML.out), Lib.hid (by rw [← hf2]; exact HG.out), HSF1⟩
                · rw [if_neg e2] at HG
                  clear H1 H2 HSO0 HSO1
                  go_wp2
                  go_roundg (2 * i + 2 - (k + 1))
                  case measure => omega
                  case rel => exact ⟨k + 1, h' + 1, m', by simp, by simp, by omega, by omega, by omega, HOW, HML, Lib.hid (by rw [← hf2]; exact HG.out), HFR⟩
end Go.Proofs.Ytilddigiljappaa.Clock
