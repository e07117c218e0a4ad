/-
  The program's clock: Good, Next, Order.
-/
import Derived.Test.YtilddigiljappaaClockMem
import Derived.Test.YtilddigiljappaaChecked
import Derived.WalkKit
import Derived.KernelRfl
import Derived.BigQuiet
import Derived.OwnWalk
import Derived.Deep.DeepCutAuto
import Derived.Deep.LoopGhost
namespace Go.Proofs.Ytilddigiljappaa.Clock
open Go.RowKit Base

theorem infoGo : (Try.prog.info? 3).map (fun i => (i.zero, i.size, i.bytes)) = some (some (.int .i64 0), 1, 8) := by kernel_rfl
theorem there_go (x : Int) (w : World) : Calls Try.prog 15 #[.int .i64 x] w fun e w' => e = .returned (.bool (decide (x ≠ 0))) ∧ w' = w := by
  by_cases h : x = 0
  · subst h
    go_enter Try.func15, Try.ntmps15
    go_wp2
    go_ret
    exact ⟨rfl, rfl⟩
  · go_enter Try.func15, Try.ntmps15
    go_wp2
    go_ret
    exact ⟨by simp [h], rfl⟩
theorem wrong_go (x : Int) (w : World) : Calls Try.prog 18 #[.int .i64 x] w fun e w' => e = .returned (.bool (decide (x < 0) || decide (2 < x))) ∧ w' = w := by
  by_cases h : x < 0
  · go_enter Try.func18, Try.ntmps18
    go_wp2
    go_ret
    exact ⟨by simp [h], rfl⟩
  · by_cases h2 : 2 < x
    · go_enter Try.func18, Try.ntmps18
      go_wp2
      go_ret
      exact ⟨by simp [h, h2], rfl⟩
    · go_enter Try.func18, Try.ntmps18
      go_wp2
      go_ret
      exact ⟨by simp [h, h2], rfl⟩
theorem any_take (p : Int → Bool) (d : List Int) (i : Nat) (hi : i < d.length) : (d.take (i + 1)).any p = ((d.take i).any p || p (d.getD i 0)) := by
  rw [List.take_add_one, List.getElem?_eq_getElem hi, List.any_append, List.getD_eq_getElem?_getD, List.getElem?_eq_getElem hi]
  simp
theorem any_at (p : Int → Bool) (d : List Int) (i : Nat) (hi : i < d.length) (h : p (d.getD i 0) = true) : d.any p = true := by
  rw [List.any_eq_true]
  refine ⟨_, List.getElem_mem hi, ?_⟩
  rwa [List.getD_eq_getElem?_getD, List.getElem?_eq_getElem hi] at h

set_option maxHeartbeats 2000000 in
theorem index_there (v : Value) (d : List Int) (hd : d.length ≤ 1000000) (w : World) (hI : IntsIs w v d) :
    Calls Try.prog 19 #[v, .func (.func 15) #[] #[]] w fun e w' => ∃ r : Int, e = .returned (.int .i64 r) ∧ decide (0 ≤ r) = d.any (fun x => decide (x ≠ 0)) ∧ w' = w := by
  obtain ⟨A, C, rfl⟩ := ints_form hI
  obtain ⟨pb, po, hA, hC⟩ := ints_cells hI
  have HA := Lib.hid hA
  have HC := Lib.hid hC
  have HT : Hid (∀ i, i < d.length → (d.take (i + 1)).any (fun x => decide (x ≠ 0)) = ((d.take i).any (fun x => decide (x ≠ 0)) || (fun x => decide (x ≠ 0)) (d.getD i 0))) := Lib.hid (fun i hi => any_take _ d i hi)
  have HAT : Hid (∀ i, i < d.length → (fun x => decide (x ≠ 0)) (d.getD i 0) = true → d.any (fun x => decide (x ≠ 0)) = true) := Lib.hid (fun i hi h => any_at _ d i hi h)
  have HALL : Hid ((d.take d.length).any (fun x => decide (x ≠ 0)) = d.any (fun x => decide (x ≠ 0))) := Lib.hid (by rw [List.take_length])
  have H0 : Hid ((d.take 0).any (fun x => decide (x ≠ 0)) = false) := Lib.hid rfl
  clear hA hC hI
  generalize d.any (fun x => decide (x ≠ 0)) = z at *
  generalize d.length = n at *
  go_enter Try.func19, Try.ntmps19
  go_wp2
  go_loopg [8] n (fun kx vi wr => w = wr ∧ ∃ i : Nat, vi = .int .i64 (i : Int) ∧ i ≤ n ∧ n - i ≤ kx ∧ Hid ((d.take i).any (fun x => decide (x ≠ 0)) = false))
  case atStart => exact ⟨rfl, 0, rfl, Nat.zero_le _, by omega, H0⟩
  case round =>
    obtain ⟨rfl, i, rfl, hi, hk, HP⟩ := hrel
    by_cases hlt : i < n
    · obtain rfl := HA.out (by omega)
      have c1 := (HC.out i hlt).2
      have i1 : (i : Int) < (n : Int) := by omega
      have hcall := there_go (d.getD i 0) w
      have HT1 := Lib.hid (HT.out i hlt)
      have HA1 := Lib.hid (HAT.out i hlt)
      clear HT HAT
      generalize d.getD i 0 = x at *
      obtain ⟨b, hb⟩ : ∃ b, b = (decide (x ≠ 0)) := ⟨_, rfl⟩
      rw [← hb] at hcall
      have HB := Lib.hid hb
      clear hb
      have HCALL := Lib.hid hcall
      clear hcall
      cases b with
      | true =>
        have HX := Lib.hid (HA1.out (by simpa using HB.out.symm))
        clear HT1 HA1 HALL H0 HP
        go_wp2_with fail
        refine HCALL.out.mono ?_
        rintro e w' ⟨rfl, rfl⟩
        clear HCALL
        go_wp2
        go_ret
        exact ⟨_, rfl, by rw [HX.out]; exact decide_eq_true (by omega), rfl⟩
      | false =>
        have HX : Hid ((d.take (i + 1)).any (fun x => decide (x ≠ 0)) = false) := Lib.hid (by rw [HT1.out, HP.out]; simpa using HB.out.symm)
        clear HT1 HA1 HP
        go_wp2_with fail
        refine HCALL.out.mono ?_
        rintro e w' ⟨rfl, rfl⟩
        clear HCALL
        go_wp2
        go_roundg (n - (i + 1))
        case measure => omega
        case rel => exact ⟨rfl, i + 1, by simp, by omega, by omega, HX⟩
    · obtain rfl : i = n := by omega
      rw [HALL.out] at HP
      clear HT HAT HALL H0
      go_wp2
      go_ret
      exact ⟨_, rfl, by rw [HP.out]; rfl, rfl⟩
theorem contains_there (v : Value) (d : List Int) (hd : d.length ≤ 1000000) (w : World) (hI : IntsIs w v d) :
    Calls Try.prog 14 #[v, .func (.func 15) #[] #[]] w fun e w' => e = .returned (.bool (d.any (fun x => decide (x ≠ 0)))) ∧ w' = w := by
  have HCALL := Lib.hid (index_there v d hd w hI)
  generalize d.any (fun x => decide (x ≠ 0)) = z at *
  clear hI hd
  go_enter Try.func14, Try.ntmps14
  go_wp2_with fail
  refine HCALL.out.mono ?_
  rintro e w' ⟨r, rfl, hr, rfl⟩
  have HR := Lib.hid hr
  clear hr HCALL
  go_wp2
  go_ret
  exact ⟨by rw [← HR.out]; rfl, rfl⟩

set_option maxHeartbeats 2000000 in
theorem index_wrong (v : Value) (d : List Int) (hd : d.length ≤ 1000000) (w : World) (hI : IntsIs w v d) :
    Calls Try.prog 19 #[v, .func (.func 18) #[] #[]] w fun e w' => ∃ r : Int, e = .returned (.int .i64 r) ∧ decide (0 ≤ r) = d.any (fun x => decide (x < 0) || decide (2 < x)) ∧ w' = w := by
  obtain ⟨A, C, rfl⟩ := ints_form hI
  obtain ⟨pb, po, hA, hC⟩ := ints_cells hI
  have HA := Lib.hid hA
  have HC := Lib.hid hC
  have HT : Hid (∀ i, i < d.length → (d.take (i + 1)).any (fun x => decide (x < 0) || decide (2 < x)) = ((d.take i).any (fun x => decide (x < 0) || decide (2 < x)) || (fun x => decide (x < 0) || decide (2 < x)) (d.getD i 0))) := Lib.hid (fun i hi => any_take _ d i hi)
  have HAT : Hid (∀ i, i < d.length → (fun x => decide (x < 0) || decide (2 < x)) (d.getD i 0) = true → d.any (fun x => decide (x < 0) || decide (2 < x)) = true) := Lib.hid (fun i hi h => any_at _ d i hi h)
  have HALL : Hid ((d.take d.length).any (fun x => decide (x < 0) || decide (2 < x)) = d.any (fun x => decide (x < 0) || decide (2 < x))) := Lib.hid (by rw [List.take_length])
  have H0 : Hid ((d.take 0).any (fun x => decide (x < 0) || decide (2 < x)) = false) := Lib.hid rfl
  clear hA hC hI
  generalize d.any (fun x => decide (x < 0) || decide (2 < x)) = z at *
  generalize d.length = n at *
  go_enter Try.func19, Try.ntmps19
  go_wp2
  go_loopg [8] n (fun kx vi wr => w = wr ∧ ∃ i : Nat, vi = .int .i64 (i : Int) ∧ i ≤ n ∧ n - i ≤ kx ∧ Hid ((d.take i).any (fun x => decide (x < 0) || decide (2 < x)) = false))
  case atStart => exact ⟨rfl, 0, rfl, Nat.zero_le _, by omega, H0⟩
  case round =>
    obtain ⟨rfl, i, rfl, hi, hk, HP⟩ := hrel
    by_cases hlt : i < n
    · obtain rfl := HA.out (by omega)
      have c1 := (HC.out i hlt).2
      have i1 : (i : Int) < (n : Int) := by omega
      have hcall := wrong_go (d.getD i 0) w
      have HT1 := Lib.hid (HT.out i hlt)
      have HA1 := Lib.hid (HAT.out i hlt)
      clear HT HAT
      generalize d.getD i 0 = x at *
      obtain ⟨b, hb⟩ : ∃ b, b = (decide (x < 0) || decide (2 < x)) := ⟨_, rfl⟩
      rw [← hb] at hcall
      have HB := Lib.hid hb
      clear hb
      have HCALL := Lib.hid hcall
      clear hcall
      cases b with
      | true =>
        have HX := Lib.hid (HA1.out (by simpa using HB.out.symm))
        clear HT1 HA1 HALL H0 HP
        go_wp2_with fail
        refine HCALL.out.mono ?_
        rintro e w' ⟨rfl, rfl⟩
        clear HCALL
        go_wp2
        go_ret
        exact ⟨_, rfl, by rw [HX.out]; exact decide_eq_true (by omega), rfl⟩
      | false =>
        have HX : Hid ((d.take (i + 1)).any (fun x => decide (x < 0) || decide (2 < x)) = false) := Lib.hid (by rw [HT1.out, HP.out]; simpa using HB.out.symm)
        clear HT1 HA1 HP
        go_wp2_with fail
        refine HCALL.out.mono ?_
        rintro e w' ⟨rfl, rfl⟩
        clear HCALL
        go_wp2
        go_roundg (n - (i + 1))
        case measure => omega
        case rel => exact ⟨rfl, i + 1, by simp, by omega, by omega, HX⟩
    · obtain rfl : i = n := by omega
      rw [HALL.out] at HP
      clear HT HAT HALL H0
      go_wp2
      go_ret
      exact ⟨_, rfl, by rw [HP.out]; rfl, rfl⟩
theorem contains_wrong (v : Value) (d : List Int) (hd : d.length ≤ 1000000) (w : World) (hI : IntsIs w v d) :
    Calls Try.prog 14 #[v, .func (.func 18) #[] #[]] w fun e w' => e = .returned (.bool (d.any (fun x => decide (x < 0) || decide (2 < x)))) ∧ w' = w := by
  have HCALL := Lib.hid (index_wrong v d hd w hI)
  generalize d.any (fun x => decide (x < 0) || decide (2 < x)) = z at *
  clear hI hd
  go_enter Try.func14, Try.ntmps14
  go_wp2_with fail
  refine HCALL.out.mono ?_
  rintro e w' ⟨r, rfl, hr, rfl⟩
  have HR := Lib.hid hr
  clear hr HCALL
  go_wp2
  go_ret
  exact ⟨by rw [← HR.out]; rfl, rfl⟩

theorem good_any_is (d : List Int) (h : Int) : goodD d h = (decide (0 ≤ h) && decide (h ≤ (d.length : Int)) && !d.any (fun x => decide (x < 0) || decide (2 < x))) := by
  unfold goodD
  rw [Bool.and_comm]
  congr 1
  rw [List.not_any_eq_all_not]
  congr 1
  funext x
  rw [Bool.eq_iff_iff]
  simp only [Bool.and_eq_true, Bool.not_eq_true', Bool.or_eq_false_iff, decide_eq_true_eq, decide_eq_false_iff_not]
  omega
set_option maxHeartbeats 2000000 in
theorem pgood_same (v : Value) (d : List Int) (h : Int) (hd : d.length ≤ 1000000) (hs : ∀ x ∈ d, I64 x) (hh : I64 h) (w : World) (hI : IntsIs w v d) :
    Calls Try.prog 11 #[v, .int .i64 h] w fun e w' => e = .returned (.bool (goodD d h)) ∧ w' = w := by
  have HCALL := Lib.hid (contains_wrong v d hd w hI)
  have HG := Lib.hid (good_any_is d h)
  obtain ⟨A, C, rfl⟩ := ints_form hI
  clear hI hs
  generalize goodD d h = gd at *
  generalize d.any (fun x => decide (x < 0) || decide (2 < x)) = z at *
  generalize d.length = n at *
  by_cases h1 : 0 ≤ h
  · have d1 : decide (0 ≤ h) = true := decide_eq_true h1
    by_cases h2 : h ≤ (n : Int)
    · have d2 : decide (h ≤ (n : Int)) = true := decide_eq_true h2
      rw [d1, d2] at HG
      go_enter Try.func11, Try.ntmps11
      go_wp2_with fail
      refine HCALL.out.mono ?_
      rintro e w' ⟨rfl, rfl⟩
      clear HCALL
      go_wp2
      go_ret
      exact ⟨by rw [HG.out]; cases z <;> rfl, rfl⟩
    · have d2 : decide (h ≤ (n : Int)) = false := decide_eq_false h2
      rw [d1, d2] at HG
      clear HCALL
      go_enter Try.func11, Try.ntmps11
      go_wp2
      go_ret
      exact ⟨by rw [HG.out]; rfl, rfl⟩
  · have d1 : decide (0 ≤ h) = false := decide_eq_false h1
    rw [d1] at HG
    clear HCALL
    go_enter Try.func11, Try.ntmps11
    go_wp2
    go_ret
    exact ⟨by rw [HG.out]; rfl, rfl⟩
theorem pgood_any (v : Value) (d : List Int) (h : Int) (hd : d.length ≤ 1000000) (hs : ∀ x ∈ d, I64 x) (hh : I64 h) (w : World) (hI : IntsIs w v d) :
    Calls Try.prog 11 #[v, .int .i64 h] w fun e w' => e = .returned (.bool (goodD d h)) ∧ Fr0 w w' :=
  (pgood_same v d h hd hs hh w hI).mono fun _ _ ⟨h1, h2⟩ => ⟨h1, h2 ▸ Fr.refl _ _⟩
theorem okD_is (d : List Int) (h : Int) : okD d h = (goodD d h && d.any (fun x => decide (x ≠ 0))) := by
  unfold okD
  cases hg : goodD d h with
  | false => rfl
  | true =>
    rw [Bool.true_and, Bool.true_and, Bool.eq_iff_iff]
    unfold someD
    simp only [List.any_eq_true, decide_eq_true_eq]
    constructor
    · rintro ⟨x, hx, h0⟩
      exact ⟨x, hx, by omega⟩
    · rintro ⟨x, hx, h0⟩
      obtain ⟨j, hj, rfl⟩ := List.mem_iff_getElem.1 hx
      have := (good_each hg).1 j
      rw [List.getD_eq_getElem?_getD, List.getElem?_eq_getElem hj] at this
      refine ⟨_, hx, ?_⟩
      simp only [Option.getD_some] at this
      omega
set_option maxHeartbeats 2000000 in
theorem clone_go (A : Option Addr) (C : Nat) (d : List Int) (h0 : 0 < d.length) (hd : d.length ≤ 1000000) (w : World) (hI : IntsIs w (.slice A d.length C) d) :
    Calls Try.prog 16 #[.slice A d.length C] w fun e w' => ∃ b C1, e = .returned (.slice (some ⟨b, 0, none⟩) d.length C1) ∧ Own w' w.heap.size 3 (.slice (some ⟨b, 0, none⟩) d.length C1) d ∧ w.heap.size ≤ b ∧ Fr0 w w' := by
  have HI := Lib.hid hI
  obtain ⟨pb, po, hA, -⟩ := ints_cells hI
  obtain rfl := hA h0
  have q22 : ∀ (w : World) (a : Option Addr) (n c n' c' : Nat), (binOp .eql 23 (.slice a n c) (.slice none n' c')).run Try.prog w = .ok (.bool a.isNone) w := fun w a n c n' c' => Lib.run_eql_slice_nil w _ _ a n c n' c' Try.underlying23
  have HF0 := Lib.hid ((Fr.refl (fun _ => False) w).alloc (.cells #[] 3))
  have HO0 : Hid ((w.alloc (.cells #[] 3)).ownsRow w.heap.size 3 1 (.slice (some ⟨w.heap.size, 0, none⟩) 0 0) 0 []) := Lib.hid (Own.fresh w 3 (Nat.le_refl _))
  have HPA := Lib.hid ((vals_of_ints hI).fr0 HF0.out)
  have HLN : Hid ((icells d).length = d.length) := Lib.hid (icells_length d)
  have HL1 := Lib.hid (icells_one d)
  obtain ⟨n, hn⟩ : ∃ n, d.length = n := ⟨_, rfl⟩
  have HN := Lib.hid hn
  clear hI hA HI
  rw [hn] at HPA HLN h0 hd ⊢
  clear hn
  go_enter Try.func16, Try.ntmps16
  go_wp2_with (at_builtin; (refine wpList_append_valsM rfl (.tmp 5) (.tmp 6) 23 rfl (w.heap.size) 3 Try.underlying23 (.int .i64 0) 1 8 infoGo rfl (by decide) _ _ 0 n [] (icells d) rfl rfl HO0.out HPA.out (by have := HLN.out; omega) (HL1.out) (by unfold maxLen; omega) (by omega) (by exact HF0.out.size) ?_); intro v1 w2 hO1 hG1 _; obtain ⟨b1, C1, hv1, ho1, hb1, hf1⟩ := Own.cloned HN.out h0 hO1 hG1; subst hv1; have HO1 : Hid (Own w2 w.heap.size 3 (.slice (some ⟨b1, 0, none⟩) n C1) d) := Lib.hid ho1; have HBG : Hid (w.heap.size ≤ b1) := Lib.hid hb1; have HF1 : Hid (Fr0 w w2) := Lib.hid hf1; clear hO1 hG1 hb1 ho1 hf1)
  go_ret
  exact ⟨b1, C1, rfl, HO1.out, HBG.out, HF1.out⟩
set_option maxHeartbeats 4000000 in
set_option maxRecDepth 100000 in
theorem pnext_any (v : Value) (d : List Int) (h : Int) (hd : d.length ≤ 1000000) (hs : ∀ x ∈ d, I64 x) (hh : I64 h) (w : World) (hI : IntsIs w v d) :
    Calls Try.prog 8 #[v, .int .i64 h] w (NextPost d h w) := by
  have HGD := Lib.hid (pgood_same v d h hd hs hh w hI)
  have HCT := Lib.hid (contains_there v d hd w hI)
  obtain ⟨A, C, rfl⟩ := ints_form hI
  have HCL := Lib.hid (fun h0 => clone_go A C d h0 hd w hI)
  have HNO : Hid (∀ w', okD d h = false → Fr0 w w' → NextPost d h w (.returned (.tuple #[.int .i64 0, .slice none 0 0, .int .i64 0, .bool false])) w') := Lib.hid (fun w' h1 h2 => next_no h1 h2)
  have HOK := Lib.hid (okD_is d h)
  have HGE : Hid (goodD d h = true → 0 ≤ h ∧ h ≤ (d.length : Int)) := Lib.hid (fun hg => (good_each hg).2)
  have HWENT : Hid (okD d h = true → ∃ r m tz, nextS d h = (r, m, tz) ∧ Went d h.toNat r m tz) := Lib.hid (fun ho => by
    obtain ⟨r, m, tz, h1, h2, _⟩ := next_went ho
    exact ⟨r, m, tz, h1, h2⟩)
  clear hI hs
  generalize hPT : NextPost d h w = post at *
  have HYES : Hid (∀ r m tz w' mv B, nextS d h = (r, m, tz) → okD d h = true → Own w' B 3 mv m → w.heap.size ≤ B → Fr0 w w' → post (.returned (.tuple #[.int .i64 (r : Int), mv, .int .i64 (tz : Int), .bool true])) w') := Lib.hid (fun r m tz w' mv B h1 h2 h3 h4 h5 => by
    rw [← hPT]
    refine ⟨mv, by rw [h1, h2], by rw [h1]; exact h3.ints, h5, fun a n c hv => ?_⟩
    obtain ⟨A, C, hf, hb⟩ := h3.form
    rw [hf] at hv
    cases hv
    exact Nat.le_trans h4 (hb a rfl).1)
  clear hPT
  generalize goodD d h = gd at *
  generalize d.any (fun x => decide (x ≠ 0)) = z at *
  obtain ⟨n, hn⟩ : ∃ n, d.length = n := ⟨_, rfl⟩
  have HN := Lib.hid hn
  rw [hn] at HGD HCT HCL HGE hd ⊢
  clear hn
  go_enter Try.func8, Try.ntmps8
  go_wp2_with fail
  refine HGD.out.mono ?_
  rintro e w1 ⟨rfl, rfl⟩
  clear HGD
  cases gd with
  | false =>
    have HX := Lib.hid (HNO.out w1 HOK.out (Fr.refl _ _))
    clear HNO HOK HYES HWENT HGE HCT HCL
    go_wp2
    refine bodyPost_ret (res4 rfl _ _ _) rfl ?_
    exact HX.out
  | true =>
    go_wp2_with fail
    refine HCT.out.mono ?_
    rintro e w2 ⟨rfl, rfl⟩
    clear HCT
    cases z with
    | false =>
      have HX := Lib.hid (HNO.out w2 HOK.out (Fr.refl _ _))
      clear HNO HOK HYES HWENT HGE HCL
      go_wp2
      refine bodyPost_ret (res4 rfl _ _ _) rfl ?_
      exact HX.out
    | true =>
      have HOKT : Hid (okD d h = true) := Lib.hid HOK.out
      obtain ⟨r, m, tz, hnx, hwent⟩ := HWENT.out HOKT.out
      have HNX := Lib.hid hnx
      have HWN := Lib.hid hwent
      obtain ⟨hh1, hh2⟩ := HGE.out (by simp)
      obtain ⟨h0, rfl⟩ := Int.eq_ofNat_of_zero_le hh1
      rw [Int.toNat_natCast] at HWN
      have hh0 : h0 ≤ n := by omega
      have hr := hwent.lt
      rw [HN.out] at hr
      have hi0 : 0 < n := by omega
      clear hnx hwent HNO HOK HWENT HGE hh1 hh2 hr
      go_wp2_with fail
      refine (HCL.out hi0).mono ?_
      rintro e w3 ⟨b1, C1, rfl, ho1, hb1, hf1⟩
      have HO1 := Lib.hid ho1
      have HBG := Lib.hid hb1
      have HF1 := Lib.hid hf1
      clear ho1 hb1 hf1 HCL
      obtain ⟨x0, hx0⟩ : ∃ x0, h0 % n = x0 := ⟨_, rfl⟩
      have hx1 : x0 < n := by rw [← hx0]; exact Nat.mod_lt _ hi0
      have htm : Int.tmod (h0 : Int) (n : Int) = (x0 : Int) := by rw [← hx0]; rfl
      have hnz : ¬ (n : Int) = 0 := by omega
      have HST0 : Hid (goN (2 * n + 2) d x0 = (r, m, tz)) := Lib.hid (by
        have h1 := HWN.out.is
        rw [HN.out] at h1
        rw [← hx0]
        rcases Nat.lt_or_ge h0 n with h2 | h2
        · rw [Nat.mod_eq_of_lt h2]; exact h1
        · obtain rfl : h0 = n := by omega
          rw [Nat.mod_self, ← h1]
          exact (goN_wrap _ d h0 (by rw [HN.out]; exact Nat.le_refl _)).symm)
      have HLOST : Hid (∀ m' h' f, goN f m' h' = (r, m, tz) → f ≠ 0) := Lib.hid (fun m' h' f hf h0 => by
        subst h0
        have hl := HWN.out.len
        have : m = [] := by
          have := congrArg (fun q => q.2.1) hf
          exact this.symm
        rw [this, HN.out] at hl
        simp at hl
        omega)
      have h0n : (h0 : Int) ≤ (n : Int) := by omega
      clear hx0 HWN
      generalize hB0 : w2.heap.size = B0 at *
      have HB0 := Lib.hid hB0
      clear hB0
      go_wp2_with fail
      go_loopg [4] (2 * n + 2) (fun kx vh wr => ∃ (k x : Nat) (m' : List Int), vh = .int .i64 (x : Int) ∧ k ≤ 2 * n + 2 ∧ 2 * n + 2 - k ≤ kx ∧ x < n ∧ Hid (Own wr B0 3 (.slice (some ⟨b1, 0, none⟩) n C1) m') ∧ Hid (m'.length = n) ∧ Hid (goN (2 * n + 2 - k) m' x = (r, m, tz)) ∧ Hid (Fr0 w2 wr))
      case atStart => exact ⟨0, x0, d, rfl, Nat.zero_le _, by omega, hx1, HO1, HN, HST0, HF1⟩
      case round =>
        obtain ⟨k, x, m', rfl, hk1, hk2, hx, HOW, HML, HGO, HFR⟩ := hrel
        clear HST0 HO1 HF1 htm hx1
        have hk3 : k < 2 * n + 2 := by
          have := HLOST.out _ _ _ HGO.out
          omega
        obtain ⟨f, hf⟩ : ∃ f, 2 * n + 2 - k = f + 1 := ⟨2 * n + 2 - k - 1, by omega⟩
        have hf2 : f = 2 * n + 2 - (k + 1) := by omega
        rw [hf] at HGO
        have hstep : (m'.getD x 0 = 1 → r = x ∧ m = m'.set x 0 ∧ tz = if n ≤ x + 1 then 0 else x + 1) ∧ (m'.getD x 0 ≠ 1 → goN f (if m'.getD x 0 = 2 then m'.set x 1 else m') ((x + 1) % n) = (r, m, tz)) := by
          have h := HGO.out
          rw [goN_in f m' x (by rw [HML.out]; exact hx), HML.out] at h
          refine ⟨fun h1 => ?_, fun h1 => ?_⟩
          · rw [if_pos h1] at h
            simp only [Prod.mk.injEq] at h
            exact ⟨h.1.symm, h.2.1.symm, h.2.2.symm⟩
          · rw [if_neg h1] at h
            rcases Nat.lt_or_ge (x + 1) n with h2 | h2
            · rw [Nat.mod_eq_of_lt h2]; exact h
            · obtain h3 : x + 1 = n := by omega
              rw [h3, Nat.mod_self, ← h, h3]
              refine (goN_wrap _ _ _ ?_).symm
              split <;> simp [HML.out]
        have H1 := Lib.hid hstep.1
        have H2 := Lib.hid hstep.2
        have hset : ∀ (y : Int), Own (wr.setCell ⟨b1, x, none⟩ (.int .i64 y)) B0 3 (.slice (some ⟨b1, 0, none⟩) n C1) (m'.set x y) ∧ Fr0 w2 (wr.setCell ⟨b1, x, none⟩ (.int .i64 y)) := fun y => by
          have ho : Own wr B0 3 (.slice (some ⟨b1, 0, none⟩) m'.length C1) m' := by rw [HML.out]; exact HOW.out
          have h1 := ho.set x y
          rw [HML.out] at h1
          exact ⟨h1, Fr.setCell HFR.out (fun h => by have := HBG.out; have := HB0.out; have h' : b1 < w2.heap.size := h; omega) _⟩
        have hcel : wr.cell? ⟨b1, x, none⟩ = some (.int .i64 (m'.getD x 0)) ∧ wr.frozen? ⟨b1, x, none⟩ = false := by
          have ho : Own wr B0 3 (.slice (some ⟨b1, 0, none⟩) m'.length C1) m' := by rw [HML.out]; exact HOW.out
          exact ho.cell x (by rw [HML.out]; exact hx)
        obtain ⟨k0, z0⟩ := hcel
        obtain ⟨hs0, hf0⟩ := hset 0
        obtain ⟨hs1, hf1⟩ := hset 1
        have HSO0 := Lib.hid hs0
        have HSF0 := Lib.hid hf0
        have HSO1 := Lib.hid hs1
        have HSF1 := Lib.hid hf1
        clear hstep hset hs0 hf0 hs1 hf1 HGO HLOST
        have x1 : (x : Int) < (n : Int) := by omega
        have x2 : 0 ≤ (x : Int) := by omega
        obtain ⟨y, hy⟩ : ∃ y, (x + 1) % n = y := ⟨_, rfl⟩
        have hy1 : y < n := by rw [← hy]; exact Nat.mod_lt _ hi0
        have htm : Int.tmod ((x : Int) + 1) (n : Int) = (y : Int) := by rw [← hy]; rfl
        have HY : Hid ((if n ≤ x + 1 then 0 else x + 1) = y) := Lib.hid (by
          rw [← hy]
          split
          · rw [show x + 1 = n by omega, Nat.mod_self]
          · rw [Nat.mod_eq_of_lt (by omega)])
        rw [hy] at H2
        clear hy
        generalize hX : m'.getD x 0 = u at *
        clear hX
        by_cases e1 : u = 1
        · subst e1
          obtain ⟨q1, q2, q3⟩ := H1.out rfl
          have HSO : Hid (Own (wr.setCell ⟨b1, x, none⟩ (.int .i64 0)) B0 3 (.slice (some ⟨b1, 0, none⟩) n C1) m) := Lib.hid (by rw [q2]; exact HSO0.out)
          have HP := Lib.hid (fun q => HYES.out r m tz _ _ _ HNX.out HOKT.out (HSO.out.fr0 ((Fr.refl _ _).drewN q)) (Nat.le_refl _) (HSF0.out.drewN q))
          rw [HY.out] at q3
          rw [q1, q3] at HP
          clear H1 H2 HSO0 HSO1 HSF0 HSF1 HSO HYES HNX q1 q2 q3 HOW HML HN HY HFR HB0 HBG HOKT hf2 hf hk1 hk2 hk3
          go_wp2_with (first | go_quiet (fail))
          refine bodyPost_ret (res4 rfl _ _ _) rfl ?_
          exact HP.out _
        · have HG := Lib.hid (H2.out e1)
          by_cases e2 : u = 2
          · subst e2
            rw [if_pos rfl] at HG
            clear H1 H2 HSO0 HSF0 HY
            go_wp2
            go_roundg (2 * n + 2 - (k + 1))
            case measure => omega
            case rel => exact ⟨k + 1, y, _, rfl, by omega, by omega, hy1, HSO1, Lib.hid (by rw [List.length_set]; exact HML.out), Lib.hid (by rw [← hf2]; exact HG.out), HSF1⟩
          · rw [if_neg e2] at HG
            clear H1 H2 HSO0 HSF0 HSO1 HSF1 HY
            go_wp2
            go_roundg (2 * n + 2 - (k + 1))
            case measure => omega
            case rel => exact ⟨k + 1, y, m', rfl, by omega, by omega, hy1, HOW, HML, Lib.hid (by rw [← hf2]; exact HG.out), HFR⟩
/-! who has a mark, as the hand goes round -/
theorem rot_at {n h i : Nat} (hh : h ≤ n) (hi : i < n) : (rot n h)[i]? = some ((h + i) % n) := by
  unfold rot
  rw [List.getElem?_append]
  simp only [List.length_drop, List.length_range]
  split
  · rw [List.getElem?_drop, List.getElem?_range (by omega), Nat.mod_eq_of_lt (by omega)]
  · rw [List.getElem?_take, if_pos (by omega), List.getElem?_range (by omega), Nat.mod_eq_sub_mod (by omega), Nat.mod_eq_of_lt (by omega)]
    congr 1
    omega
def mkd (d : List Int) (h : Nat) (k : Int) (i : Nat) : List Int := (((rot d.length h).take i).filter fun i => d.getD i 0 == k).map fun i : Nat => (i : Int)
theorem mkd_step {d : List Int} {h : Nat} {k : Int} {i : Nat} (hh : h ≤ d.length) (hi : i < d.length) : mkd d h k (i + 1) = if d.getD ((h + i) % d.length) 0 = k then mkd d h k i ++ [(((h + i) % d.length : Nat) : Int)] else mkd d h k i := by
  unfold mkd
  rw [List.take_add_one, rot_at hh hi, Option.toList_some, List.filter_append, List.map_append]
  split
  · rename_i h1
    rw [List.filter_cons_of_pos (by simpa using h1)]
    rfl
  · rename_i h1
    rw [List.filter_cons_of_neg (by simpa using h1)]
    simp
theorem mkd_le (d : List Int) (h : Nat) (k : Int) (i : Nat) : (mkd d h k i).length ≤ i := by
  unfold mkd
  rw [List.length_map]
  exact Nat.le_trans (List.length_filter_le _ _) (by rw [List.length_take]; omega)
theorem mkd_all {d : List Int} {h : Int} (hg : goodD d h = true) : mkd d h.toNat 1 d.length ++ mkd d h.toNat 2 d.length = (orderS d h).map fun i : Nat => (i : Int) := by
  have e : (rot d.length h.toNat).take d.length = rot d.length h.toNat := List.take_of_length_le (by rw [rot_length]; exact Nat.le_refl _)
  unfold mkd
  rw [orderS_is hg, List.map_append, e]
theorem one_go (w : World) (x : Int) (t : TypeId) : ValsIs (w.alloc (.cells #[.int .i64 x] t)) (.slice (some ⟨w.heap.size, 0, none⟩) 1 1) 1 [.int .i64 x] := by
  refine ⟨_, 1, w.heap.size, 0, rfl, Nat.le_refl _, fun _ => rfl, fun j hj => ?_⟩
  obtain rfl : j = 0 := by simpa using hj
  rw [cell_of_row _ _ _ _ _ _ (heap_alloc_new w _)]
  rfl
theorem Own.snoc {w : World} {B : Nat} {e : TypeId} {v : Value} {l : List Int} {x : Int} (h : w.ownsRow B e 1 v (l.length + 1) (icells l ++ [.int .i64 x])) : Own w B e v (l ++ [x]) := by
  unfold Own
  rw [List.length_append, icells_app]
  exact h
set_option maxHeartbeats 4000000 in
theorem marked_go (A : Option Addr) (C : Nat) (d : List Int) (h : Nat) (k : Int) (hd : d.length ≤ 1000000) (hh : h ≤ d.length) (w : World) (hI : IntsIs w (.slice A d.length C) d) :
    Calls Try.prog 17 #[.slice A d.length C, .int .i64 (h : Int), .int .i64 k] w fun e w' => ∃ v, e = .returned v ∧ Own w' w.heap.size 3 v (mkd d h k d.length) ∧ Fr0 w w' := by
  have HI := Lib.hid hI
  have HST : Hid (∀ i, i < d.length → mkd d h k (i + 1) = if d.getD ((h + i) % d.length) 0 = k then mkd d h k i ++ [(((h + i) % d.length : Nat) : Int)] else mkd d h k i) := Lib.hid (fun i hi => mkd_step hh hi)
  have HLE := Lib.hid (mkd_le d h k)
  have H0 : Hid (mkd d h k 0 = []) := Lib.hid rfl
  have HB : Hid (∀ w', Fr0 w w' → ∀ j, j < d.length → A = some ⟨(A.getD ⟨0, 0, none⟩).block, (A.getD ⟨0, 0, none⟩).off, none⟩ ∧ w'.cell? ⟨(A.getD ⟨0, 0, none⟩).block, (A.getD ⟨0, 0, none⟩).off + j, none⟩ = some (.int .i64 (d.getD j 0))) := Lib.hid (fun w' hf j hj => by
    obtain ⟨pb, po, hA, hC⟩ := ints_cells hI
    obtain rfl := hA (by omega)
    obtain ⟨h1, h2⟩ := hC j hj
    exact ⟨rfl, by rw [← h2]; exact hf.cell h1 (fun f => f)⟩)
  clear hI HI
  generalize mkd d h k = M at *
  generalize d.length = n at *
  go_enter Try.func17, Try.ntmps17
  go_wp2_with fail
  go_loopg [7, 12] n (fun kx v vi wr => ∃ (i : Nat), vi = .int .i64 (i : Int) ∧ i ≤ n ∧ n - i ≤ kx ∧ Hid (Own wr w.heap.size 3 v (M i)) ∧ Hid (Fr0 w wr))
  case atStart => exact ⟨0, rfl, Nat.zero_le _, by omega, Lib.hid (by rw [H0.out]; exact Own.nil w _), Lib.hid (Fr.refl _ _)⟩
  case round =>
    obtain ⟨i, rfl, hi, hk, HO, HF⟩ := hrel
    by_cases hlt : i < n
    · obtain ⟨x, hx⟩ : ∃ x, (h + i) % n = x := ⟨_, rfl⟩
      have hxn : x < n := by rw [← hx]; exact Nat.mod_lt _ (by omega)
      have htm : Int.tmod ((h : Int) + (i : Int)) (n : Int) = (x : Int) := by rw [← hx]; rfl
      obtain ⟨hA, c1⟩ := HB.out wr HF.out x hxn
      have hst := HST.out i hlt
      rw [hx] at hst
      generalize (A.getD ⟨0, 0, none⟩).block = pb at *
      generalize (A.getD ⟨0, 0, none⟩).off = po at *
      subst hA
      have HS := Lib.hid hst
      have hkl := HLE.out i
      have hws := HF.out.size
      have i1 : (i : Int) < (n : Int) := by omega
      have x1 : (x : Int) < (n : Int) := by omega
      have x2 : 0 ≤ (x : Int) := by omega
      have hnz : ¬ (n : Int) = 0 := by omega
      have h1 : (h : Int) ≤ (n : Int) := by omega
      clear HST HB hst hx
      generalize d.getD x 0 = y at *
      by_cases hy : y = k
      · subst hy
        rw [if_pos rfl] at HS
        have HSA := Lib.hid ((Fr.refl (fun _ => False) wr).alloc (.cells #[.int .i64 (x : Int)] 3))
        have HW := Lib.hid hws
        go_wp2_with (refine wpList_append_vals rfl (.tmp 27) (.tmp 29) 23 rfl w.heap.size 3 Try.underlying23 (.int .i64 0) 1 8 infoGo rfl (by decide) _ _ (M i).length 1 (icells (M i)) [.int .i64 (x : Int)] rfl rfl (HO.out.alloc _) (one_go wr _ _) rfl (by intro u hu; simp at hu; subst hu; rfl) (by unfold maxLen; omega) (by omega) (Nat.le_trans HW.out HSA.out.size) ?_; intro v2 w2 hO2 hG2)
        have HO3 : Hid (Own w2 w.heap.size 3 v2 (M (i + 1))) := Lib.hid (by rw [HS.out]; exact Own.snoc hO2)
        have HF3 : Hid (Fr0 w w2) := Lib.hid ((HF.out.trans' HSA.out).grown hG2 (fun q hq e => by have := HO.out.lt q e; omega))
        clear hO2 hG2 HSA HO HF
        go_wp2
        go_roundg (n - (i + 1))
        case measure => omega
        case rel => exact ⟨i + 1, by simp, by omega, by omega, HO3, HF3⟩
      · rw [if_neg hy] at HS
        rw [← HS.out] at HO
        go_wp2
        go_roundg (n - (i + 1))
        case measure => omega
        case rel => exact ⟨i + 1, by simp, by omega, by omega, HO, HF⟩
    · obtain rfl : i = n := by omega
      clear HST HB
      go_wp2
      go_ret
      exact ⟨_, rfl, HO.out, HF.out⟩
set_option maxHeartbeats 4000000 in
theorem porder_any (v : Value) (d : List Int) (h : Int) (hd : d.length ≤ 1000000) (hs : ∀ x ∈ d, I64 x) (hh : I64 h) (w : World) (hI : IntsIs w v d) :
    Calls Try.prog 10 #[v, .int .i64 h] w fun e w' => ∃ v', e = .returned v' ∧ IntsIs w' v' ((orderS d h).map fun i : Nat => (i : Int)) ∧ Fr0 w w' := by
  have HGD := Lib.hid (pgood_same v d h hd hs hh w hI)
  obtain ⟨A, C, rfl⟩ := ints_form hI
  have HI := Lib.hid hI
  have HD := Lib.hid hd
  cases hg : goodD d h with
  | false =>
    have HX : Hid ((orderS d h).map (fun i : Nat => (i : Int)) = []) := Lib.hid (by unfold orderS; rw [hg]; rfl)
    rw [hg] at HGD
    clear hI hs hg HI
    generalize d.length = n at *
    go_enter Try.func10, Try.ntmps10
    go_wp2_with fail
    refine HGD.out.mono ?_
    rintro e w1 ⟨rfl, rfl⟩
    clear HGD
    go_wp2
    go_ret
    exact ⟨_, rfl, by rw [HX.out]; exact IntsIs.nil _, Fr.refl _ _⟩
  | true =>
    have HX := Lib.hid (mkd_all hg)
    obtain ⟨hh1, hh2⟩ := (good_each hg).2
    obtain ⟨h0, rfl⟩ := Int.eq_ofNat_of_zero_le hh1
    have HM1 := Lib.hid (fun w' hI' => marked_go A C d h0 1 hd (by omega) w' hI')
    have HM2 := Lib.hid (fun w' hI' => marked_go A C d h0 2 hd (by omega) w' hI')
    have hl1 := mkd_le d h0 1 d.length
    have hl2 := mkd_le d h0 2 d.length
    rw [hg] at HGD
    rw [Int.toNat_natCast] at HX
    clear hI hs hg hh1 hh2
    generalize mkd d h0 1 d.length = M1 at *
    generalize mkd d h0 2 d.length = M2 at *
    generalize (orderS d (h0 : Int)).map (fun i : Nat => (i : Int)) = R at *
    generalize d.length = n at *
    go_enter Try.func10, Try.ntmps10
    go_wp2_with fail
    refine HGD.out.mono ?_
    rintro e w1 ⟨rfl, rfl⟩
    clear HGD
    go_wp2_with fail
    refine (HM1.out _ HI.out).mono ?_
    rintro e w2 ⟨v1, rfl, ho1, hf1⟩
    have HO1 := Lib.hid ho1
    have HF1 := Lib.hid hf1
    clear ho1 hf1 HM1
    go_wp2_with fail
    refine (HM2.out _ (HI.out.fr0 HF1.out)).mono ?_
    rintro e w3 ⟨v2, rfl, ho2, hf2⟩
    have HO2 : Hid (w3.ownsRow w1.heap.size 3 1 v1 M1.length (icells M1)) := Lib.hid (HO1.out.fr0 hf2)
    have HV2 := Lib.hid (vals_of_ints ho2.ints)
    have HF2 := Lib.hid (HF1.out.trans' hf2)
    clear ho2 hf2 HM2 HI HO1 HF1
    go_wp2_with (at_builtin; refine wpList_append_valsM rfl (.tmp 11) (.tmp 14) 23 rfl w1.heap.size 3 Try.underlying23 (.int .i64 0) 1 8 infoGo rfl (by decide) v1 v2 M1.length M2.length (icells M1) (icells M2) rfl rfl HO2.out HV2.out (by rw [icells_length, Nat.mul_one]) (icells_one M2) (by unfold maxLen; omega) (by omega) HF2.out.size ?_; intro v3 w4 hO3 hG3 _)
    have HO3 : Hid (Own w4 w1.heap.size 3 v3 (M1 ++ M2)) := Lib.hid (by unfold Own; rw [List.length_append, icells_app]; exact hO3)
    have HF3 : Hid (Fr0 w1 w4) := Lib.hid (HF2.out.grown hG3 (fun q hq e => by have := World.ownsRow.lt HO2.out q e; omega))
    clear hO3 hG3
    go_ret
    exact ⟨_, rfl, by rw [← HX.out]; exact HO3.out.ints, HF3.out⟩
end Go.Proofs.Ytilddigiljappaa.Clock
