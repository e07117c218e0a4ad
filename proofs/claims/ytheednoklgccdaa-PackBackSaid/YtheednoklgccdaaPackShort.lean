/-
  PackShort: what is cut short is told to end too soon: the walk.
-/
import Derived.Test.YtheednoklgccdaaPackAwake
namespace Go.Proofs.Ytheednoklgccdaa.Pack
open Go.RowKit Base

theorem bytesW_ok {l p : List UInt8} (h : p.length ≤ 65535) : bytesW l p = l ++ be 2 p.length ++ p := by unfold bytesW; rw [if_neg (by omega)]
theorem num_be8 (x : Nat) (h : x < 18446744073709551616) : num (be 8 x) = x := by rw [num_be]; exact Nat.mod_eq_of_lt h
theorem num_be2 (x : Nat) (h : x ≤ 65535) : num (be 2 x) = x := by rw [num_be]; exact Nat.mod_eq_of_lt (by show x < 65536; omega)
theorem cutOut_short {n : Nat} {l : List UInt8} (h : l.length < n) : cutOut n l = [] := by unfold cutOut; rw [if_pos h]
theorem cutRest_short {n : Nat} {l : List UInt8} (h : l.length < n) : cutRest n l = [] := by unfold cutRest; rw [if_pos h]
theorem cutErr_short {n : Nat} {l : List UInt8} {e : Int} (h : l.length < n) : cutErr n l e = failE 3 e := by unfold cutErr; rw [if_pos h]
theorem cut_app {n : Nat} (l m : List UInt8) (e : Int) (h : l.length = n) : cutOut n (l ++ m) = l ∧ cutRest n (l ++ m) = m ∧ cutErr n (l ++ m) e = e := by
  subst h
  unfold cutOut cutRest cutErr
  have : ¬ (l ++ m).length < l.length := by simp
  rw [if_neg this, if_neg this, if_neg this]
  simp
theorem take_app (l m : List UInt8) (n : Nat) (h : l.length ≤ n) : (l ++ m).take n = l ++ m.take (n - l.length) := by
  rw [List.take_append]
  rw [List.take_of_length_le h]
theorem short_facts (x : Nat) (p : List UInt8) (m : Nat) (hx : x < 18446744073709551616) (hp : p.length ≤ 65535) (hm : m < 10 + p.length) :
    num (cutOut 8 ((be 8 x ++ be 2 p.length ++ p).take m)) = (if m < 8 then 0 else x) ∧
    bytesOut 65535 (cutRest 8 ((be 8 x ++ be 2 p.length ++ p).take m)) = [] ∧ bytesRest 65535 (cutRest 8 ((be 8 x ++ be 2 p.length ++ p).take m)) = [] ∧
    bytesErr 65535 (cutRest 8 ((be 8 x ++ be 2 p.length ++ p).take m)) (cutErr 8 ((be 8 x ++ be 2 p.length ++ p).take m) 0) = 3 := by
  by_cases h8 : m < 8
  · have hl : ((be 8 x ++ be 2 p.length ++ p).take m).length < 8 := by simp; omega
    rw [if_pos h8, cutOut_short hl, cutRest_short hl, cutErr_short hl]
    exact ⟨rfl, by decide, by decide, by decide⟩
  · rw [if_neg h8, List.append_assoc, take_app _ _ _ (by rw [be_length]; omega), be_length]
    obtain ⟨e1, e2, e3⟩ := cut_app (n := 8) (be 8 x) ((be 2 p.length ++ p).take (m - 8)) 0 (be_length 8 x)
    rw [e1, e2, e3, num_be8 x hx]
    refine ⟨rfl, ?_⟩
    unfold bytesOut bytesRest bytesErr
    by_cases h10 : m < 10
    · have hl : ((be 2 p.length ++ p).take (m - 8)).length < 2 := by simp; omega
      rw [cutOut_short hl, cutRest_short hl, cutErr_short hl]
      exact ⟨by decide, by decide, by decide⟩
    · rw [take_app _ _ _ (by rw [be_length]; omega), be_length]
      obtain ⟨e4, e5, e6⟩ := cut_app (n := 2) (be 2 p.length) (p.take (m - 8 - 2)) 0 (be_length 2 _)
      rw [e4, e5, e6, num_be2 _ hp, if_neg (by omega), if_neg (by omega), if_neg (by omega)]
      have hl : (p.take (m - 8 - 2)).length < p.length := by simp; omega
      exact ⟨cutOut_short hl, cutRest_short hl, by rw [cutErr_short hl]; rfl⟩
set_option maxHeartbeats 2000000 in
set_option maxRecDepth 100000 in
theorem packShort_walk (x : Nat) (hx : x < 18446744073709551616) (v : Value) (p : List UInt8) (hp : p.length ≤ 9223372036854775807) (n : Int) (hn : -9223372036854775808 ≤ n ∧ n ≤ 9223372036854775807) (w : World) (hB : BytesIs w v p) :
    Calls Try.prog 6 #[.int .u64 (x : Int), v, .int .i64 n] w fun e w' => e = .returned (.bool true) ∧ Fr0 w w' := by
  have HB := Lib.hid hB
  obtain ⟨a0, c0, rfl⟩ := hB.form
  clear hB
  have HL8 : Hid ((be 8 x).length = 8) := Lib.hid (be_length 8 x)
  go_enter Try.func6, Try.ntmps6
  go_wp2_with fail
  refine (awake_any w).mono ?_
  rintro e w1 ⟨rfl, hF1⟩
  have HF1 := Lib.hid hF1
  clear hF1
  go_wp2_with fail
  refine (u64_any (.slice none 0 0) [] x hx (by decide) w1 (BytesIs.nil w1)).mono ?_
  rintro e w2 ⟨v2, rfl, hB2, hF2⟩
  rw [List.nil_append] at hB2
  have HB2 := Lib.hid hB2
  have HF2 := Lib.hid (HF1.out.trans' hF2)
  clear hB2 hF2
  go_wp2_with fail
  refine (bytes_any v2 _ (be 8 x) p (by rw [HL8.out]; decide) hp w2 HB2.out (HB.out.fr0 HF2.out)).mono ?_
  rintro e w3 ⟨v3, rfl, hB3, hF3⟩
  have HF3 := Lib.hid (HF2.out.trans' hF3)
  have HB3 := Lib.hid hB3
  clear hF3
  by_cases h1 : 65535 < p.length
  · have hok : bytesOk p = false := by unfold bytesOk; simp; omega
    rw [hok]
    clear hok hB3
    go_wp2
    go_ret
    exact ⟨rfl, HF3.out⟩
  · have hok : bytesOk p = true := by unfold bytesOk; simp; omega
    rw [hok]
    clear hok
    rw [bytesW_ok (by omega)] at hB3
    have HB3 := Lib.hid hB3
    by_cases h2 : 1000 < p.length
    · clear hB3
      go_wp2
      go_ret
      exact ⟨rfl, HF3.out⟩
    · by_cases h3 : n < 0
      · clear hB3
        go_wp2
        go_ret
        exact ⟨rfl, HF3.out⟩
      · obtain ⟨m, rfl⟩ := Int.eq_ofNat_of_zero_le (show 0 ≤ n by omega)
        obtain ⟨a3, c3, rfl⟩ := hB3.form
        clear hB3
        have hlen : (be 8 x ++ be 2 p.length ++ p).length = 10 + p.length := by simp [be_length]; omega
        by_cases h4 : m < 10 + p.length
        · have hs := short_facts x p m hx (by omega) h4
          have HB4 := Lib.hid (BytesIs.takeHi (n := m) (by omega) HB3.out)
          have HTL : Hid (((be 8 x ++ be 2 p.length ++ p).take m).length ≤ 2000) := Lib.hid (by rw [List.length_take, hlen]; omega)
          have hcap : 10 + p.length ≤ c3 := by obtain ⟨_, _, _, _, he, h1, _⟩ := HB3.out; simp only [Value.slice.injEq] at he; rw [he.2.2, ← hlen]; exact h1
          have hs1 := fun wx : World => cut_hi_at (P := Try.prog) 23 5 Try.underlying23 (by kernel_rfl) a3 (10 + p.length) c3 m (by omega) wx
          rw [hlen]
          generalize (be 8 x ++ be 2 p.length ++ p).take m = l at *
          clear hlen
          go_wp2_with fail
          refine (new_any _ l (by have := HTL.out; omega) w3 HB4.out).mono ?_
          rintro e w4 ⟨g, rfl, hg, hR4, hF4⟩
          have HR4 := Lib.hid hR4
          have HF4 := Lib.hid (HF3.out.trans' hF4)
          have HG : Hid (w.heap.size ≤ g) := Lib.hid (Nat.le_trans HF3.out.size hg)
          have HRL : Hid ((cutRest 8 l).length ≤ 2000) := Lib.hid (by have := HTL.out; unfold cutRest; split <;> simp <;> omega)
          clear hR4 hF4 hg hs1 hcap
          obtain ⟨s1, s2, s3, s4⟩ := hs
          have S2 := Lib.hid s2
          have S3 := Lib.hid s3
          have S4 := Lib.hid s4
          clear s2 s3 s4
          go_wp2_with fail
          refine (ru64_any g l 0 w4 (by have := HTL.out; omega) HR4.out).mono ?_
          rintro e w5 ⟨rfl, hR5, hF5⟩
          rw [s1]
          generalize hY : (if m < 8 then 0 else x) = y
          have HY := Lib.hid hY
          clear hY
          have HR5 := Lib.hid hR5
          have HF5 := Lib.hid (fr0_of_fr1 HF4.out hF5 HG.out)
          clear hR5 hF5 s1
          go_wp2_with fail
          refine (rbytes_any g 65535 _ _ w5 (by decide) (by have := HRL.out; omega) HR5.out).mono ?_
          rintro e w6 ⟨v6, rfl, hB6, hR6, hF6⟩
          rw [S3.out, S4.out] at hR6
          rw [S2.out] at hB6
          have HR6 := Lib.hid hR6
          have HF6 := Lib.hid (fr0_of_fr1 HF5.out hF6 HG.out)
          obtain ⟨a6, c6, rfl⟩ := hB6.form
          clear hR6 hF6 hB6
          go_wp2_with fail
          refine (err_any g [] 3 w6 HR6.out).mono ?_
          rintro e w7 ⟨rfl, rfl⟩
          by_cases h8 : m < 8
          · have hy : (y : Int) = 0 := by have := HY.out; rw [if_pos h8] at this; omega
            go_wp2_with fail
            refine (left_any g [] 3 w6 HR6.out).mono ?_
            rintro e w7 ⟨rfl, rfl⟩
            go_wp2_with fail
            refine (ru8_any g [] 3 w6 (by decide) HR6.out).mono ?_
            rintro e w7 ⟨rfl, hR7, hF7⟩
            have HF7 := Lib.hid (fr0_of_fr1 HF6.out hF7 HG.out)
            rw [show num (cutOut 1 []) = 0 by decide]
            clear hF7 hR7
            go_wp2
            go_ret
            exact ⟨rfl, HF7.out⟩
          · have hy : (y : Int) = (x : Int) := by have := HY.out; rw [if_neg h8] at this; omega
            go_wp2_with fail
            refine (left_any g [] 3 w6 HR6.out).mono ?_
            rintro e w7 ⟨rfl, rfl⟩
            go_wp2_with fail
            refine (ru8_any g [] 3 w6 (by decide) HR6.out).mono ?_
            rintro e w7 ⟨rfl, hR7, hF7⟩
            have HF7 := Lib.hid (fr0_of_fr1 HF6.out hF7 HG.out)
            rw [show num (cutOut 1 []) = 0 by decide]
            clear hF7 hR7
            go_wp2
            go_ret
            exact ⟨rfl, HF7.out⟩
        · rw [hlen]
          clear hlen
          go_wp2
          go_ret
          exact ⟨rfl, HF3.out⟩
theorem packShort_int (x : Int) (hx : 0 ≤ x ∧ x ≤ 18446744073709551615) (v : Value) (p : List UInt8) (hp : p.length ≤ 9223372036854775807) (n : Int) (hn : -9223372036854775808 ≤ n ∧ n ≤ 9223372036854775807) (w : World) (hB : BytesIs w v p) :
    Calls Try.prog 6 #[.int .u64 x, v, .int .i64 n] w fun e w' => e = .returned (.bool true) ∧ Fr0 w w' := by
  obtain ⟨y, rfl⟩ := Int.eq_ofNat_of_zero_le hx.1
  exact packShort_walk y (by omega) v p hp n hn w hB
end Go.Proofs.Ytheednoklgccdaa.Pack
