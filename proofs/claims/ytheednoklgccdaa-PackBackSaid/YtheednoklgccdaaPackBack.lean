/-
  PackBack: what is written is read as it was: the walk.
-/
import Derived.Test.YtheednoklgccdaaPackBackR
import Derived.Test.YtheednoklgccdaaPackShort
namespace Go.Proofs.Ytheednoklgccdaa.Pack
open Go.RowKit Base Ph

theorem num_be1 (x : Nat) (h : x < 256) : num (be 1 x) = x := by rw [num_be]; exact Nat.mod_eq_of_lt h
theorem num_be2' (x : Nat) (h : x < 65536) : num (be 2 x) = x := by rw [num_be]; exact Nat.mod_eq_of_lt h
theorem num_be4 (x : Nat) (h : x < 4294967296) : num (be 4 x) = x := by rw [num_be]; exact Nat.mod_eq_of_lt h
theorem cut_num {n : Nat} (l m : List UInt8) (h : l.length = n) {x : Nat} (hx : num l = x) : num (cutOut n (l ++ m)) = x ∧ cutRest n (l ++ m) = m ∧ cutErr n (l ++ m) 0 = 0 := by
  obtain ⟨h1, h2, h3⟩ := cut_app l m 0 h
  exact ⟨by rw [h1, hx], h2, h3⟩
theorem back_bytes (p rest : List UInt8) (hp : p.length ≤ 65535) : bytesOut 65535 (be 2 p.length ++ (p ++ rest)) = p ∧ bytesRest 65535 (be 2 p.length ++ (p ++ rest)) = rest ∧ bytesErr 65535 (be 2 p.length ++ (p ++ rest)) 0 = 0 := by
  unfold bytesOut bytesRest bytesErr
  obtain ⟨e4, e5, e6⟩ := cut_app (n := 2) (be 2 p.length) (p ++ rest) 0 (be_length 2 _)
  rw [e4, e5, e6, num_be2 _ hp, if_neg (by omega), if_neg (by omega), if_neg (by omega)]
  exact cut_app p rest 0 rfl
theorem back_take (rest : List UInt8) : takeOut (rest.length : Int) rest = rest ∧ takeRest (rest.length : Int) rest = [] ∧ takeErr (rest.length : Int) rest 0 = 0 := by
  have := cut_app (n := rest.length) rest [] 0 rfl
  rw [List.append_nil] at this
  unfold takeOut takeRest takeErr
  rw [if_neg (by omega), if_neg (by omega), if_neg (by omega), Int.toNat_natCast]
  exact this
set_option maxHeartbeats 2000000 in
set_option maxRecDepth 100000 in
theorem packBack_walk (x y z u : Nat) (hx : x < 256) (hy : y < 65536) (hz : z < 4294967296) (hu : u < 18446744073709551616) (v4 v5 : Value) (p rest : List UInt8) (hp : p.length ≤ 9223372036854775807) (hrest : rest.length ≤ 9223372036854775807) (w : World) (hB4 : BytesIs w v4 p) (hB5 : BytesIs w v5 rest) :
    Calls Try.prog 5 #[.int .u8 (x : Int), .int .u16 (y : Int), .int .u32 (z : Int), .int .u64 (u : Int), v4, v5] w fun e w' => e = .returned (.bool true) ∧ Fr0 w w' := by
  have HB4 := Lib.hid hB4
  have HB5 := Lib.hid hB5
  obtain ⟨a4, c4, rfl⟩ := hB4.form
  obtain ⟨a5, c5, rfl⟩ := hB5.form
  clear hB4 hB5
  by_cases h2000 : 2000 < p.length
  · go_enter Try.func5, Try.ntmps5
    go_wp2_with fail
    refine (awake_any w).mono ?_
    rintro e w1 ⟨rfl, hF1⟩
    have HF1 := Lib.hid hF1
    clear hF1
    go_wp2
    go_ret
    exact ⟨rfl, HF1.out⟩
  · by_cases h100 : 100 < rest.length
    · go_enter Try.func5, Try.ntmps5
      go_wp2_with fail
      refine (awake_any w).mono ?_
      rintro e w1 ⟨rfl, hF1⟩
      have HF1 := Lib.hid hF1
      clear hF1
      go_wp2
      go_ret
      exact ⟨rfl, HF1.out⟩
    · obtain ⟨T4, hT4⟩ : ∃ T, T = be 2 p.length ++ (p ++ rest) := ⟨_, rfl⟩
      obtain ⟨T3, hT3⟩ : ∃ T, T = be 8 u ++ T4 := ⟨_, rfl⟩
      obtain ⟨T2, hT2⟩ : ∃ T, T = be 4 z ++ T3 := ⟨_, rfl⟩
      obtain ⟨T1, hT1⟩ : ∃ T, T = be 2 y ++ T2 := ⟨_, rfl⟩
      obtain ⟨T0, hT0⟩ : ∃ T, T = be 1 x ++ T1 := ⟨_, rfl⟩
      have hX : [] ++ be 1 x ++ be 2 y ++ be 4 z ++ be 8 u ++ be 2 p.length ++ p ++ rest = T0 := by rw [hT0, hT1, hT2, hT3, hT4]; simp [List.append_assoc]
      have HL : Hid (T0.length = 17 + p.length + rest.length ∧ T1.length = 16 + p.length + rest.length ∧ T2.length = 14 + p.length + rest.length ∧ T3.length = 10 + p.length + rest.length ∧ T4.length = 2 + p.length + rest.length) := Lib.hid (by
        rw [hT0, hT1, hT2, hT3, hT4]; simp [be_length]; omega)
      have c0 := cut_num (be 1 x) T1 (be_length 1 x) (num_be1 x hx)
      have c1 := cut_num (be 2 y) T2 (be_length 2 y) (num_be2' y hy)
      have c2 := cut_num (be 4 z) T3 (be_length 4 z) (num_be4 z hz)
      have c3 := cut_num (be 8 u) T4 (be_length 8 u) (num_be8 u hu)
      have c4' := back_bytes p rest (by omega)
      rw [← hT0] at c0
      rw [← hT1] at c1
      rw [← hT2] at c2
      rw [← hT3] at c3
      rw [← hT4] at c4'
      have C0 := Lib.hid c0
      have C1 := Lib.hid c1
      have C2 := Lib.hid c2
      have C3 := Lib.hid c3
      have C4 := Lib.hid c4'
      have C6 := Lib.hid (back_take rest)
      have HX := Lib.hid hX
      clear hT0 hT1 hT2 hT3 hT4 c0 c1 c2 c3 c4' hX
      have L1 : Hid (([] ++ be 1 x).length ≤ 1000) := Lib.hid (by simp [be_length])
      have L2 : Hid (([] ++ be 1 x ++ be 2 y).length ≤ 1000) := Lib.hid (by simp [be_length])
      have L3 : Hid (([] ++ be 1 x ++ be 2 y ++ be 4 z).length ≤ 1000) := Lib.hid (by simp [be_length])
      have L4 : Hid (([] ++ be 1 x ++ be 2 y ++ be 4 z ++ be 8 u).length ≤ 1000) := Lib.hid (by simp [be_length])
      have L5 : Hid (([] ++ be 1 x ++ be 2 y ++ be 4 z ++ be 8 u ++ be 2 p.length ++ p).length = 17 + p.length) := Lib.hid (by simp [be_length]; omega)
      go_enter Try.func5, Try.ntmps5
      go_wp2_with fail
      refine (awake_any w).mono ?_
      rintro e w1 ⟨rfl, hF1⟩
      have HF1 := Lib.hid hF1
      clear hF1
      go_wp2_with fail
      refine (u8_any (.slice none 0 0) [] x hx (by decide) w1 (BytesIs.nil w1)).mono ?_
      rintro e w2 ⟨v1, rfl, hB2, hF2⟩
      have HB2 := Lib.hid hB2
      have HF2 := Lib.hid (HF1.out.trans' hF2)
      clear hB2 hF2
      go_wp2_with fail
      refine (u16_any _ _ y hy (Nat.le_trans L1.out (by decide)) w2 HB2.out).mono ?_
      rintro e w3 ⟨v2, rfl, hB3, hF3⟩
      have HB3 := Lib.hid hB3
      have HF3 := Lib.hid (HF2.out.trans' hF3)
      clear hB3 hF3
      go_wp2_with fail
      refine (u32_any _ _ z hz (Nat.le_trans L2.out (by decide)) w3 HB3.out).mono ?_
      rintro e w4 ⟨v3, rfl, hB4, hF4⟩
      have HB4' := Lib.hid hB4
      have HF4 := Lib.hid (HF3.out.trans' hF4)
      clear hB4 hF4
      go_wp2_with fail
      refine (u64_any _ _ u hu (Nat.le_trans L3.out (by decide)) w4 HB4'.out).mono ?_
      rintro e w5 ⟨v5, rfl, hB5, hF5⟩
      have HB5' := Lib.hid hB5
      have HF5 := Lib.hid (HF4.out.trans' hF5)
      clear hB5 hF5
      go_wp2_with fail
      refine (bytes_any _ _ _ p (Nat.le_trans L4.out (by decide)) hp w5 HB5'.out (HB4.out.fr0 HF5.out)).mono ?_
      rintro e w6 ⟨v6, rfl, hB6, hF6⟩
      rw [bytesW_ok (by omega)] at hB6
      rw [show bytesOk p = true by unfold bytesOk; simp; omega]
      have HF6 := Lib.hid (HF5.out.trans' hF6)
      generalize hX6 : [] ++ be 1 x ++ be 2 y ++ be 4 z ++ be 8 u ++ be 2 p.length ++ p = X at *
      obtain ⟨a13, c13, rfl⟩ := hB6.form
      have HB6 := Lib.hid hB6
      have HFA : Hid (Fr0 w6 (w6.alloc (.cells #[] 5))) := Lib.hid ((Fr.refl _ _).alloc _)
      clear hB6 hF6 hX6 HB2 HB3 HB4' HB5' L1 L2 L3 L4
      go_wp2_with (first
        | (refine wpList_append_bytes rfl (.tmp 39) (.tmp 40) 23 rfl w6.heap.size 5 Try.underlying23 info8 _ _ 0 [] X rfl rfl (owns_empty w6 w6.heap.size _ (Nat.le_refl _) _ rfl) (HB6.out.fr0 HFA.out) (by have := L5.out; omega) HFA.out.size ?_; intro v7 w7 hO7 hG7; have HF7 := Lib.hid (HFA.out.grown hG7 (fun k hk e => by cases e; exact absurd hk (Nat.lt_irrefl _))))
        | (refine wpList_append_bytes rfl (.tmp 41) (.tmp 42) 23 rfl w6.heap.size 5 Try.underlying23 info8 _ _ (0 + X.length) ([] ++ X) rest rfl rfl hO7 ((HB5.out.fr0 HF6.out).fr0 HF7.out) (by have := L5.out; omega) HF7.out.size ?_; intro v8 w8 hO8 hG8; have HF8 := Lib.hid (HF7.out.grown hG8 (fun k hk e => by have := hO7.lt k e; omega)); have HB8 := Lib.hid (BytesIs.own hO8); clear hO8 hG8)
        | fail)
      refine (new_any v8 _ (by have := HL.out.1; rw [List.nil_append, HX.out]; omega) w8 HB8.out).mono ?_
      rintro e w9 ⟨g, rfl, hg, hR9, hF9⟩
      rw [List.nil_append, HX.out] at hR9
      have HR9 := Lib.hid hR9
      have HG : Hid (w.heap.size ≤ g) := Lib.hid (Nat.le_trans (HF6.out.trans' HF8.out).size hg)
      have HF9 := Lib.hid ((HF6.out.trans' HF8.out).trans' hF9)
      clear hR9 hF9 hg
      have h2 : p.length ≤ 2000 := by omega
      have h3 : rest.length ≤ 100 := by omega
      go_wp2
      refine bk_region (g := g) (x := x) (y := y) (z := z) (u := u) (p := p) (rest := rest) (T0 := T0) (T1 := T1) (T2 := T2) (T3 := T3) (T4 := T4) (a13 := a13) (a4 := a4) (a5 := a5) (n13 := X.length) (c13 := c13) (c4 := c4) (c5 := c5) ?_ HR9.out ?_
      · have hl := HL.out
        have hl5 := L5.out
        refine ⟨rfl, rfl, rfl, rfl, rfl, rfl, rfl, rfl, rfl, rfl, h2, by omega, HB4.out.fr0 HF9.out.drew, HB5.out.fr0 HF9.out.drew, by omega, by omega, by omega, by omega, by omega, by omega, by omega,
          C0.out.1, C0.out.2.1, C0.out.2.2, C1.out.1, C1.out.2.1, C1.out.2.2, C2.out.1, C2.out.2.1, C2.out.2.2, C3.out.1, C3.out.2.1, C3.out.2.2, C4.out.1, C4.out.2.1, C4.out.2.2, C6.out.1, C6.out.2.1, C6.out.2.2⟩
      intro a' w10 hG10 hJ10 hdf h0
      have hF : Fr0 w w10 := fr0_of_fr1 HF9.out hG10.fr HG.out
      go_wp2
      exact bodyPost_ret (results_tmp rfl a'.tmps Try.prog w10) hdf ⟨congrArg Ending.returned h0, hF⟩
theorem packBack_int (x : Int) (hx : 0 ≤ x ∧ x ≤ 255) (y : Int) (hy : 0 ≤ y ∧ y ≤ 65535) (z : Int) (hz : 0 ≤ z ∧ z ≤ 4294967295) (u : Int) (hu : 0 ≤ u ∧ u ≤ 18446744073709551615) (v4 : Value) (p : List UInt8) (hp : p.length ≤ 9223372036854775807) (v5 : Value) (rest : List UInt8) (hrest : rest.length ≤ 9223372036854775807) (w : World) (hB4 : BytesIs w v4 p) (hB5 : BytesIs w v5 rest) :
    Calls Try.prog 5 #[.int .u8 x, .int .u16 y, .int .u32 z, .int .u64 u, v4, v5] w fun e w' => e = .returned (.bool true) ∧ Fr0 w w' := by
  obtain ⟨x', rfl⟩ := Int.eq_ofNat_of_zero_le hx.1
  obtain ⟨y', rfl⟩ := Int.eq_ofNat_of_zero_le hy.1
  obtain ⟨z', rfl⟩ := Int.eq_ofNat_of_zero_le hz.1
  obtain ⟨u', rfl⟩ := Int.eq_ofNat_of_zero_le hu.1
  exact packBack_walk x' y' z' u' (by omega) (by omega) (by omega) (by omega) v4 v5 p rest hp hrest w hB4 hB5
end Go.Proofs.Ytheednoklgccdaa.Pack
