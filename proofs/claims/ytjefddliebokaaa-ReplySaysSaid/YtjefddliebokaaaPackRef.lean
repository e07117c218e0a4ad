/-
  The walks of the reference's reader; that it tells what pack's reader tells.
-/
import Derived.Test.YtjefddliebokaaaPackRead
namespace Go.Proofs.Ytjefddliebokaaa.Pack
open Go.RowKit Base

def refOut (n : Int) (b : List UInt8) (e : Int) : List UInt8 := if e = 0 then (if n < 0 then [] else if (b.length : Int) < n then [] else b.take n.toNat) else []
def refRest (n : Int) (b : List UInt8) (e : Int) : List UInt8 := if e = 0 then (if n < 0 then b else if (b.length : Int) < n then b else b.drop n.toNat) else b
def refErr (n : Int) (b : List UInt8) (e : Int) : Int := if e = 0 then (if n < 0 then 1 else if (b.length : Int) < n then 3 else 0) else e
/-- the two readers stand alike -/
def Alike (l : List UInt8) (e : Int) (b : List UInt8) (E : Int) : Prop := e = E ∧ l = if E = 0 then b else []
theorem refRest_le (n : Int) (b : List UInt8) (e : Int) : (refRest n b e).length ≤ b.length := by
  unfold refRest
  split
  · split
    · exact Nat.le_refl _
    · split
      · exact Nat.le_refl _
      · simp
  · exact Nat.le_refl _
theorem refOut_le (n : Nat) (b : List UInt8) (e : Int) : (refOut n b e).length ≤ n := by
  unfold refOut
  split
  · split
    · simp
    · split
      · simp
      · simp; omega
  · simp
theorem alike_take (n : Int) {l b : List UInt8} {e E : Int} (h : Alike l e b E) : takeOut n l = refOut n b E ∧ Alike (takeRest n l) (takeErr n l e) (refRest n b E) (refErr n b E) := by
  obtain ⟨rfl, rfl⟩ := h
  unfold Alike takeOut takeRest takeErr refOut refRest refErr
  by_cases he : e = 0
  · subst he
    simp only [if_true]
    by_cases hn : n < 0
    · simp [hn, failE]
    · simp only [hn, if_false]
      obtain ⟨m, rfl⟩ := Int.eq_ofNat_of_zero_le (show 0 ≤ n by omega)
      unfold cutOut cutRest cutErr
      simp only [Int.toNat_natCast]
      by_cases hm : b.length < m
      · have : (b.length : Int) < (m : Int) := by omega
        simp [hm, this, failE]
      · have : ¬ (b.length : Int) < (m : Int) := by omega
        simp [hm, this]
  · simp only [he, if_false]
    by_cases hn : n < 0
    · simp [hn, failE, he]
    · simp only [hn, if_false]
      unfold cutOut cutRest cutErr
      by_cases hm : ([] : List UInt8).length < n.toNat
      · simp only [hm, if_true]; simp [failE, he]
      · simp only [hm, if_false]
        have : n.toNat = 0 := by simp at hm; omega
        simp
theorem alike_cut (n : Nat) {l b : List UInt8} {e E : Int} (h : Alike l e b E) : cutOut n l = refOut n b E ∧ Alike (cutRest n l) (cutErr n l e) (refRest n b E) (refErr n b E) := by
  have := alike_take (n : Int) h
  unfold takeOut takeRest takeErr at this
  rw [if_neg (by omega), if_neg (by omega), if_neg (by omega), Int.toNat_natCast] at this
  exact this
def refBytesOut (m : Int) (b : List UInt8) (e : Int) : List UInt8 :=
  if refErr 2 b e = 0 then (if m < (num (refOut 2 b e) : Int) then [] else refOut (num (refOut 2 b e)) (refRest 2 b e) (refErr 2 b e)) else []
def refBytesRest (m : Int) (b : List UInt8) (e : Int) : List UInt8 :=
  if refErr 2 b e = 0 then (if m < (num (refOut 2 b e) : Int) then refRest 2 b e else refRest (num (refOut 2 b e)) (refRest 2 b e) (refErr 2 b e)) else refRest 2 b e
def refBytesErr (m : Int) (b : List UInt8) (e : Int) : Int :=
  if refErr 2 b e = 0 then (if m < (num (refOut 2 b e) : Int) then 2 else refErr (num (refOut 2 b e)) (refRest 2 b e) (refErr 2 b e)) else refErr 2 b e
theorem refBytesRest_le (m : Int) (b : List UInt8) (e : Int) : (refBytesRest m b e).length ≤ b.length := by
  have h1 := refRest_le 2 b e
  have h2 := refRest_le (num (refOut 2 b e)) (refRest 2 b e) (refErr 2 b e)
  unfold refBytesRest
  split
  · split
    · exact h1
    · omega
  · exact h1
theorem alike_bytes (m : Int) {l b : List UInt8} {e E : Int} (h : Alike l e b E) : bytesOut m l = refBytesOut m b E ∧ Alike (bytesRest m l) (bytesErr m l e) (refBytesRest m b E) (refBytesErr m b E) := by
  obtain ⟨h1, h2⟩ := alike_cut 2 h
  simp only [show ((2 : Nat) : Int) = 2 from rfl] at h1 h2
  unfold bytesOut bytesRest bytesErr refBytesOut refBytesRest refBytesErr
  have h3 := alike_cut (num (refOut 2 b E)) h2
  rw [h1]
  generalize hx : num (refOut 2 b E) = x at *
  generalize hl : cutRest 2 l = l1 at *
  generalize he : cutErr 2 l e = e1 at *
  generalize hb : refRest 2 b E = b1 at *
  have hEE : refErr 2 b E ≠ 0 → x = 0 := fun hne => by
    rw [← hx]
    have : refOut 2 b E = [] := by
      unfold refErr at hne
      unfold refOut
      split
      · rename_i h0
        rw [if_pos h0] at hne
        split
        · rfl
        · rename_i hn
          rw [if_neg hn] at hne
          split
          · rfl
          · rename_i hm
            rw [if_neg hm] at hne
            exact absurd rfl hne
      · rfl
    rw [this]; rfl
  generalize refErr 2 b E = E1 at *
  obtain ⟨rfl, rfl⟩ := h2
  by_cases h0 : e1 = 0
  · subst h0
    simp only [if_true]
    by_cases hm : m < (x : Int)
    · simp [hm, Alike, failE]
    · simp only [hm, if_false]
      simpa using h3
  · have hx0 := hEE h0
    subst hx0
    simp only [h0, if_false]
    by_cases hm : m < ((0 : Nat) : Int)
    · simp only [hm, if_true]; exact ⟨trivial, by simp [failE, h0], by rw [if_neg h0]⟩
    · simp only [hm, if_false]
      exact ⟨by simp [cutOut], by simp [cutErr], by rw [if_neg h0]; simp [cutRest]⟩

set_option maxHeartbeats 1000000 in
theorem rnumL_any (v : Value) (l : List UInt8) (hl : l.length ≤ 8) (w : World) (hB : BytesIs w v l) :
    Calls Try.prog 38 #[v] w fun e w' => e = .returned (.int .u64 (num l : Int)) ∧ w = w' := by
  obtain ⟨a1, c1, pb, po, rfl, _, ha1, hc1⟩ := hB
  have HA := Lib.hid ha1
  have HC := Lib.hid hc1
  clear ha1 hc1
  go_enter Try.func38, Try.ntmps38
  go_wp2
  go_loop [3, 4] (fun x i => ∃ j : Nat, j ≤ l.length ∧ i = .int .i64 j ∧ x = .int .u64 ((num (l.take j) : Nat) : Int)) (fun _ i => l.length - (intOf i).toNat)
  case atStart => exact ⟨0, Nat.zero_le _, rfl, rfl⟩
  case round =>
    obtain ⟨j, hj, rfl, rfl⟩ := hrel
    by_cases hlt : j < l.length
    · obtain rfl := HA.out (by omega)
      have c0 := HC.out j hlt
      have hy := (l.getD j 0).toNat_lt
      have hx : num (l.take j) < 72057594037927936 := Nat.lt_of_lt_of_le (num_lt (l.take j)) (by
        have : (l.take j).length ≤ 7 := by simp; omega
        exact Nat.le_trans (Nat.pow_le_pow_right (by decide) this) (by decide))
      have HN : Hid (num (l.take j) * 256 + (l.getD j 0).toNat = num (l.take (j + 1))) := Lib.hid (num_next l j hlt).symm
      generalize (l.getD j 0).toNat = y at *
      generalize num (l.take j) = x at *
      go_wp2
      go_round
      case rel => exact ⟨j + 1, by omega, by go_num, by rw [← HN.out]; simp⟩
      case measure => simp only [intOf]; omega
    · have hkl : j = l.length := by omega
      have HE : Hid (num (l.take j) = num l) := Lib.hid (by rw [hkl, List.take_length])
      clear hkl
      generalize num (l.take j) = x at *
      go_wp2
      go_ret
      exact ⟨by rw [← HE.out]; rfl, rfl⟩
set_option maxHeartbeats 1000000 in
theorem rtake_any (g : Nat) (n : Int) (b : List UInt8) (er : Int) (w : World) (hn : -9223372036854775808 ≤ n ∧ n ≤ 9223372036854775807) (hl : b.length ≤ 140737488355328) (hR : RdAt w g 69 b er) :
    Calls Try.prog 39 #[.pointer (some ⟨g, 0, none⟩), .int .i64 n] w fun e w' => ∃ v, e = .returned v ∧ BytesIs w' v (refOut n b er) ∧ RdAt w' g 69 (refRest n b er) (refErr n b er) ∧ Fr1 g w w' := by
  have HRD := Lib.hid hR
  have HNU := Lib.hid hR.noU8
  have hlt := hR.lt
  obtain ⟨sv, hr, hb⟩ := hR
  have HR := Lib.hid hr
  have HB := Lib.hid hb
  obtain ⟨a, c, rfl⟩ := hb.form
  have c0 : w.cell? ⟨g, 0, none⟩ = some (.slice a b.length c) := hr.cell (i := 0) (by decide)
  have c1 : w.cell? ⟨g, 1, none⟩ = some (.int .i64 er) := hr.cell (i := 1) (by decide)
  have f0 := hr.frozen 0
  have f1 := hr.frozen 1
  clear hr hb
  by_cases he : er = 0
  · subst he
    by_cases hn0 : n < 0
    · go_enter Try.func39, Try.ntmps39
      go_wp2
      go_ret
      have hF : Fr1 g w (w.setCell ⟨g, 1, none⟩ (.int .i64 1)) := fr1_set (Fr.refl _ _) 1 _
      refine ⟨_, rfl, ?_, ?_, hF⟩
      · unfold refOut; simp only [if_true, hn0]; exact BytesIs.nil _
      · unfold refRest refErr
        simp only [if_true, hn0]
        refine ⟨_, (HR.out.set 1 _).congr (fun i hi => ?_), bytes_fr1 HB.out hF HNU.out⟩
        match i, hi with
        | 0, _ => rfl
        | 1, _ => rfl
    · obtain ⟨m, rfl⟩ := Int.eq_ofNat_of_zero_le (show 0 ≤ n by omega)
      by_cases hm : b.length < m
      · have hmi : (b.length : Int) < (m : Int) := by omega
        go_enter Try.func39, Try.ntmps39
        go_wp2
        go_ret
        have hF : Fr1 g w (w.setCell ⟨g, 1, none⟩ (.int .i64 3)) := fr1_set (Fr.refl _ _) 1 _
        refine ⟨_, rfl, ?_, ?_, hF⟩
        · unfold refOut; simp only [if_true, hn0, if_false, hmi]; exact BytesIs.nil _
        · unfold refRest refErr
          simp only [if_true, hn0, if_false, hmi]
          refine ⟨_, (HR.out.set 1 _).congr (fun i hi => ?_), bytes_fr1 HB.out hF HNU.out⟩
          match i, hi with
          | 0, _ => rfl
          | 1, _ => rfl
      · have hmi : ¬ (b.length : Int) < (m : Int) := by omega
        obtain ⟨a2, c2, hb2, hs2⟩ := HB.out.cutLo (P := Try.prog) 25 5 Try.underlying25 (by kernel_rfl) m (by omega)
        have HB1 := Lib.hid (BytesIs.takeHi (n := m) (by omega) HB.out)
        have hcap : b.length ≤ c := by obtain ⟨_, _, _, _, he, h1, _⟩ := HB.out; simp only [Value.slice.injEq] at he; rw [he.2.2]; exact h1
        have hs1 := fun wx : World => cut_hi_at (P := Try.prog) 25 5 Try.underlying25 (by kernel_rfl) a b.length c m (by omega) wx
        have HB2 := Lib.hid hb2
        clear hb2
        have HE1 : Hid (refOut (m : Int) b 0 = b.take m) := Lib.hid (by unfold refOut; rw [if_pos rfl, if_neg hn0, if_neg hmi, Int.toNat_natCast])
        have HE2 : Hid (refRest (m : Int) b 0 = b.drop m) := Lib.hid (by unfold refRest; rw [if_pos rfl, if_neg hn0, if_neg hmi, Int.toNat_natCast])
        have HE3 : Hid (refErr (m : Int) b 0 = 0) := Lib.hid (by unfold refErr; rw [if_pos rfl, if_neg hn0, if_neg hmi])
        have HFA : Hid (Fr0 w (w.alloc (.cells #[] 5))) := Lib.hid ((Fr.refl _ _).alloc _)
        go_enter Try.func39, Try.ntmps39
        go_wp2_with (refine wpList_append_bytes rfl (.tmp 26) (.tmp 32) 25 rfl w.heap.size 5 Try.underlying25 info8 _ _ 0 [] (b.take m) rfl rfl (owns_empty w w.heap.size _ (Nat.le_refl _) _ rfl) (HB1.out.fr0 HFA.out) (by simp; omega) HFA.out.size ?_; intro v1 w1 hO1 hG1; have HF1 := Lib.hid (HFA.out.grown hG1 (fun k hk e => by cases e; exact absurd hk (Nat.lt_irrefl _))); have c0' := (HF1.out.row HR.out (fun f => f)).cell (i := 0) (by decide); have f0' := (HF1.out.row HR.out (fun f => f)).frozen 0; simp only [if_true] at c0')
        go_ret
        have hF : Fr1 g w1 (w1.setCell ⟨g, 0, none⟩ (.slice a2 (b.length - m) c2)) := fr1_set (Fr.refl _ _) 0 _
        have hNU : NoU8 w1 g := noU8_fr0 HNU.out HF1.out hlt
        refine ⟨_, rfl, ?_, ?_, HF1.out.zero.trans' hF⟩
        · rw [HE1.out]
          exact bytes_fr1 (BytesIs.own hO1) hF hNU
        · rw [HE2.out, HE3.out]
          refine ⟨_, ((HF1.out.row HR.out (fun f => f)).set 0 _).congr (fun i hi => ?_), bytes_fr1 (HB2.out.fr0 HF1.out) hF hNU⟩
          match i, hi with
          | 0, _ => rfl
          | 1, _ => rfl
  · go_enter Try.func39, Try.ntmps39
    go_wp2
    go_ret
    refine ⟨_, rfl, ?_, ?_, Fr.refl _ _⟩
    · unfold refOut; rw [if_neg he]; exact BytesIs.nil _
    · unfold refRest refErr; rw [if_neg he, if_neg he]; exact HRD.out
set_option maxHeartbeats 1000000 in
theorem rN_any (g n : Nat) (b : List UInt8) (er : Int) (w : World) (hn : n ≤ 8) (hl : b.length ≤ 140737488355328) (hR : RdAt w g 69 b er) :
    Calls Try.prog 29 #[.pointer (some ⟨g, 0, none⟩), .int .i64 (n : Int)] w fun e w' => e = .returned (.int .u64 (num (refOut n b er) : Int)) ∧ RdAt w' g 69 (refRest n b er) (refErr n b er) ∧ Fr1 g w w' := by
  have HR := Lib.hid hR
  clear hR
  go_enter Try.func29, Try.ntmps29
  go_wp2_with fail
  refine (rtake_any g n b er w (by omega) hl HR.out).mono ?_
  rintro e w1 ⟨v1, rfl, hB1, hR1, hF1⟩
  have HB1 := Lib.hid hB1
  have HR1 := Lib.hid hR1
  have HF1 := Lib.hid hF1
  have HL := Lib.hid (refOut_le n b er)
  clear hR1 hF1 hB1
  go_wp2_with fail
  refine (rnumL_any v1 _ (by have := HL.out; omega) w1 HB1.out).mono ?_
  rintro e w2 ⟨rfl, rfl⟩
  generalize hX : num (refOut n b er) = x at *
  have HX := Lib.hid hX
  clear hX
  go_wp2
  go_ret
  exact ⟨by rw [HX.out]; rfl, HR1.out, HF1.out⟩
set_option maxHeartbeats 1000000 in
theorem refbytes_any (g : Nat) (m : Int) (b : List UInt8) (er : Int) (w : World) (hn : -9223372036854775808 ≤ m ∧ m ≤ 9223372036854775807) (hl : b.length ≤ 140737488355328) (hR : RdAt w g 69 b er) :
    Calls Try.prog 30 #[.pointer (some ⟨g, 0, none⟩), .int .i64 m] w fun e w' => ∃ v, e = .returned v ∧ BytesIs w' v (refBytesOut m b er) ∧ RdAt w' g 69 (refBytesRest m b er) (refBytesErr m b er) ∧ Fr1 g w w' := by
  have HR := Lib.hid hR
  have hx : num (refOut 2 b er) < 65536 := num_lt_le (refOut_le 2 b er)
  have HL := Lib.hid (refRest_le 2 b er)
  have HO : Hid (refBytesOut m b er = if refErr 2 b er = 0 then (if m < (num (refOut 2 b er) : Int) then [] else refOut (num (refOut 2 b er)) (refRest 2 b er) (refErr 2 b er)) else []) := Lib.hid rfl
  have HS : Hid (refBytesRest m b er = if refErr 2 b er = 0 then (if m < (num (refOut 2 b er) : Int) then refRest 2 b er else refRest (num (refOut 2 b er)) (refRest 2 b er) (refErr 2 b er)) else refRest 2 b er) := Lib.hid rfl
  have HE : Hid (refBytesErr m b er = if refErr 2 b er = 0 then (if m < (num (refOut 2 b er) : Int) then 2 else refErr (num (refOut 2 b er)) (refRest 2 b er) (refErr 2 b er)) else refErr 2 b er) := Lib.hid rfl
  generalize hO : refBytesOut m b er = O at *
  generalize hS : refBytesRest m b er = S at *
  generalize hE : refBytesErr m b er = E at *
  clear hR hO hS hE
  go_enter Try.func30, Try.ntmps30
  go_wp2_with fail
  refine (rN_any g 2 b er w (by decide) hl HR.out).mono ?_
  rintro e w1 ⟨rfl, hR1, hF1⟩
  have HF1 := Lib.hid hF1
  have HR1 := Lib.hid hR1
  simp only [show ((2 : Nat) : Int) = 2 from rfl] at hR1 hx HR1 ⊢
  generalize num (refOut 2 b er) = x at *
  generalize refRest 2 b er = b1 at *
  generalize refErr 2 b er = e1 at *
  obtain ⟨sv, hr, hb⟩ := hR1
  have c1 : w1.cell? ⟨g, 1, none⟩ = some (.int .i64 e1) := hr.cell (i := 1) (by decide)
  have f1 := hr.frozen 1
  have HRR := Lib.hid hr
  have HB := Lib.hid hb
  clear hF1 hr hb
  by_cases he : e1 = 0
  · subst he
    by_cases hm : m < (x : Int)
    · go_wp2
      go_ret
      have hF : Fr1 g w1 (w1.setCell ⟨g, 1, none⟩ (.int .i64 2)) := fr1_set (Fr.refl _ _) 1 _
      rw [HO.out, HS.out, HE.out, if_pos trivial, if_pos trivial, if_pos trivial, if_pos hm, if_pos hm, if_pos hm]
      refine ⟨_, rfl, BytesIs.nil _, ⟨_, (HRR.out.set 1 _).congr (fun i hi => ?_), bytes_fr1 HB.out hF HR1.out.noU8⟩, HF1.out.trans' hF⟩
      match i, hi with
      | 0, _ => rfl
      | 1, _ => rfl
    · go_wp2_with fail
      refine (rtake_any g x b1 0 w1 (by omega) (by have := HL.out; omega) HR1.out).mono ?_
      rintro e w2 ⟨v2, rfl, hB2, hR2, hF2⟩
      have HB2 := Lib.hid hB2
      have HR2 := Lib.hid hR2
      have HF2 := Lib.hid hF2
      clear hB2 hR2 hF2
      go_wp2
      go_ret
      rw [HO.out, HS.out, HE.out, if_pos trivial, if_pos trivial, if_pos trivial, if_neg (by omega), if_neg (by omega), if_neg (by omega)]
      exact ⟨_, rfl, HB2.out, HR2.out, HF1.out.trans' HF2.out⟩
  · go_wp2
    go_ret
    rw [HO.out, HS.out, HE.out, if_neg he, if_neg he, if_neg he]
    exact ⟨_, rfl, BytesIs.nil _, HR1.out, HF1.out⟩
end Go.Proofs.Ytjefddliebokaaa.Pack
