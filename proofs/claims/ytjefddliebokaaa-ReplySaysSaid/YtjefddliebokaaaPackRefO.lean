/-
  The reference's reader over bytes that lie in old blocks: they stay there.
-/
import Derived.Test.YtjefddliebokaaaPackRef
import Derived.Test.YtjefddliebokaaaCutLo
namespace Go.Proofs.Ytjefddliebokaaa.Pack
open Go.RowKit Base

/-- a reader whose bytes lie below B -/
def RdO (B : Nat) (w : World) (g : Nat) (l : List UInt8) (e : Int) : Prop := ∃ sv, w.rowIs g 69 2 (fun i => if i = 0 then sv else .int .i64 e) ∧ BytesIs w sv l ∧ ∀ a n c, sv = .slice (some a) n c → 0 < l.length → a.block < B
theorem RdO.rd {B : Nat} {w : World} {g : Nat} {l : List UInt8} {e : Int} (h : RdO B w g l e) : RdAt w g 69 l e := by
  obtain ⟨sv, h1, h2, _⟩ := h
  exact ⟨sv, h1, h2⟩
theorem RdO.fr {B : Nat} {S : Nat → Prop} {w w' : World} {g : Nat} {l : List UInt8} {e : Int} (h : RdO B w g l e) (hf : Fr S w w') (hg : ¬ S g) (hS : ∀ k, k < B → ¬ S k) : RdO B w' g l e := by
  obtain ⟨sv, h1, h2, h3⟩ := h
  refine ⟨sv, hf.row h1 hg, ?_, h3⟩
  obtain ⟨a, cap, pb, po, hv, hle, ha, hcell⟩ := h2
  refine ⟨a, cap, pb, po, hv, hle, ha, fun j hj => ?_⟩
  have k1 := hcell j hj
  have k2 := ha (by omega)
  subst k2
  rw [hf.cell (p := ⟨pb, po + j, none⟩) (World.block_lt_of_cell? w _ k1) (hS pb (h3 ⟨pb, po, none⟩ _ _ hv (by omega)))]
  exact k1
theorem RdO.fr0 {B : Nat} {w w' : World} {g : Nat} {l : List UInt8} {e : Int} (h : RdO B w g l e) (hf : Fr0 w w') : RdO B w' g l e := h.fr hf (fun f => f) (fun _ _ f => f)
set_option maxHeartbeats 1000000 in
set_option maxHeartbeats 1000000 in
theorem rtake_old (B g : Nat) (n : Int) (b : List UInt8) (er : Int) (w : World) (hn : -9223372036854775808 ≤ n ∧ n ≤ 9223372036854775807) (hl : b.length ≤ 140737488355328) (hR : RdO B w g b er) :
    Calls Try.prog 39 #[.pointer (some ⟨g, 0, none⟩), .int .i64 n] w fun e w' => ∃ v, e = .returned v ∧ BytesIs w' v (refOut n b er) ∧ RdO B w' g (refRest n b er) (refErr n b er) ∧ Fr1 g w w' := by
  have HRD := Lib.hid hR
  have HNU := Lib.hid hR.rd.noU8
  have hlt := hR.rd.lt
  obtain ⟨sv, hr, hb, hol⟩ := hR
  have HOL := Lib.hid hol
  clear hol
  have HR := Lib.hid hr
  have HB := Lib.hid hb
  obtain ⟨a, c, rfl⟩ := hb.form
  have c0 : w.cell? ⟨g, 0, none⟩ = some (.slice a b.length c) := hr.cell (i := 0) (by decide)
  have c1 : w.cell? ⟨g, 1, none⟩ = some (.int .i64 er) := hr.cell (i := 1) (by decide)
  have f0 := hr.frozen 0
  have f1 := hr.frozen 1
  clear hr hb
  by_cases he : er = 0
  · subst he
    by_cases hn0 : n < 0
    · go_enter Try.func39, Try.ntmps39
      go_wp2
      go_ret
      have hF : Fr1 g w (w.setCell ⟨g, 1, none⟩ (.int .i64 1)) := fr1_set (Fr.refl _ _) 1 _
      refine ⟨_, rfl, ?_, ?_, hF⟩
      · unfold refOut; simp only [if_true, hn0]; exact BytesIs.nil _
      · unfold refRest refErr
        simp only [if_true, hn0]
        refine ⟨_, (HR.out.set 1 _).congr (fun i hi => ?_), bytes_fr1 HB.out hF HNU.out, HOL.out⟩
        match i, hi with
        | 0, _ => rfl
        | 1, _ => rfl
    · obtain ⟨m, rfl⟩ := Int.eq_ofNat_of_zero_le (show 0 ≤ n by omega)
      by_cases hm : b.length < m
      · have hmi : (b.length : Int) < (m : Int) := by omega
        go_enter Try.func39, Try.ntmps39
        go_wp2
        go_ret
        have hF : Fr1 g w (w.setCell ⟨g, 1, none⟩ (.int .i64 3)) := fr1_set (Fr.refl _ _) 1 _
        refine ⟨_, rfl, ?_, ?_, hF⟩
        · unfold refOut; simp only [if_true, hn0, if_false, hmi]; exact BytesIs.nil _
        · unfold refRest refErr
          simp only [if_true, hn0, if_false, hmi]
          refine ⟨_, (HR.out.set 1 _).congr (fun i hi => ?_), bytes_fr1 HB.out hF HNU.out, HOL.out⟩
          match i, hi with
          | 0, _ => rfl
          | 1, _ => rfl
      · have hmi : ¬ (b.length : Int) < (m : Int) := by omega
        obtain ⟨a2, c2, hb2, hs2, hk2⟩ := cutLoAt (P := Try.prog) 25 5 Try.underlying25 (by kernel_rfl) HB.out m (by omega) (m : Int) rfl
        have HK2 := Lib.hid hk2
        clear hk2
        have HB1 := Lib.hid (BytesIs.takeHi (n := m) (by omega) HB.out)
        have hcap : b.length ≤ c := by obtain ⟨_, _, _, _, he, h1, _⟩ := HB.out; simp only [Value.slice.injEq] at he; rw [he.2.2]; exact h1
        have hs1 := fun wx : World => cut_hi_at (P := Try.prog) 25 5 Try.underlying25 (by kernel_rfl) a b.length c m (by omega) wx
        have HB2 := Lib.hid hb2
        clear hb2
        have HE1 : Hid (refOut (m : Int) b 0 = b.take m) := Lib.hid (by unfold refOut; rw [if_pos rfl, if_neg hn0, if_neg hmi, Int.toNat_natCast])
        have HE2 : Hid (refRest (m : Int) b 0 = b.drop m) := Lib.hid (by unfold refRest; rw [if_pos rfl, if_neg hn0, if_neg hmi, Int.toNat_natCast])
        have HE3 : Hid (refErr (m : Int) b 0 = 0) := Lib.hid (by unfold refErr; rw [if_pos rfl, if_neg hn0, if_neg hmi])
        have HFA : Hid (Fr0 w (w.alloc (.cells #[] 5))) := Lib.hid ((Fr.refl _ _).alloc _)
        go_enter Try.func39, Try.ntmps39
        go_wp2_with (refine wpList_append_bytes rfl (.tmp 26) (.tmp 32) 25 rfl w.heap.size 5 Try.underlying25 info8 _ _ 0 [] (b.take m) rfl rfl (owns_empty w w.heap.size _ (Nat.le_refl _) _ rfl) (HB1.out.fr0 HFA.out) (by simp; omega) HFA.out.size ?_; intro v1 w1 hO1 hG1; have HF1 := Lib.hid (HFA.out.grown hG1 (fun k hk e => by cases e; exact absurd hk (Nat.lt_irrefl _))); have c0' := (HF1.out.row HR.out (fun f => f)).cell (i := 0) (by decide); have f0' := (HF1.out.row HR.out (fun f => f)).frozen 0; simp only [if_true] at c0')
        go_ret
        have hF : Fr1 g w1 (w1.setCell ⟨g, 0, none⟩ (.slice a2 (b.length - m) c2)) := fr1_set (Fr.refl _ _) 0 _
        have hNU : NoU8 w1 g := noU8_fr0 HNU.out HF1.out hlt
        refine ⟨_, rfl, ?_, ?_, HF1.out.zero.trans' hF⟩
        · rw [HE1.out]
          exact bytes_fr1 (BytesIs.own hO1) hF hNU
        · rw [HE2.out, HE3.out]
          refine ⟨_, ((HF1.out.row HR.out (fun f => f)).set 0 _).congr (fun i hi => ?_), bytes_fr1 (HB2.out.fr0 HF1.out) hF hNU, fun a n c h hl => (by
            simp only [Value.slice.injEq] at h
            obtain ⟨p, hp, hpb⟩ := HK2.out a h.1
            rw [hpb]
            subst hp
            exact HOL.out p _ _ rfl (by rw [List.length_drop] at hl; omega))⟩
          match i, hi with
          | 0, _ => rfl
          | 1, _ => rfl
  · go_enter Try.func39, Try.ntmps39
    go_wp2
    go_ret
    refine ⟨_, rfl, ?_, ?_, Fr.refl _ _⟩
    · unfold refOut; rw [if_neg he]; exact BytesIs.nil _
    · unfold refRest refErr; rw [if_neg he, if_neg he]; exact HRD.out
set_option maxHeartbeats 1000000 in
theorem rN_old (B g n : Nat) (b : List UInt8) (er : Int) (w : World) (hn : n ≤ 8) (hl : b.length ≤ 140737488355328) (hR : RdO B w g b er) :
    Calls Try.prog 29 #[.pointer (some ⟨g, 0, none⟩), .int .i64 (n : Int)] w fun e w' => e = .returned (.int .u64 (num (refOut n b er) : Int)) ∧ RdO B w' g (refRest n b er) (refErr n b er) ∧ Fr1 g w w' := by
  have HR := Lib.hid hR
  clear hR
  go_enter Try.func29, Try.ntmps29
  go_wp2_with fail
  refine (rtake_old B g n b er w (by omega) hl HR.out).mono ?_
  rintro e w1 ⟨v1, rfl, hB1, hR1, hF1⟩
  have HB1 := Lib.hid hB1
  have HR1 := Lib.hid hR1
  have HF1 := Lib.hid hF1
  have HL := Lib.hid (refOut_le n b er)
  clear hR1 hF1 hB1
  go_wp2_with fail
  refine (rnumL_any v1 _ (by have := HL.out; omega) w1 HB1.out).mono ?_
  rintro e w2 ⟨rfl, rfl⟩
  generalize hX : num (refOut n b er) = x at *
  have HX := Lib.hid hX
  clear hX
  go_wp2
  go_ret
  exact ⟨by rw [HX.out]; rfl, HR1.out, HF1.out⟩
set_option maxHeartbeats 1000000 in
theorem refbytes_old (B g : Nat) (m : Int) (b : List UInt8) (er : Int) (w : World) (hn : -9223372036854775808 ≤ m ∧ m ≤ 9223372036854775807) (hl : b.length ≤ 140737488355328) (hR : RdO B w g b er) :
    Calls Try.prog 30 #[.pointer (some ⟨g, 0, none⟩), .int .i64 m] w fun e w' => ∃ v, e = .returned v ∧ BytesIs w' v (refBytesOut m b er) ∧ RdO B w' g (refBytesRest m b er) (refBytesErr m b er) ∧ Fr1 g w w' := by
  have HR := Lib.hid hR
  have hx : num (refOut 2 b er) < 65536 := num_lt_le (refOut_le 2 b er)
  have HL := Lib.hid (refRest_le 2 b er)
  have HO : Hid (refBytesOut m b er = if refErr 2 b er = 0 then (if m < (num (refOut 2 b er) : Int) then [] else refOut (num (refOut 2 b er)) (refRest 2 b er) (refErr 2 b er)) else []) := Lib.hid rfl
  have HS : Hid (refBytesRest m b er = if refErr 2 b er = 0 then (if m < (num (refOut 2 b er) : Int) then refRest 2 b er else refRest (num (refOut 2 b er)) (refRest 2 b er) (refErr 2 b er)) else refRest 2 b er) := Lib.hid rfl
  have HE : Hid (refBytesErr m b er = if refErr 2 b er = 0 then (if m < (num (refOut 2 b er) : Int) then 2 else refErr (num (refOut 2 b er)) (refRest 2 b er) (refErr 2 b er)) else refErr 2 b er) := Lib.hid rfl
  generalize hO : refBytesOut m b er = O at *
  generalize hS : refBytesRest m b er = S at *
  generalize hE : refBytesErr m b er = E at *
  clear hR hO hS hE
  go_enter Try.func30, Try.ntmps30
  go_wp2_with fail
  refine (rN_old B g 2 b er w (by decide) hl HR.out).mono ?_
  rintro e w1 ⟨rfl, hR1, hF1⟩
  have HF1 := Lib.hid hF1
  have HR1 := Lib.hid hR1
  simp only [show ((2 : Nat) : Int) = 2 from rfl] at hR1 hx HR1 ⊢
  generalize num (refOut 2 b er) = x at *
  generalize refRest 2 b er = b1 at *
  generalize refErr 2 b er = e1 at *
  obtain ⟨sv, hr, hb, hol⟩ := hR1
  have HOL := Lib.hid hol
  clear hol
  have c1 : w1.cell? ⟨g, 1, none⟩ = some (.int .i64 e1) := hr.cell (i := 1) (by decide)
  have f1 := hr.frozen 1
  have HRR := Lib.hid hr
  have HB := Lib.hid hb
  clear hF1 hr hb
  by_cases he : e1 = 0
  · subst he
    by_cases hm : m < (x : Int)
    · go_wp2
      go_ret
      have hF : Fr1 g w1 (w1.setCell ⟨g, 1, none⟩ (.int .i64 2)) := fr1_set (Fr.refl _ _) 1 _
      rw [HO.out, HS.out, HE.out, if_pos trivial, if_pos trivial, if_pos trivial, if_pos hm, if_pos hm, if_pos hm]
      refine ⟨_, rfl, BytesIs.nil _, ⟨_, (HRR.out.set 1 _).congr (fun i hi => ?_), bytes_fr1 HB.out hF HR1.out.rd.noU8, HOL.out⟩, HF1.out.trans' hF⟩
      match i, hi with
      | 0, _ => rfl
      | 1, _ => rfl
    · go_wp2_with fail
      refine (rtake_old B g x b1 0 w1 (by omega) (by have := HL.out; omega) HR1.out).mono ?_
      rintro e w2 ⟨v2, rfl, hB2, hR2, hF2⟩
      have HB2 := Lib.hid hB2
      have HR2 := Lib.hid hR2
      have HF2 := Lib.hid hF2
      clear hB2 hR2 hF2
      go_wp2
      go_ret
      rw [HO.out, HS.out, HE.out, if_pos trivial, if_pos trivial, if_pos trivial, if_neg (by omega), if_neg (by omega), if_neg (by omega)]
      exact ⟨_, rfl, HB2.out, HR2.out, HF1.out.trans' HF2.out⟩
  · go_wp2
    go_ret
    rw [HO.out, HS.out, HE.out, if_neg he, if_neg he, if_neg he]
    exact ⟨_, rfl, BytesIs.nil _, HR1.out, HF1.out⟩
end Go.Proofs.Ytjefddliebokaaa.Pack
