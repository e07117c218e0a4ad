/-
  The walks of the reference's at, Read and Write.
-/
import Derived.Test.YtkdpdbjefehmpaaAreRef
namespace Go.Proofs.Ytkdpdbjefehmpaa.Arena
open Go.RowKit Base

def AtPost (L : List Int) (i at_ n : Int) (w : World) (e : Ending) (w' : World) : Prop :=
  ∃ x : Int, e = .returned (.tuple #[.int .i64 x, .int .i64 (perr L i at_ n)]) ∧ Fr0 w w' ∧ (perr L i at_ n = 0 → x = (place L i.toNat at_.toNat : Nat))
set_option maxHeartbeats 2000000 in
theorem at_any (B g pb cb : Nat) (L : List Int) (bs : List UInt8) (i at_ n : Int) (hi : I64 i) (ha : I64 at_) (hn : I64 n) (w : World) (h : AreR w B g pb cb L bs) :
    Calls Try.prog 51 #[ptr g, .int .i64 i, .int .i64 at_, .int .i64 n] w (AtPost L i at_ n w) := by
  obtain ⟨C, hC, c1⟩ := h.cell1
  have HFT := Lib.hid h.fits
  have hln := h.fits.n
  have HCU := Lib.hid h.cuts
  clear h
  unfold I64 at hi ha hn
  by_cases hnone : i < 0 ∨ (L.length : Int) ≤ i
  · have HE := Lib.hid (perr_none (at_ := at_) (n := n) hnone)
    have hd : Hid (∀ w', Fr0 w w' → AtPost L i at_ n w (.returned (.tuple #[.int .i64 0, .int .i64 1])) w') := Lib.hid (fun w' hf => ⟨0, by rw [HE.out], hf, fun h0 => by rw [HE.out] at h0; cases h0⟩)
    by_cases h0 : i < 0
    · clear hnone
      unfold ptr
      go_enter Try.func51, Try.ntmps51
      go_wp2
      go_ret2
      exact hd.out _ (Fr.refl _ _)
    · have h1 : (L.length : Int) ≤ i := by omega
      clear hnone
      unfold ptr
      go_enter Try.func51, Try.ntmps51
      go_wp2
      go_ret2
      exact hd.out _ (Fr.refl _ _)
  · obtain ⟨k, rfl⟩ := Int.eq_ofNat_of_zero_le (show 0 ≤ i by omega)
    have hk : k < L.length := by omega
    clear hnone
    have d0 := HCU.out k (by omega)
    have d1 := HCU.out (k + 1) (by omega)
    have g0 : ¬ (k : Int) < 0 := by omega
    have g1 : ¬ (L.length : Int) ≤ (k : Int) := by omega
    have g2 : (k : Int) < ((L.length + 1 : Nat) : Int) := by omega
    have g3 : (k : Int) + 1 < ((L.length + 1 : Nat) : Int) := by omega
    have hz := HFT.out.zero (k := k) (by omega)
    have hy := HFT.out.le (k := k + 1) hk
    have hs1 := HFT.out.s1
    have hm := HFT.out.mono (Nat.le_succ k) hk
    have hsu := cut_succ L k hk
    have hx0 := HFT.out.pos k hk
    by_cases hover : at_ < 0 ∨ n < 0 ∨ L.getD k 0 - at_ < n
    · have HE := Lib.hid (perr_over (at_ := at_) (n := n) k hk hover)
      have hd : Hid (∀ w', Fr0 w w' → AtPost L (k : Int) at_ n w (.returned (.tuple #[.int .i64 0, .int .i64 9])) w') := Lib.hid (fun w' hf => ⟨0, by rw [HE.out], hf, fun h0 => by rw [HE.out] at h0; cases h0⟩)
      generalize cut L k = c at *
      generalize cut L (k + 1) = d at *
      generalize L.getD k 0 = x at *
      by_cases h1 : at_ < 0
      · clear hover
        unfold ptr
        go_enter Try.func51, Try.ntmps51
        go_wp2
        go_quiet (fail)
        go_wp2
        go_ret2
        exact hd.out _ ((Fr.refl _ _).drewN _)
      · by_cases h2 : n < 0
        · clear hover
          unfold ptr
          go_enter Try.func51, Try.ntmps51
          go_wp2
          go_quiet (fail)
          go_wp2
          go_ret2
          exact hd.out _ ((Fr.refl _ _).drewN _)
        · by_cases h3 : d - c < at_
          · clear hover
            unfold ptr
            go_enter Try.func51, Try.ntmps51
            go_wp2
            go_quiet (fail)
            go_wp2
            go_ret2
            exact hd.out _ ((Fr.refl _ _).drewN _)
          · have h4 : d - c - at_ < n := by omega
            clear hover
            unfold ptr
            go_enter Try.func51, Try.ntmps51
            go_wp2
            go_quiet (fail)
            go_wp2
            go_ret2
            exact hd.out _ ((Fr.refl _ _).drewN _)
    · obtain ⟨a, rfl⟩ := Int.eq_ofNat_of_zero_le (show 0 ≤ at_ by omega)
      obtain ⟨m, rfl⟩ := Int.eq_ofNat_of_zero_le (show 0 ≤ n by omega)
      have hin : (m : Int) ≤ L.getD k 0 - (a : Int) := by omega
      clear hover
      have HE := Lib.hid (perr_in k a m hk hin)
      have HPI := Lib.hid (place_int HFT.out k a hk)
      have hd : Hid (∀ w', Fr0 w w' → AtPost L (k : Int) (a : Int) (m : Int) w (.returned (.tuple #[.int .i64 (cut L k + (a : Int)), .int .i64 0])) w') := Lib.hid (fun w' hf => ⟨_, by rw [HE.out], hf, fun _ => by rw [HPI.out, Int.toNat_natCast, Int.toNat_natCast]⟩)
      generalize cut L k = c at *
      generalize cut L (k + 1) = d at *
      generalize L.getD k 0 = x at *
      have q1 : ¬ d - c < (a : Int) := by omega
      have q2 : ¬ d - c - (a : Int) < (m : Int) := by omega
      unfold ptr
      go_enter Try.func51, Try.ntmps51
      go_wp2
      go_quiet (fail)
      go_wp2
      go_ret2
      exact hd.out _ ((Fr.refl _ _).drewN _)
set_option maxHeartbeats 2000000 in
theorem refWrite_any (B g pb cb : Nat) (L : List Int) (bs x : List UInt8) (i at_ : Int) (vb : Value) (hi : I64 i) (ha : I64 at_) (hx : x.length ≤ 9223372036854775807) (w : World) (h : AreR w B g pb cb L bs) (hb : BytesIs w vb x) :
    Calls Try.prog 41 #[ptr g, .int .i64 i, .int .i64 at_, vb] w fun e w' => e = .returned (.int .i64 (perr L i at_ (x.length : Int))) ∧ AreR w' B g pb cb L (wrote L bs i at_ x) ∧ Fr1 pb w w' := by
  have HA := Lib.hid h
  have hp := at_any B g pb cb L bs i at_ (x.length : Int) hi ha ⟨by omega, by omega⟩ w h
  have HB := Lib.hid hb
  obtain ⟨xa, xc, qb, qo, rfl, hxc, _, _⟩ := hb
  clear h hi ha hxc
  unfold ptr at hp ⊢
  go_enter Try.func41, Try.ntmps41
  go_wp2_with fail
  refine hp.mono ?_
  rintro e w1 ⟨y, rfl, hf, hv⟩
  have HB1 := Lib.hid (HB.out.fr0 hf)
  have HA1 : Hid (AreR w1 B g pb cb L bs) := Lib.hid (HA.out.fr0 hf)
  have HF := Lib.hid hf
  clear hp hf
  by_cases h0 : perr L i at_ (x.length : Int) = 0
  · have hy := hv h0
    have HW := Lib.hid (wrote_in (bs := bs) h0)
    have hpl := perr_place HA.out.fits h0
    rw [Int.toNat_natCast] at hpl
    have HER := Lib.hid h0
    have c0 := HA1.out.cell0
    rw [h0]
    clear hv h0
    generalize place L i.toNat at_.toNat = p at *
    subst hy
    obtain ⟨A', hA', hsl⟩ := cut_l_at (P := Try.prog) 32 5 Try.underlying32 (by kernel_rfl) pb bs.length bs.length p (p : Int) rfl (by omega) (Nat.le_refl _)
    obtain ⟨w2, hcp, hh2, hf2⟩ := run_copy_bytes (P := Try.prog) 32 32 5 Try.underlying32 (by kernel_rfl) HA1.out.bytes p (bs.length - p) (bs.length - p) A' hA' xa xc HB1.out (by omega) hpl
    have HH2 : Hid (AreR w2 B g pb cb L (putAt bs p x)) := Lib.hid (HA1.out.turned hf2 hh2 (putAt_length _ _ _ hpl))
    have HF2 : Hid (Fr1 pb w w2) := Lib.hid (HF.out.zero.trans' hf2)
    have hpb : p ≤ bs.length := by omega
    clear hh2 hf2 hA' hpl
    go_wp2
    go_ret
    exact ⟨by rw [HER.out]; rfl, by rw [HW.out]; exact HH2.out, HF2.out⟩
  · have HW := Lib.hid (wrote_not (bs := bs) h0)
    generalize her : perr L i at_ (x.length : Int) = er at *
    have HER := Lib.hid her
    clear her hv
    go_wp2
    go_ret
    exact ⟨by rw [HER.out]; rfl, by rw [HW.out]; exact HA1.out, HF.out.zero⟩
end Go.Proofs.Ytkdpdbjefehmpaa.Arena
