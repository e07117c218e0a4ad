/-
  The walks of the reference's at, Read and Write.
-/
import Derived.Test.YtjpnmkcbkpikoaaAreRef
namespace Go.Proofs.Ytjpnmkcbkpikoaa.Arena
open Go.RowKit Base

def AtPost (L : List Int) (i at_ n : Int) (w : World) (e : Ending) (w' : World) : Prop :=
  ∃ x : Int, e = .returned (.tuple #[.int .i64 x, .int .i64 (perr L i at_ n)]) ∧ Fr0 w w' ∧ (perr L i at_ n = 0 → x = (place L i.toNat at_.toNat : Nat))
set_option maxHeartbeats 2000000 in
theorem at_any (B g pb cb : Nat) (L : List Int) (bs : List UInt8) (i at_ n : Int) (hi : I64 i) (ha : I64 at_) (hn : I64 n) (w : World) (h : AreR w B g pb cb L bs) :
    Calls Try.prog 20 #[ptr g, .int .i64 i, .int .i64 at_, .int .i64 n] w (AtPost L i at_ n w) := by
  obtain ⟨C, hC, c1⟩ := h.cell1
  have HFT := Lib.hid h.fits
  have hln := h.fits.n
  have HCU := Lib.hid h.cuts
  clear h
  unfold I64 at hi ha hn
  by_cases hnone : i < 0 ∨ (L.length : Int) ≤ i
  · have HE := Lib.hid (perr_none (at_ := at_) (n := n) hnone)
    have hd : Hid (∀ w', Fr0 w w' → AtPost L i at_ n w (.returned (.tuple #[.int .i64 0, .int .i64 1])) w') := Lib.hid (fun w' hf => ⟨0, by rw [HE.out], hf, fun h0 => by rw [HE.out] at h0; cases h0⟩)
    by_cases h0 : i < 0
    · clear hnone
      unfold ptr
      go_enter Try.func20, Try.ntmps20
      go_wp2
      go_ret2
      exact hd.out _ (Fr.refl _ _)
    · have h1 : (L.length : Int) ≤ i := by omega
      clear hnone
      unfold ptr
      go_enter Try.func20, Try.ntmps20
      go_wp2
      go_ret2
      exact hd.out _ (Fr.refl _ _)
  · obtain ⟨k, rfl⟩ := Int.eq_ofNat_of_zero_le (show 0 ≤ i by omega)
    have hk : k < L.length := by omega
    clear hnone
    have d0 := HCU.out k (by omega)
    have d1 := HCU.out (k + 1) (by omega)
    have g0 : ¬ (k : Int) < 0 := by omega
    have g1 : ¬ (L.length : Int) ≤ (k : Int) := by omega
    have g2 : (k : Int) < ((L.length + 1 : Nat) : Int) := by omega
    have g3 : (k : Int) + 1 < ((L.length + 1 : Nat) : Int) := by omega
    have hz := HFT.out.zero (k := k) (by omega)
    have hy := HFT.out.le (k := k + 1) hk
    have hs1 := HFT.out.s1
    have hm := HFT.out.mono (Nat.le_succ k) hk
    have hsu := cut_succ L k hk
    have hx0 := HFT.out.pos k hk
    by_cases hover : at_ < 0 ∨ n < 0 ∨ L.getD k 0 - at_ < n
    · have HE := Lib.hid (perr_over (at_ := at_) (n := n) k hk hover)
      have hd : Hid (∀ w', Fr0 w w' → AtPost L (k : Int) at_ n w (.returned (.tuple #[.int .i64 0, .int .i64 9])) w') := Lib.hid (fun w' hf => ⟨0, by rw [HE.out], hf, fun h0 => by rw [HE.out] at h0; cases h0⟩)
      generalize cut L k = c at *
      generalize cut L (k + 1) = d at *
      generalize L.getD k 0 = x at *
      by_cases h1 : at_ < 0
      · clear hover
        unfold ptr
        go_enter Try.func20, Try.ntmps20
        go_wp2
        go_quiet (fail)
        go_wp2
        go_ret2
        exact hd.out _ ((Fr.refl _ _).drewN _)
      · by_cases h2 : n < 0
        · clear hover
          unfold ptr
          go_enter Try.func20, Try.ntmps20
          go_wp2
          go_quiet (fail)
          go_wp2
          go_ret2
          exact hd.out _ ((Fr.refl _ _).drewN _)
        · by_cases h3 : d - c < at_
          · clear hover
            unfold ptr
            go_enter Try.func20, Try.ntmps20
            go_wp2
            go_quiet (fail)
            go_wp2
            go_ret2
            exact hd.out _ ((Fr.refl _ _).drewN _)
          · have h4 : d - c - at_ < n := by omega
            clear hover
            unfold ptr
            go_enter Try.func20, Try.ntmps20
            go_wp2
            go_quiet (fail)
            go_wp2
            go_ret2
            exact hd.out _ ((Fr.refl _ _).drewN _)
    · obtain ⟨a, rfl⟩ := Int.eq_ofNat_of_zero_le (show 0 ≤ at_ by omega)
      obtain ⟨m, rfl⟩ := Int.eq_ofNat_of_zero_le (show 0 ≤ n by omega)
      have hin : (m : Int) ≤ L.getD k 0 - (a : Int) := by omega
      clear hover
      have HE := Lib.hid (perr_in k a m hk hin)
      have HPI := Lib.hid (place_int HFT.out k a hk)
      have hd : Hid (∀ w', Fr0 w w' → AtPost L (k : Int) (a : Int) (m : Int) w (.returned (.tuple #[.int .i64 (cut L k + (a : Int)), .int .i64 0])) w') := Lib.hid (fun w' hf => ⟨_, by rw [HE.out], hf, fun _ => by rw [HPI.out, Int.toNat_natCast, Int.toNat_natCast]⟩)
      generalize cut L k = c at *
      generalize cut L (k + 1) = d at *
      generalize L.getD k 0 = x at *
      have q1 : ¬ d - c < (a : Int) := by omega
      have q2 : ¬ d - c - (a : Int) < (m : Int) := by omega
      unfold ptr
      go_enter Try.func20, Try.ntmps20
      go_wp2
      go_quiet (fail)
      go_wp2
      go_ret2
      exact hd.out _ ((Fr.refl _ _).drewN _)
set_option maxHeartbeats 2000000 in
theorem refRead_any (B g pb cb : Nat) (L : List Int) (bs : List UInt8) (i at_ n : Int) (hi : I64 i) (ha : I64 at_) (hn : I64 n) (w : World) (h : AreR w B g pb cb L bs) :
    Calls Try.prog 15 #[ptr g, .int .i64 i, .int .i64 at_, .int .i64 n] w fun e w' => ∃ v, e = .returned (.tuple #[v, .int .i64 (perr L i at_ n)]) ∧ BytesIs w' v (readOut L bs i at_ n) ∧ Fr0 w w' := by
  have HA := Lib.hid h
  have hp := at_any B g pb cb L bs i at_ n hi ha hn w h
  clear h
  unfold I64 at hn
  unfold ptr at hp ⊢
  go_enter Try.func15, Try.ntmps15
  go_wp2_with fail
  refine hp.mono ?_
  rintro e w1 ⟨x, rfl, hf, hv⟩
  have HF := Lib.hid hf
  have HA1 : Hid (AreR w1 B g pb cb L bs) := Lib.hid (HA.out.fr0 hf)
  clear hp hf
  by_cases h0 : perr L i at_ n = 0
  · have hx := hv h0
    have hpl := perr_place HA.out.fits h0
    have HR := Lib.hid (readOut_in (bs := bs) h0)
    have hn0 : ∃ m : Nat, n = (m : Int) := by obtain ⟨_, _, m, _, _, h, _, _⟩ := perr_iff h0; exact ⟨m, h⟩
    have HER := Lib.hid h0
    have hs1 := HA.out.fits.s1
    have c0 := HA1.out.cell0
    obtain ⟨m, rfl⟩ := hn0
    rw [Int.toNat_natCast] at hpl
    rw [Int.toNat_natCast] at HR
    rw [h0]
    clear hv h0
    generalize place L i.toNat at_.toNat = p at *
    subst hx
    obtain ⟨A', hA', hsl⟩ := cut_lh_at (P := Try.prog) 29 5 Try.underlying29 (by kernel_rfl) pb bs.length bs.length p (p + m) (p : Int) ((p : Int) + (m : Int)) rfl (by omega) (by omega) hpl
    rw [show p + m - p = m by omega] at hsl hA'
    have HBY : Hid (BytesIs (w1.alloc (.cells #[] 5)) (.slice A' m (bs.length - p)) ((bs.drop p).take m)) := Lib.hid ((bytes_at HA1.out.bytes p m (bs.length - p) A' hA' (by omega) hpl).fr0 ((Fr.refl _ _).alloc _))
    have HLN : Hid (((bs.drop p).take m).length ≤ 65536) := Lib.hid (by simp; omega)
    have c1 : (w1.alloc (.cells #[] 5)).cell? ⟨g, 0, none⟩ = some (.slice (some ⟨pb, 0, none⟩) bs.length bs.length) := (((Fr.refl (fun _ => False) w1).alloc (.cells #[] 5)).cell (p := ⟨g, 0, none⟩) HA1.out.g_lt (fun f => f)).trans c0
    clear hA' c0
    go_wp2_with (refine wpList_append_bytes rfl (.tmp 23) (.tmp 32) 29 rfl w1.heap.size 5 Try.underlying29 info8 _ _ 0 [] ((bs.drop p).take m) rfl rfl (owns_empty w1 w1.heap.size _ (Nat.le_refl _) _ rfl) HBY.out (by have := HLN.out; omega) ((Fr.refl (fun _ => False) _).alloc _).size ?_; intro v2 w2 hO2 hG2)
    go_ret2
    refine ⟨v2, by rw [HER.out]; rfl, by rw [HR.out]; exact BytesIs.own hO2, HF.out.trans' (((Fr.refl _ _).alloc _).grown hG2 (fun k hk e => by cases e; exact absurd hk (Nat.lt_irrefl _)))⟩
  · have HR : Hid (readOut L bs i at_ n = []) := Lib.hid (if_neg h0)
    generalize her : perr L i at_ n = er at *
    have HER := Lib.hid her
    clear her hv
    go_wp2
    go_ret2
    exact ⟨_, by rw [HER.out]; rfl, by rw [HR.out]; exact BytesIs.nil _, HF.out⟩
set_option maxHeartbeats 2000000 in
theorem refWrite_any (B g pb cb : Nat) (L : List Int) (bs x : List UInt8) (i at_ : Int) (vb : Value) (hi : I64 i) (ha : I64 at_) (hx : x.length ≤ 9223372036854775807) (w : World) (h : AreR w B g pb cb L bs) (hb : BytesIs w vb x) :
    Calls Try.prog 16 #[ptr g, .int .i64 i, .int .i64 at_, vb] w fun e w' => e = .returned (.int .i64 (perr L i at_ (x.length : Int))) ∧ AreR w' B g pb cb L (wrote L bs i at_ x) ∧ Fr1 pb w w' := by
  have HA := Lib.hid h
  have hp := at_any B g pb cb L bs i at_ (x.length : Int) hi ha ⟨by omega, by omega⟩ w h
  have HB := Lib.hid hb
  obtain ⟨xa, xc, qb, qo, rfl, hxc, _, _⟩ := hb
  clear h hi ha hxc
  unfold ptr at hp ⊢
  go_enter Try.func16, Try.ntmps16
  go_wp2_with fail
  refine hp.mono ?_
  rintro e w1 ⟨y, rfl, hf, hv⟩
  have HB1 := Lib.hid (HB.out.fr0 hf)
  have HA1 : Hid (AreR w1 B g pb cb L bs) := Lib.hid (HA.out.fr0 hf)
  have HF := Lib.hid hf
  clear hp hf
  by_cases h0 : perr L i at_ (x.length : Int) = 0
  · have hy := hv h0
    have HW := Lib.hid (wrote_in (bs := bs) h0)
    have hpl := perr_place HA.out.fits h0
    rw [Int.toNat_natCast] at hpl
    have HER := Lib.hid h0
    have c0 := HA1.out.cell0
    rw [h0]
    clear hv h0
    generalize place L i.toNat at_.toNat = p at *
    subst hy
    obtain ⟨A', hA', hsl⟩ := cut_l_at (P := Try.prog) 29 5 Try.underlying29 (by kernel_rfl) pb bs.length bs.length p (p : Int) rfl (by omega) (Nat.le_refl _)
    obtain ⟨w2, hcp, hh2, hf2⟩ := run_copy_bytes (P := Try.prog) 29 29 5 Try.underlying29 (by kernel_rfl) HA1.out.bytes p (bs.length - p) (bs.length - p) A' hA' xa xc HB1.out (by omega) hpl
    have HH2 : Hid (AreR w2 B g pb cb L (putAt bs p x)) := Lib.hid (HA1.out.turned hf2 hh2 (putAt_length _ _ _ hpl))
    have HF2 : Hid (Fr1 pb w w2) := Lib.hid (HF.out.zero.trans' hf2)
    have hpb : p ≤ bs.length := by omega
    clear hh2 hf2 hA' hpl
    go_wp2
    go_ret
    exact ⟨by rw [HER.out]; rfl, by rw [HW.out]; exact HH2.out, HF2.out⟩
  · have HW := Lib.hid (wrote_not (bs := bs) h0)
    generalize her : perr L i at_ (x.length : Int) = er at *
    have HER := Lib.hid her
    clear her hv
    go_wp2
    go_ret
    exact ⟨by rw [HER.out]; rfl, by rw [HW.out]; exact HA1.out, HF.out.zero⟩
end Go.Proofs.Ytjpnmkcbkpikoaa.Arena
