/-
  The walks of an arena's Read and Write.
-/
import Derived.Test.YtkdpdbjefehmpaaAreCalls
import Derived.Laws.CopyOwn
namespace Go.Proofs.Ytkdpdbjefehmpaa.Arena
open Go.RowKit Base

abbrev I64 (n : Int) : Prop := -9223372036854775808 ≤ n ∧ n ≤ 9223372036854775807
/-- what piece answers -/
def PiecePost (L : List Int) (pb : Nat) (i at_ n : Int) (w : World) (e : Ending) (w' : World) : Prop :=
  ∃ v, e = .returned (.tuple #[v, .int .i64 (perr L i at_ n)]) ∧ Fr0 w w' ∧ ((perr L i at_ n ≠ 0 ∧ v = .slice none 0 0) ∨ (perr L i at_ n = 0 ∧ ∃ A C, v = .slice A n.toNat C ∧ n.toNat ≤ C ∧ (0 < n.toNat → A = some ⟨pb, place L i.toNat at_.toNat, none⟩)))
set_option maxHeartbeats 2000000 in
theorem piece_any (B g pb cb : Nat) (L : List Int) (bs : List UInt8) (i at_ n : Int) (hi : I64 i) (ha : I64 at_) (hn : I64 n) (w : World) (h : AreP w B g pb cb L bs) :
    Calls Try.prog 46 #[ptr g, .int .i64 i, .int .i64 at_, .int .i64 n] w (PiecePost L pb i at_ n w) := by
  have HA := Lib.hid h
  clear h
  by_cases hnone : i < 0 ∨ (L.length : Int) ≤ i
  · have hp := region_out B g pb cb L bs i w HA.out hnone
    have HE := Lib.hid (perr_none (at_ := at_) (n := n) hnone)
    clear hnone
    have hd : Hid (∀ w', Fr0 w w' → PiecePost L pb i at_ n w (.returned (.tuple #[.slice none 0 0, .int .i64 1])) w') := Lib.hid (fun w' hf => ⟨_, by rw [HE.out], hf, .inl ⟨by rw [HE.out]; decide, rfl⟩⟩)
    unfold ptr at hp ⊢
    go_enter Try.func46, Try.ntmps46
    go_wp2_with fail
    refine hp.mono ?_
    rintro e w1 ⟨rfl, hf⟩
    have HF := Lib.hid hf
    clear hp hf
    go_wp2
    go_ret2
    exact hd.out _ HF.out
  · obtain ⟨k, rfl⟩ := Int.eq_ofNat_of_zero_le (show 0 ≤ i by omega)
    have hk : k < L.length := by omega
    clear hnone
    have hp := region_in B g pb cb L bs k w HA.out hk
    have HFT := Lib.hid HA.out.fits
    have hz := HFT.out.zero (k := k) (by omega)
    have hy := HFT.out.le (k := k + 1) hk
    have hs1 := HFT.out.s1
    have hm := HFT.out.mono (Nat.le_succ k) hk
    have hsu := cut_succ L k hk
    by_cases hover : at_ < 0 ∨ n < 0 ∨ L.getD k 0 - at_ < n
    · have HE := Lib.hid (perr_over (at_ := at_) (n := n) k hk hover)
      have hd : Hid (∀ w', Fr0 w w' → PiecePost L pb (k : Int) at_ n w (.returned (.tuple #[.slice none 0 0, .int .i64 9])) w') := Lib.hid (fun w' hf => ⟨_, by rw [HE.out], hf, .inl ⟨by rw [HE.out]; decide, rfl⟩⟩)
      generalize cut L k = c at *
      generalize cut L (k + 1) = d at *
      generalize L.getD k 0 = x at *
      unfold I64 at ha hn
      by_cases h1 : at_ < 0
      · clear hover
        unfold ptr at hp ⊢
        go_enter Try.func46, Try.ntmps46
        go_wp2_with fail
        refine hp.mono ?_
        rintro e w1 ⟨rfl, hf⟩
        have HF := Lib.hid hf
        clear hp hf
        go_wp2
        go_ret2
        exact hd.out _ HF.out
      · by_cases h2 : n < 0
        · clear hover
          unfold ptr at hp ⊢
          go_enter Try.func46, Try.ntmps46
          go_wp2_with fail
          refine hp.mono ?_
          rintro e w1 ⟨rfl, hf⟩
          have HF := Lib.hid hf
          clear hp hf
          go_wp2
          go_ret2
          exact hd.out _ HF.out
        · have h3 : d - c - at_ < n := by omega
          clear hover
          unfold ptr at hp ⊢
          go_enter Try.func46, Try.ntmps46
          go_wp2_with fail
          refine hp.mono ?_
          rintro e w1 ⟨rfl, hf⟩
          have HF := Lib.hid hf
          clear hp hf
          go_wp2
          go_ret2
          exact hd.out _ HF.out
    · obtain ⟨a, rfl⟩ := Int.eq_ofNat_of_zero_le (show 0 ≤ at_ by omega)
      obtain ⟨m, rfl⟩ := Int.eq_ofNat_of_zero_le (show 0 ≤ n by omega)
      have hin : (m : Int) ≤ L.getD k 0 - (a : Int) := by omega
      clear hover
      have HE := Lib.hid (perr_in k a m hk hin)
      have hpi := place_int HFT.out k a hk
      have hpl := place_le HFT.out k a m hk hin
      have HALL := Lib.hid HA.out.all
      obtain ⟨p, hpp⟩ : ∃ p, place L k a = p := ⟨_, rfl⟩
      have HPP := Lib.hid hpp
      rw [hpp] at hpi hpl
      clear hpp
      obtain ⟨A', hA', hsl⟩ := cut_lh_at (P := Try.prog) 32 5 Try.underlying32 (by kernel_rfl) pb bs.length bs.length p (p + m) (p : Int) ((p : Int) + (m : Int)) rfl (by omega) (by omega) hpl
      rw [show p + m - p = m by omega] at hsl hA'
      have hd : Hid (∀ w', Fr0 w w' → PiecePost L pb (k : Int) (a : Int) (m : Int) w (.returned (.tuple #[.slice A' m (bs.length - p), .int .i64 0])) w') := Lib.hid (fun w' hf => ⟨.slice A' m (bs.length - p), by rw [HE.out], hf, .inr ⟨HE.out, A', bs.length - p, by rw [Int.toNat_natCast], by rw [Int.toNat_natCast]; omega, fun h0 => by rw [Int.toNat_natCast, Int.toNat_natCast, HPP.out]; exact hA' (by simpa using h0)⟩⟩)
      have c0 := HA.out.cell0
      have hd0 : cut L (k + 1) - cut L k - (a : Int) ≥ (m : Int) := by omega
      clear hA' HALL
      generalize cut L k = c at *
      generalize cut L (k + 1) = d at *
      generalize L.getD k 0 = x at *
      unfold I64 at ha hn
      unfold ptr at hp ⊢
      go_enter Try.func46, Try.ntmps46
      go_wp2_with fail
      refine hp.mono ?_
      rintro e w1 ⟨rfl, hf⟩
      have c1 := (hf.cell (p := ⟨g, 0, none⟩) HA.out.g_lt (fun f => f)).trans c0
      have HF := Lib.hid hf
      clear hp hf c0
      go_wp2
      go_ret2
      exact hd.out _ HF.out
/-- bytes that a Read answers -/
def readOut (L : List Int) (bs : List UInt8) (i at_ n : Int) : List UInt8 := if perr L i at_ n = 0 then (bs.drop (place L i.toNat at_.toNat)).take n.toNat else []
theorem readOut_length (L : List Int) (bs : List UInt8) (i at_ n : Int) : (readOut L bs i at_ n).length ≤ bs.length := by
  unfold readOut
  split <;> simp <;> omega
theorem readOut_in {L : List Int} {bs : List UInt8} {i at_ n : Int} (h : perr L i at_ n = 0) : readOut L bs i at_ n = (bs.drop (place L i.toNat at_.toNat)).take n.toNat := if_pos h
theorem perr_place {size : Nat} {L : List Int} (hF : Fits (size : Int) L) {i at_ n : Int} (h : perr L i at_ n = 0) : place L i.toNat at_.toNat + n.toNat ≤ size := by
  obtain ⟨k, a, m, rfl, rfl, rfl, hk, hm⟩ := perr_iff h
  simpa using place_le hF k a m hk hm
set_option maxHeartbeats 2000000 in
theorem read_any (B g pb cb : Nat) (L : List Int) (bs : List UInt8) (i at_ n : Int) (hi : I64 i) (ha : I64 at_) (hn : I64 n) (w : World) (h : AreP w B g pb cb L bs) :
    Calls Try.prog 33 #[ptr g, .int .i64 i, .int .i64 at_, .int .i64 n] w fun e w' => ∃ v, e = .returned (.tuple #[v, .int .i64 (perr L i at_ n)]) ∧ BytesIs w' v (readOut L bs i at_ n) ∧ Fr0 w w' := by
  have HA := Lib.hid h
  have hp := piece_any B g pb cb L bs i at_ n hi ha hn w h
  clear h
  have hlen : Hid ((readOut L bs i at_ n).length ≤ 140737488355328) := Lib.hid (by have := readOut_length L bs i at_ n; have := HA.out.fits.s1; omega)
  clear hi ha hn
  unfold ptr at hp ⊢
  go_enter Try.func33, Try.ntmps33
  go_wp2_with fail
  refine hp.mono ?_
  rintro e w1 ⟨v, rfl, hf, hv⟩
  have HB : Hid (BytesIs w1 v (readOut L bs i at_ n)) := Lib.hid (by
    rcases hv with ⟨h0, rfl⟩ | ⟨h0, A, C, rfl, hC, hA⟩
    · unfold readOut; rw [if_neg h0]; exact BytesIs.nil _
    · rw [readOut_in h0]
      exact bytes_at (HA.out.fr0 hf).bytes _ _ C A hA hC (perr_place HA.out.fits h0))
  obtain ⟨A, nn, C, rfl⟩ := HB.out.slice
  have HF := Lib.hid hf
  clear hp hf hv
  generalize her : perr L i at_ n = er at *
  have HER := Lib.hid her
  clear her
  go_wp2_with fail
  refine (clone_any _ _ hlen.out w1 HB.out).mono ?_
  rintro e w2 ⟨v2, rfl, hb2, hf2⟩
  have HB2 := Lib.hid hb2
  have HF2 := Lib.hid (HF.out.trans' hf2)
  clear hb2 hf2
  go_wp2
  go_ret2
  exact ⟨v2, by rw [HER.out]; rfl, HB2.out, HF2.out⟩
/-- bytes behind a Write -/
def wrote (L : List Int) (bs : List UInt8) (i at_ : Int) (x : List UInt8) : List UInt8 := if perr L i at_ (x.length : Int) = 0 then putAt bs (place L i.toNat at_.toNat) x else bs
theorem wrote_in {L : List Int} {bs : List UInt8} {i at_ : Int} {x : List UInt8} (h : perr L i at_ (x.length : Int) = 0) : wrote L bs i at_ x = putAt bs (place L i.toNat at_.toNat) x := if_pos h
theorem wrote_not {L : List Int} {bs : List UInt8} {i at_ : Int} {x : List UInt8} (h : perr L i at_ (x.length : Int) ≠ 0) : wrote L bs i at_ x = bs := if_neg h
theorem wrote_length {L : List Int} {bs : List UInt8} (hF : Fits (bs.length : Int) L) (i at_ : Int) (x : List UInt8) : (wrote L bs i at_ x).length = bs.length := by
  by_cases h : perr L i at_ (x.length : Int) = 0
  · rw [wrote_in h, putAt_length _ _ _ (by simpa using perr_place hF h)]
  · rw [wrote_not h]
set_option maxHeartbeats 2000000 in
theorem write_any (B g pb cb : Nat) (L : List Int) (bs x : List UInt8) (i at_ : Int) (vb : Value) (hi : I64 i) (ha : I64 at_) (hx : x.length ≤ 9223372036854775807) (w : World) (h : AreP w B g pb cb L bs) (hb : BytesIs w vb x) :
    Calls Try.prog 31 #[ptr g, .int .i64 i, .int .i64 at_, vb] w fun e w' => e = .returned (.int .i64 (perr L i at_ (x.length : Int))) ∧ AreP w' B g pb cb L (wrote L bs i at_ x) ∧ Fr1 pb w w' := by
  have HA := Lib.hid h
  have hp := piece_any B g pb cb L bs i at_ (x.length : Int) hi ha ⟨by omega, by omega⟩ w h
  have HB := Lib.hid hb
  obtain ⟨xa, xc, qb, qo, rfl, hxc, _, _⟩ := hb
  have hq := Lib.hid HB.out
  clear h hi ha
  unfold ptr at hp ⊢
  go_enter Try.func31, Try.ntmps31
  go_wp2_with fail
  refine hp.mono ?_
  rintro e w1 ⟨v, rfl, hf, hv⟩
  have HB1 := Lib.hid (HB.out.fr0 hf)
  have HA1 : Hid (AreP w1 B g pb cb L bs) := Lib.hid (HA.out.fr0 hf)
  have HF := Lib.hid hf
  clear hp hf hxc
  rcases hv with ⟨h0, rfl⟩ | ⟨h0, A, C, rfl, hC, hA⟩
  · have HW := Lib.hid (wrote_not (bs := bs) h0)
    generalize her : perr L i at_ (x.length : Int) = er at *
    have HER := Lib.hid her
    clear her
    have hcp : ∀ ty, (Builtin.copy_ #[32, 32] ty #[.slice none 0 0, .slice xa x.length xc]).run Try.prog w1 = .ok (goInt 0) w1 := fun ty => run_copy_none w1 _ _ ty 5 none xa 0 0 x.length xc Try.underlying32 (by kernel_rfl) (by simp)
    simp only [goInt] at hcp
    go_wp2
    go_ret
    exact ⟨by rw [HER.out]; rfl, by rw [HW.out]; exact HA1.out, HF.out.zero⟩
  · have HW := Lib.hid (wrote_in (bs := bs) h0)
    have hpl := perr_place HA.out.fits h0
    rw [Int.toNat_natCast] at hpl hC hA
    have HER := Lib.hid h0
    rw [h0]
    generalize place L i.toNat at_.toNat = p at *
    obtain ⟨w2, hcp, hh2, hf2⟩ := run_copy_bytes (P := Try.prog) 32 32 5 Try.underlying32 (by kernel_rfl) HA1.out.bytes p (x.length : Int).toNat C A hA xa xc HB1.out (by simp) hpl
    have HH2 : Hid (AreP w2 B g pb cb L (putAt bs p x)) := Lib.hid (HA1.out.turned hf2 hh2 (putAt_length _ _ _ hpl))
    have HF2 : Hid (Fr1 pb w w2) := Lib.hid (HF.out.zero.trans' hf2)
    rw [Int.toNat_natCast] at hcp ⊢
    clear hh2 hf2 hA hC hpl
    go_wp2
    go_ret
    exact ⟨by rw [HER.out]; rfl, by rw [HW.out]; exact HH2.out, HF2.out⟩
end Go.Proofs.Ytkdpdbjefehmpaa.Arena
