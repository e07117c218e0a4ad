/-
  The reference's Number, exact.
-/
import Derived.Test.YtbiokogihimboaaDoorAggSpec
import Derived.Test.YtbiokogihimboaaDoorTenantRef
import Derived.Deep.DeepCutAuto
import Derived.Deep.LoopGhost
namespace Go.Proofs.YtbiokogihimboaaDoor.Agg
open Go.RowKit Base _root_.Go.Proofs.YtbiokogihimboaaDoor.Tenant _root_.Go.Proofs.YtbiokogihimboaaDoor.Series _root_.Go.Proofs.YtbiokogihimboaaDoor.Pack

theorem dec_small (u : Nat) (h : u < 10) : Lib.decDigits u = [UInt8.ofNat (48 + u)] := by rw [Lib.decDigits, dif_pos h]
theorem dec_big (u : Nat) (h : ¬ u < 10) : Lib.decDigits u = Lib.decDigits (u / 10) ++ [UInt8.ofNat (48 + u % 10)] := by rw [Lib.decDigits, dif_neg h]
theorem dec_len (u : Nat) : ∀ k, u < 10 ^ (k + 1) → (Lib.decDigits u).length ≤ k + 1 := by
  intro k
  induction k generalizing u with
  | zero => intro h; rw [dec_small u (by simpa using h)]; simp
  | succ k ih =>
    intro h
    by_cases h1 : u < 10
    · rw [dec_small u h1]; simp
    · rw [dec_big u h1, List.length_append]
      have := ih (u / 10) (by rw [Nat.pow_succ] at h; omega)
      simp; omega
/-- a number as its digits are taken off: the rest r, the last ones S -/
def Offs (n r : Int) (S : List UInt8) : Prop := Lib.decDigits n.natAbs = Lib.decDigits r.natAbs ++ S ∧ S.length ≤ 20 ∧ (r < 0 → n < 0) ∧ (0 < r → 0 ≤ n) ∧ (r = 0 → n = 0)
theorem one_byte (w : World) (t : TypeId) (d : Nat) (b : UInt8) (hb : b.toNat = 48 + d) : BytesIs (w.alloc (.cells #[.int .u8 (48 + (d : Int))] t)) (.slice (some ⟨w.heap.size, 0, none⟩) 1 1) [b] := by
  refine ⟨_, 1, w.heap.size, 0, rfl, Nat.le_refl _, fun _ => rfl, fun j hj => ?_⟩
  obtain rfl : j = 0 := by simpa using hj
  rw [cell_of_row _ _ _ _ _ _ (heap_alloc_new w _)]
  show some (Value.int .u8 (48 + (d : Int))) = some (.int .u8 (b.toNat : Int))
  rw [hb]
  simp
theorem str_cons (b : UInt8) (S : List UInt8) : (⟨#[b]⟩ : ByteArray) ++ ⟨S.toArray⟩ = ⟨(b :: S).toArray⟩ := by
  apply ByteArray.ext
  simp
theorem Offs.next {n r q : Int} {S : List UInt8} {d : Nat} {b : UInt8} (h : Offs n r S) (hn : Fit n) (hq : r.tdiv 10 = q) (hd : r.natAbs % 10 = d) (hb : b = UInt8.ofNat (48 + d)) (hq0 : q ≠ 0) : Offs n q (b :: S) ∧ q.natAbs < r.natAbs := by
  obtain ⟨h1, h2, h3, h4, h5⟩ := h
  have hqa : q.natAbs = r.natAbs / 10 := by rw [← hq, Int.natAbs_tdiv]; rfl
  have hbig : ¬ r.natAbs < 10 := fun hlt => hq0 (by omega)
  refine ⟨⟨?_, ?_, fun hx => h3 ?_, fun hx => h4 ?_, fun hx => absurd hx hq0⟩, by omega⟩
  · rw [h1, dec_big _ hbig, ← hqa, hd, hb]
    simp
  · have hl := dec_len n.natAbs 18 (by unfold Fit at hn; omega)
    rw [h1, List.length_append, dec_big _ hbig, List.length_append, ← hqa] at hl
    simp at hl ⊢
    omega
  · rcases Int.lt_trichotomy r 0 with h | h | h
    · exact h
    · subst h; simp at hbig
    · have := Int.tdiv_nonneg (show 0 ≤ r by omega) (show (0 : Int) ≤ 10 by decide); omega
  · rcases Int.lt_trichotomy r 0 with h | h | h
    · have h6 := Int.tdiv_nonneg (show 0 ≤ -r by omega) (show (0 : Int) ≤ 10 by decide)
      rw [Int.neg_tdiv] at h6
      omega
    · subst h; simp at hbig
    · exact h
theorem Offs.last {n r : Int} {S : List UInt8} {d : Nat} {b : UInt8} (h : Offs n r S) (hq : r.tdiv 10 = 0) (hd : r.natAbs % 10 = d) (hb : b = UInt8.ofNat (48 + d)) : Lib.decDigits n.natAbs = b :: S ∧ (b :: S).length ≤ 21 := by
  have hqa : (0 : Int).natAbs = r.natAbs / 10 := by rw [← hq, Int.natAbs_tdiv]; rfl
  have hsm : r.natAbs < 10 := by simp at hqa; omega
  refine ⟨?_, by have := h.2.1; simp; omega⟩
  rw [h.1, dec_small _ hsm, hb, ← hd, Nat.mod_eq_of_lt hsm]
  rfl
theorem itoa_neg {n : Int} (h : n < 0) : Lib.itoa n = 45 :: Lib.decDigits n.natAbs := by unfold Lib.itoa; rw [if_pos h]
theorem itoa_pos {n : Int} (h : ¬ n < 0) : Lib.itoa n = Lib.decDigits n.natAbs := by
  unfold Lib.itoa
  rw [if_neg h]
  congr 1
  omega
theorem no_over (b : UInt8) (S : List UInt8) (h : S.length ≤ 20) : ¬ ((⟨#[b]⟩ : ByteArray).size + (⟨S.toArray⟩ : ByteArray).size > 9223372036854775807) := by
  rw [show (⟨#[b]⟩ : ByteArray).size = 1 from rfl, size_str]
  omega
theorem no_over2 (b : UInt8) (S : List UInt8) (h : S.length ≤ 20) : ¬ ((⟨#[45]⟩ : ByteArray).size + ((⟨#[b]⟩ : ByteArray) ++ ⟨S.toArray⟩).size > 9223372036854775807) := by
  rw [str_cons, show (⟨#[45]⟩ : ByteArray).size = 1 from rfl, size_str, List.length_cons]
  omega
theorem wrap_digit {x : Int} {d : Nat} (h : -x = (d : Int)) (hd : d < 10) : wrap64 (-x) = (d : Int) := by rw [h]; simp only [wrap64]; omega
theorem rem_ways (r : Int) (d : Nat) (hd : r.natAbs % 10 = d) : r.tmod 10 = (d : Int) ∨ (r.tmod 10 < 0 ∧ -(r.tmod 10) = (d : Int)) := by
  rcases Int.le_total 0 r with h | h
  · left
    rw [Int.tmod_eq_emod_of_nonneg h]
    omega
  · have e : r.tmod 10 = -((-r).tmod 10) := by rw [Int.neg_tmod, Int.neg_neg]
    rw [Int.tmod_eq_emod_of_nonneg (show 0 ≤ -r by omega)] at e
    omega
theorem size_one (b : UInt8) : (⟨#[b]⟩ : ByteArray).size = 1 := rfl
set_option maxRecDepth 100000 in
set_option maxHeartbeats 4000000 in
theorem rnumber_any (n : Int) (hn : Fit n) (w : World) :
    Calls Tryd.prog 30 #[.int .i64 n] w fun e w' => e = .returned (.string ⟨(Lib.itoa n).toArray⟩) ∧ Fr0 w w' := by
  unfold Fit at hn
  have HN := Lib.hid hn
  have HOF : Hid (Offs n n []) := Lib.hid ⟨by simp, by simp, id, fun h => by omega, id⟩
  have HNEG : Hid (n < 0 → Lib.itoa n = 45 :: Lib.decDigits n.natAbs) := Lib.hid itoa_neg
  have HPOS : Hid (¬ n < 0 → Lib.itoa n = Lib.decDigits n.natAbs) := Lib.hid itoa_pos
  generalize Lib.itoa n = txt at *
  go_enter Tryd.func30, Tryd.ntmps30
  go_wp2_with fail
  clear hn
  go_loopg [0, 3, 5] n.natAbs (fun kx vn vs vd wr => ∃ (r : Int) (S : List UInt8), vn = .int .i64 r ∧ vs = .string ⟨S.toArray⟩ ∧ r.natAbs ≤ kx ∧ Hid (-9223372036854775808 ≤ r ∧ r ≤ 9223372036854775807) ∧ Hid (Offs n r S) ∧ Hid (Fr0 w wr))
  case atStart => exact ⟨n, [], rfl, rfl, Nat.le_refl _, HN, HOF, Lib.hid (Fr.refl _ _)⟩
  case round =>
    clear HOF
    obtain ⟨r, S, rfl, rfl, hk, HR, HO, HF⟩ := hrel
    obtain ⟨d, hd⟩ : ∃ d, r.natAbs % 10 = d := ⟨_, rfl⟩
    have hd10 : d < 10 := by omega
    obtain ⟨b, hb⟩ : ∃ b, b = UInt8.ofNat (48 + d) := ⟨_, rfl⟩
    have hbn : b.toNat = 48 + d := by rw [hb]; simp; omega
    obtain ⟨q, hq⟩ : ∃ q, r.tdiv 10 = q := ⟨_, rfl⟩
    have HQ := Lib.hid hq
    have HD := Lib.hid hd
    have HBB := Lib.hid hb
    have hqn : q.natAbs = r.natAbs / 10 := by rw [← hq, Int.natAbs_tdiv]; rfl
    have hwq : wrap64 q = q := by have := HR.out; simp only [wrap64]; omega
    have HB := Lib.hid (one_byte wr 5 d b hbn)
    have hcv := HB.out.convert (P := Tryd.prog) 28 9 5 Tryd.underlying28 Tryd.underlying5 Tryd.underlying9
    have HF1 := Lib.hid (HF.out.trans' ((Fr.refl (fun _ => False) wr).alloc (.cells #[.int .u8 (48 + (d : Int))] 5)))
    have hu8 : IntKind.u8.wrap (48 + (d : Int)) = 48 + (d : Int) := by rw [IntKind.wrap_u8]; omega
    have hd1 : (d : Int) < 10 := by omega
    have hw : wrap64 (48 + (d : Int)) = 48 + (d : Int) := by simp only [wrap64]; omega
    have HX := Lib.hid (rem_ways r d hd)
    have HD10 := Lib.hid hd10
    have h48 : 0 ≤ (d : Int) := Int.natCast_nonneg d
    have hd0 : ¬ ((d : Int) < 0) := Int.not_lt.2 h48
    have HS20 := Lib.hid HO.out.2.1
    have HSZ1 : Hid (¬ ((⟨#[b]⟩ : ByteArray).size + (⟨S.toArray⟩ : ByteArray).size > 9223372036854775807)) := Lib.hid (no_over b S HS20.out)
    clear hb hbn hd hd10
    by_cases hq0 : q = 0
    · subst hq0
      clear hqn hwq
      obtain ⟨hl1, hl2⟩ := HO.out.last HQ.out HD.out HBB.out
      have HSZ2 := Lib.hid (no_over2 b S HS20.out)
      have HL := Lib.hid hl1
      clear hl1 hl2
      by_cases hn : n < 0
      · have HE : Hid ((⟨#[45]⟩ : ByteArray) ++ (⟨#[b]⟩ ++ ⟨S.toArray⟩) = ⟨txt.toArray⟩) := Lib.hid (by rw [HNEG.out hn, HL.out, str_cons, str_cons])
        have hsz2 := HSZ2.out
        rcases HX.out with ht | ⟨ht, htn⟩
        · skip
          have hsz := HSZ1.out
          go_wp2
          go_ret
          exact ⟨by rw [← HE.out]; rfl, HF1.out⟩
        · have hwn : wrap64 (-r.tmod 10) = (d : Int) := wrap_digit htn HD10.out
          have hsz := HSZ1.out
          go_wp2
          go_ret
          exact ⟨by rw [← HE.out]; rfl, HF1.out⟩
      · have HE : Hid ((⟨#[b]⟩ : ByteArray) ++ ⟨S.toArray⟩ = ⟨txt.toArray⟩) := Lib.hid (by rw [HPOS.out (by omega), HL.out, str_cons])
        rcases HX.out with ht | ⟨ht, htn⟩
        · skip
          have hsz := HSZ1.out
          go_wp2
          go_ret
          exact ⟨by rw [← HE.out]; rfl, HF1.out⟩
        · have hwn : wrap64 (-r.tmod 10) = (d : Int) := wrap_digit htn HD10.out
          have hsz := HSZ1.out
          go_wp2
          go_ret
          exact ⟨by rw [← HE.out]; rfl, HF1.out⟩
    · obtain ⟨ho, hlt⟩ := HO.out.next (by unfold Fit; exact HN.out) HQ.out HD.out HBB.out hq0
      have HO2 := Lib.hid ho
      have HSC := Lib.hid (str_cons b S)
      have HQB : Hid (-9223372036854775808 ≤ q ∧ q ≤ 9223372036854775807) := Lib.hid (by have := HR.out; omega)
      have hqq : (q == 0) = false := beq_eq_false_iff_ne.2 hq0
      clear ho hq0 hqn
      rcases HX.out with ht | ⟨ht, htn⟩
      · skip
        have hsz := HSZ1.out
        go_wp2
        go_roundg q.natAbs
        case measure => omega
        case rel => exact ⟨q, b :: S, rfl, by rw [← HSC.out], Nat.le_refl _, HQB, HO2, HF1⟩
      · have hwn : wrap64 (-r.tmod 10) = (d : Int) := wrap_digit htn HD10.out
        have hsz := HSZ1.out
        go_wp2
        go_roundg q.natAbs
        case measure => omega
        case rel => exact ⟨q, b :: S, rfl, by rw [← HSC.out], Nat.le_refl _, HQB, HO2, HF1⟩
end Go.Proofs.YtbiokogihimboaaDoor.Agg
