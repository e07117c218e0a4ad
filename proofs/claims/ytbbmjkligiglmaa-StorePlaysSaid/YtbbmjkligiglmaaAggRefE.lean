/-
  The reference's exact: all together in two halves.
-/
import Derived.Test.YtbbmjkligiglmaaAggRefN
import Derived.Test.YtbbmjkligiglmaaWays
namespace Go.Proofs.Ytbbmjkligiglmaa.Agg
open Go.RowKit Base _root_.Go.Proofs.Ytbbmjkligiglmaa.Tenant _root_.Go.Proofs.Ytbbmjkligiglmaa.Series _root_.Go.Proofs.Ytbbmjkligiglmaa.Pack
open _root_.Go.Proofs.Ytbbmjkligiglmaa.Ask (tw tw_lt)

theorem ints_at' {w : World} {a1 : Option Addr} {n cap : Nat} {l : List Int} (h : IntsIs w (.slice a1 n cap) l) (j : Nat) (hj : j < l.length) : ∃ pb po, a1 = some ⟨pb, po, none⟩ ∧ ∀ wr, Fr0 w wr → wr.cell? ⟨pb, po + j, none⟩ = some (.int .i64 (l.getD j 0)) := by
  obtain ⟨a, c, pb, po, hv, _, ha, hc⟩ := h
  simp only [Value.slice.injEq] at hv
  obtain ⟨rfl, _, _⟩ := hv
  have h1 := hc j hj
  exact ⟨pb, po, ha (by omega), fun wr hf => (hf.cell (p := ⟨pb, po + j, none⟩) (World.block_lt_of_cell? w _ h1) (fun f => f)).trans h1⟩
theorem tot_next (l : List Int) (i : Nat) (hi : i < l.length) : tot (l.take (i + 1)) = tot (l.take i) + l.getD i 0 := by
  rw [List.take_add_one, List.getD_eq_getElem?_getD, List.getElem?_eq_getElem hi, tot_app]
  simp [tot]
/-- the two halves -/
def Halves (t H : Int) (L : Nat) : Prop := H * 18446744073709551616 + (L : Int) = t
theorem halves_fit {t H : Int} {L : Nat} (h : Halves t H L) (hL : L < 18446744073709551616) : (fits t = true ↔ (H = 0 ∧ L < 9223372036854775808) ∨ (H = -1 ∧ 9223372036854775808 ≤ L)) := by
  unfold Halves at h
  rw [fits_iff]
  unfold Fit
  omega
theorem halves_next {t H x : Int} {L : Nat} (h : Halves t H L) (hL : L < 18446744073709551616) (hx : Fit x) : Halves (t + x) ((if L + tw x < 18446744073709551616 then H else H + 1) - (if x < 0 then 1 else 0)) (if L + tw x < 18446744073709551616 then L + tw x else L + tw x - 18446744073709551616) := by
  unfold Halves Fit tw at *
  split <;> split <;> omega
theorem halves_end {T H V : Int} {L : Nat} (h : Halves T H L) (hL : L < 18446744073709551616) (hV : V = _root_.Go.Proofs.Ytbbmjkligiglmaa.Ask.un L) : (H = 0 ∧ 0 ≤ V → fits T = true ∧ T = V) ∧ (H = -1 ∧ V < 0 → fits T = true ∧ T = V) ∧ (¬ (H = 0 ∧ 0 ≤ V) → ¬ (H = -1 ∧ V < 0) → fits T = false) := by
  have hf := halves_fit h hL
  unfold Halves at h
  unfold _root_.Go.Proofs.Ytbbmjkligiglmaa.Ask.un at hV
  refine ⟨fun ⟨h1, h2⟩ => ?_, fun ⟨h1, h2⟩ => ?_, fun h1 h2 => ?_⟩
  · split at hV
    · exact ⟨hf.2 (.inl ⟨h1, by omega⟩), by omega⟩
    · omega
  · split at hV
    · omega
    · exact ⟨hf.2 (.inr ⟨h1, by omega⟩), by omega⟩
  · rw [Bool.eq_false_iff]
    intro hx
    split at hV
    · rcases hf.1 hx with ⟨h3, h4⟩ | ⟨h3, h4⟩
      · exact h1 ⟨h3, by omega⟩
      · omega
    · rcases hf.1 hx with ⟨h3, h4⟩ | ⟨h3, h4⟩
      · omega
      · exact h2 ⟨h3, by omega⟩
theorem un_wrap' (x : Nat) (h : x < 18446744073709551616) : IntKind.i64.wrap (x : Int) = _root_.Go.Proofs.Ytbbmjkligiglmaa.Ask.un x := by
  rw [IntKind.wrap_i64]
  unfold _root_.Go.Proofs.Ytbbmjkligiglmaa.Ask.un
  split <;> omega
theorem conv_un' (x : Nat) (h : x < 18446744073709551616) (w : World) : (convert 110 2 (.int .u64 (x : Int))).run Try.prog w = .ok (.int .i64 (_root_.Go.Proofs.Ytbbmjkligiglmaa.Ask.un x)) w := by
  have h1 := run_convert_int (P := Try.prog) w 110 2 .u64 (x : Int) (by rw [Try.underlying110]; rfl) (by kernel_rfl)
  rw [show Try.prog.intKind 2 = .i64 by kernel_rfl] at h1
  rw [h1, un_wrap' x h]
set_option maxRecDepth 100000 in
set_option maxHeartbeats 4000000 in
theorem rexact_any (v : Value) (l : List Int) (hl : l.length ≤ 1000000) (hs : ∀ x ∈ l, Fit x) (w : World) (hP : IntsIs w v l) :
    Calls Try.prog 42 #[v] w fun e w' => e = .returned (.tuple #[.int .i64 (if fits (tot l) = true then tot l else 0), .bool (fits (tot l))]) ∧ Fr0 w w' := by
  obtain ⟨A, C, rfl⟩ : ∃ A C, v = .slice A l.length C := by obtain ⟨a, c, _, _, hv, _⟩ := hP; exact ⟨a, c, hv⟩
  have HP := Lib.hid hP
  have HS : Hid (∀ i, i < l.length → Fit (l.getD i 0)) := Lib.hid (fun i hi => hs _ (by rw [List.getD_eq_getElem?_getD, List.getElem?_eq_getElem hi]; exact List.getElem_mem hi))
  have HT := Lib.hid (tot_next l)
  have HE : Hid (∀ i, l.length ≤ i → tot (l.take i) = tot l) := Lib.hid (fun i h => by rw [List.take_of_length_le h])
  have H0 : Hid (tot (l.take 0) = 0) := Lib.hid rfl
  clear hP hs
  generalize hN : l.length = N at *
  have HN := Lib.hid hN
  clear hN
  generalize hT0 : tot l = T at *
  clear hT0
  have HSM : Hid ((fits T = true → (if fits T = true then T else 0) = T) ∧ (fits T = false → (if fits T = true then T else 0) = 0)) := Lib.hid ⟨fun h => if_pos h, fun h => if_neg (by rw [h]; decide)⟩
  generalize (if fits T = true then T else 0) = sm at *
  have HVT0 : Hid (∀ H V L, Halves T H L → L < 18446744073709551616 → V = _root_.Go.Proofs.Ytbbmjkligiglmaa.Ask.un L → (H = 0 ∧ 0 ≤ V → fits T = true ∧ T = V) ∧ (H = -1 ∧ V < 0 → fits T = true ∧ T = V) ∧ (¬ (H = 0 ∧ 0 ≤ V) → ¬ (H = -1 ∧ V < 0) → fits T = false)) := Lib.hid (fun H V L h1 h2 h3 => halves_end h1 h2 h3)
  generalize fits T = ft at *
  go_enter Try.func42, Try.ntmps42
  go_wp2_with fail
  go_loopg [4, 5, 6] N (fun kx vh vl vi wr => ∃ (i : Nat) (H : Int) (L : Nat), vi = .int .i64 (i : Int) ∧ vh = .int .i64 H ∧ vl = .int .u64 (L : Int) ∧ i ≤ N ∧ N - i ≤ kx ∧ L < 18446744073709551616 ∧ (-(i : Int) ≤ H ∧ H ≤ (i : Int)) ∧ Hid (Halves (tot (l.take i)) H L) ∧ Hid (Fr0 w wr))
  case atStart => exact ⟨0, 0, 0, rfl, rfl, rfl, Nat.zero_le _, by omega, by omega, by omega, Lib.hid (by rw [H0.out]; rfl), Lib.hid (Fr.refl _ _)⟩
  case round =>
    obtain ⟨i, H, L, rfl, rfl, rfl, hi, hk, hL, hH, HH, HF⟩ := hrel
    by_cases hlt : i < N
    · obtain ⟨pb, po, rfl, hc⟩ := ints_at' HP.out i (by have := HN.out; omega)
      have d0 := hc wr HF.out
      have i1 : (i : Int) < (N : Int) := by omega
      have i2 : 0 ≤ (i : Int) := by omega
      have hfit := HS.out i hlt
      have HNX := Lib.hid (halves_next HH.out hL hfit)
      have HTN := Lib.hid (HT.out i (by have := HN.out; omega))
      clear hc
      generalize l.getD i 0 = x at *
      obtain ⟨U, hU⟩ : ∃ U, U = tw x := ⟨_, rfl⟩
      have hUl : U < 18446744073709551616 := by rw [hU]; exact tw_lt x
      have hcv : ∀ w, (convert 2 110 (.int .i64 x)).run Try.prog w = .ok (.int .u64 (U : Int)) w := fun w => by
        have h1 := run_convert_int (P := Try.prog) w 2 110 .i64 x (by rw [Try.underlying2]; rfl) (by kernel_rfl)
        rw [show Try.prog.intKind 110 = .u64 by kernel_rfl] at h1
        rw [h1, hU, IntKind.wrap_u64]
        unfold tw
        congr 3
        omega
      rw [← hU] at HNX
      clear hU
      unfold Fit at hfit
      have HN0 := HN.out
      have hHb : -1000000 ≤ H ∧ H ≤ 1000000 := by omega
      clear HN0
      obtain ⟨L2, H2, hL2, hadd, hH2, hw1, hcar, HX⟩ : ∃ (L2 : Nat) (H2 : Int), L2 < 18446744073709551616 ∧ IntKind.u64.wrap ((L : Int) + (U : Int)) = (L2 : Int) ∧ (H ≤ H2 ∧ H2 ≤ H + 1) ∧ (H2 = H ∨ wrap64 (H + 1) = H2) ∧ ((L2 < L ∧ H2 ≠ H) ∨ (L ≤ L2 ∧ H2 = H)) ∧ Hid (Halves (tot (l.take i) + x) (H2 - (if x < 0 then 1 else 0)) L2) := by
        by_cases hcar : L + U < 18446744073709551616
        · exact ⟨L + U, H, hcar, by rw [IntKind.wrap_u64]; omega, by omega, .inl rfl, .inr ⟨by omega, rfl⟩, Lib.hid (by have h := HNX.out; rw [if_pos hcar, if_pos hcar] at h; exact h)⟩
        · exact ⟨L + U - 18446744073709551616, H + 1, by omega, by rw [IntKind.wrap_u64]; omega, by omega, .inr (by simp only [wrap64]; omega), .inl ⟨by omega, by omega⟩, Lib.hid (by have h := HNX.out; rw [if_neg hcar, if_neg hcar] at h; exact h)⟩
      obtain ⟨H3, hH3, hw2⟩ : ∃ H3, H3 = H2 - 1 ∧ wrap64 (H2 - 1) = H3 := ⟨_, rfl, by simp only [wrap64]; omega⟩
      have HH3 := Lib.hid hH3
      have HLL := Lib.hid hL2
      have HHB : Hid (-(((i + 1 : Nat) : Int)) ≤ H2 ∧ H2 ≤ ((i + 1 : Nat) : Int) ∧ -(((i + 1 : Nat) : Int)) ≤ H3 ∧ H3 ≤ ((i + 1 : Nat) : Int)) := Lib.hid (by omega)
      clear hH3 HNX hH2 hL2 hUl hL hHb hH
      rcases hcar with ⟨hca, hcb⟩ | ⟨hca, hcb⟩
      · have hca' : (L2 : Int) < (L : Int) := by omega
        have hw1' : wrap64 (H + 1) = H2 := hw1.resolve_left hcb
        clear hw1 hca hcb
        by_cases hx : x < 0
        · have HR : Hid (Halves (tot (l.take (i + 1))) H3 L2) := Lib.hid (by rw [HTN.out, HH3.out]; have h := HX.out; rw [if_pos hx] at h; exact h)
          go_wp2
          go_roundg (N - (i + 1))
          case measure => omega
          case rel => exact ⟨i + 1, H3, L2, by simp, by rw [hw2], rfl, by omega, by omega, HLL.out, ⟨HHB.out.2.2.1, HHB.out.2.2.2⟩, HR, HF⟩
        · have HR : Hid (Halves (tot (l.take (i + 1))) H2 L2) := Lib.hid (by rw [HTN.out]; have h := HX.out; rw [if_neg hx, Int.sub_zero] at h; exact h)
          go_wp2
          go_roundg (N - (i + 1))
          case measure => omega
          case rel => exact ⟨i + 1, H2, L2, by simp, rfl, rfl, by omega, by omega, HLL.out, ⟨HHB.out.1, HHB.out.2.1⟩, HR, HF⟩
      · have hca' : ¬ ((L2 : Int) < (L : Int)) := by omega
        subst hcb
        clear hw1 hca
        by_cases hx : x < 0
        · have HR : Hid (Halves (tot (l.take (i + 1))) H3 L2) := Lib.hid (by rw [HTN.out, HH3.out]; have h := HX.out; rw [if_pos hx] at h; exact h)
          go_wp2
          go_roundg (N - (i + 1))
          case measure => omega
          case rel => exact ⟨i + 1, H3, L2, by simp, rfl, rfl, by omega, by omega, HLL.out, ⟨HHB.out.2.2.1, HHB.out.2.2.2⟩, HR, HF⟩
        · have HR : Hid (Halves (tot (l.take (i + 1))) H2 L2) := Lib.hid (by rw [HTN.out]; have h := HX.out; rw [if_neg hx, Int.sub_zero] at h; exact h)
          go_wp2
          go_roundg (N - (i + 1))
          case measure => omega
          case rel => exact ⟨i + 1, H2, L2, by simp, rfl, rfl, by omega, by omega, HLL.out, ⟨HHB.out.1, HHB.out.2.1⟩, HR, HF⟩
    · obtain rfl : i = N := by omega
      have HHT : Hid (Halves T H L) := Lib.hid (by have h := HH.out; rw [HE.out i (by have := HN.out; omega)] at h; exact h)
      obtain ⟨V, hV⟩ : ∃ V, V = _root_.Go.Proofs.Ytbbmjkligiglmaa.Ask.un L := ⟨_, rfl⟩
      have hcv : ∀ w, (convert 110 2 (.int .u64 (L : Int))).run Try.prog w = .ok (.int .i64 V) w := fun w => by rw [hV]; exact conv_un' L hL w
      have hVT : Hid ((H = 0 ∧ 0 ≤ V → ft = true ∧ T = V) ∧ (H = -1 ∧ V < 0 → ft = true ∧ T = V) ∧ (¬ (H = 0 ∧ 0 ≤ V) → ¬ (H = -1 ∧ V < 0) → ft = false)) := Lib.hid (HVT0.out H V L HHT.out hL hV)
      clear hV HH hi hk hlt hL HVT0
      by_cases hH0 : H = 0
      · have hb0 : (H == 0) = true := by rw [hH0]; rfl
        have hb1 : (H == -1) = false := by rw [hH0]; rfl
        by_cases hV0 : 0 ≤ V
        · obtain ⟨rfl, rfl⟩ := hVT.out.1 ⟨hH0, hV0⟩
          obtain rfl := HSM.out.1 rfl
          clear hVT hH0 HHT
          go_wp2
          go_ret2
          exact ⟨rfl, HF.out⟩
        · obtain rfl := hVT.out.2.2 (by omega) (by omega)
          obtain rfl := HSM.out.2 rfl
          have hV1 : V < 0 := by omega
          clear hVT hH0 HHT
          go_wp2
          go_ret2
          exact ⟨rfl, HF.out⟩
      · have hb0 : (H == 0) = false := beq_eq_false_iff_ne.2 hH0
        by_cases hH1 : H = -1
        · have hb1 : (H == -1) = true := by rw [hH1]; rfl
          by_cases hV0 : V < 0
          · obtain ⟨rfl, rfl⟩ := hVT.out.2.1 ⟨hH1, hV0⟩
            obtain rfl := HSM.out.1 rfl
            clear hVT hH0 hH1 HHT
            go_wp2
            go_ret2
            exact ⟨rfl, HF.out⟩
          · obtain rfl := hVT.out.2.2 (by omega) (by omega)
            obtain rfl := HSM.out.2 rfl
            clear hVT hH0 hH1 HHT
            go_wp2
            go_ret2
            exact ⟨rfl, HF.out⟩
        · have hb1 : (H == -1) = false := beq_eq_false_iff_ne.2 hH1
          obtain rfl := hVT.out.2.2 (by omega) (by omega)
          obtain rfl := HSM.out.2 rfl
          clear hVT hH0 hH1 HHT
          go_wp2
          go_ret2
          exact ⟨rfl, HF.out⟩
end Go.Proofs.Ytbbmjkligiglmaa.Agg
