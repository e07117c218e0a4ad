/-
  TokenBound walked.
-/
import Derived.Test.YteafnknghnhlgaaDoorTokenAwake
namespace Go.Proofs.YteafnknghnhlgaaDoor.TokenL
open Go.RowKit Base Pack _root_.Go.Proofs.YteafnknghnhlgaaDoor.Token

set_option maxRecDepth 100000 in
set_option maxHeartbeats 4000000 in
theorem tokenBound_walk (v1 v2 : Value) (k b : List UInt8) (id bit : Int) (hid : -9223372036854775808 ≤ id ∧ id ≤ 9223372036854775807) (hbit : -9223372036854775808 ≤ bit ∧ bit ≤ 9223372036854775807) (hkl : k.length ≤ 9223372036854775807) (hbl : b.length ≤ 9223372036854775807)
    (w : World) (hK : BytesIs w v1 k) (hB : BytesIs w v2 b) (hR : Laid w) :
    Calls Tryd.prog 5 #[.int .i64 id, v1, v2, .int .i64 bit] w fun e w' => e = .returned (.bool true) ∧ Fr0 w w' := by
  have HK := Lib.hid hK
  have HB := Lib.hid hB
  have HR := Lib.hid hR
  obtain ⟨ka, kc, rfl⟩ := hK.form
  obtain ⟨ba, bc, rfl⟩ := hB.form
  clear hK hB hR
  go_enter Tryd.func5, Tryd.ntmps5
  go_wp2_with fail
  refine (awake_any _ HR.out).mono ?_
  rintro e w1 ⟨rfl, hF1⟩
  have HF1 := Lib.hid hF1
  clear hF1
  by_cases h1 : 100 < (k.length : Int)
  ·
    go_wp2
    go_ret
    exact ⟨rfl, HF1.out⟩
  · by_cases h3 : 400 < (b.length : Int)
    ·
      go_wp2
      go_ret
      exact ⟨rfl, HF1.out⟩
    · by_cases hi : id < 0 ∨ 65535 < id
      · have hse := seal_bad hi hid _ _ k b (by omega) (by omega) w1 (HK.out.fr0 HF1.out) (HB.out.fr0 HF1.out) (HR.out.fr HF1.out)
        have HI := Lib.hid hi
        clear hi
        go_wp2_with fail
        refine hse.mono ?_
        clear hse
        rintro e w2 ⟨A, C, rfl, hF⟩
        have HF2 := Lib.hid (HF1.out.trans' hF)
        clear hF
        by_cases h0 : id < 0
        ·
          go_wp2
          go_ret
          exact ⟨rfl, HF2.out⟩
        · have h6 : 65535 < id := HI.out.resolve_left h0
          go_wp2
          go_ret
          exact ⟨rfl, HF2.out⟩
      · obtain ⟨n, rfl⟩ := Int.eq_ofNat_of_zero_le (show 0 ≤ id by omega)
        have hn : n < 65536 := by omega
        have hse := seal_yes hn _ _ k b (by omega) (by omega) w1 (HK.out.fr0 HF1.out) (HB.out.fr0 HF1.out) (HR.out.fr HF1.out)
        have hel := env_length n k b
        obtain ⟨ho1, ho2⟩ := open_own hn k b
        have HTU : Hid (∀ i, i < 34 → ∀ x, x ≠ (env n k b).getD i 0 → openErr ((env n k b).set i x) (n : Int) k = 5) := Lib.hid (fun i hi x hx => open_turned hn k b i hi x hx)
        clear hi
        generalize env n k b = E at *
        obtain ⟨L, hL⟩ : ∃ L, L = 34 + b.length := ⟨_, rfl⟩
        rw [← hL] at hse hel
        have x1 : wrap64 (34 + (b.length : Int)) = 34 + (b.length : Int) := by simp only [wrap64]; omega
        have z0 : ((L : Int) != 34 + (b.length : Int)) = false := by rw [show (L : Int) = 34 + (b.length : Int) by omega]; exact bne_self_eq_false _
        have HLL := Lib.hid hL
        have hL34 : 34 ≤ L ∧ L ≤ 434 := by omega
        clear hL
        go_wp2_with fail
        refine hse.mono ?_
        clear hse
        rintro e w2 ⟨A, C, rfl, hX, hO, hF⟩
        have HF2 := Lib.hid (HF1.out.trans' hF)
        have hs1 := HF1.out.size
        have HX := Lib.hid hX
        have hop := open_is ho1 ho2 _ _ (by omega) (by omega) (by rw [hel]; omega) w2 hX (HK.out.fr0 HF2.out) (HR.out.fr HF2.out)
        obtain ⟨_, ⟨_, h00⟩ | ⟨gz, cap, cur, hsv, hgb, hgc, _⟩⟩ := hO
        · exfalso; omega
        simp only [Value.slice.injEq] at hsv
        obtain ⟨rfl, _, rfl⟩ := hsv
        have HGC := Lib.hid hgc
        clear hX hF hgc ho1 ho2
        go_wp2_with fail
        refine hop.mono ?_
        clear hop
        rintro e w3 ⟨A3, C3, rfl, hY, hF⟩
        have HF3 := Lib.hid (HF2.out.trans' hF)
        have HX3 := Lib.hid (HX.out.fr0 hF)
        have hgc3 := hF.heap HGC.out (fun f => f)
        have HG3 := Lib.hid hgc3
        have ca := hY.convert (P := Tryd.prog) 23 9 5 Tryd.underlying23 Tryd.underlying5 Tryd.underlying9
        have cb := (HB.out.fr0 HF3.out).convert (P := Tryd.prog) 23 9 5 Tryd.underlying23 Tryd.underlying5 Tryd.underlying9
        clear hF hY hgc3 HX HGC
        by_cases hb1 : bit < 0
        ·
          go_wp2
          go_ret
          exact ⟨rfl, HF3.out⟩
        · by_cases hb2 : 272 ≤ bit
          ·
            go_wp2
            go_ret
            exact ⟨rfl, HF3.out⟩
          · obtain ⟨m, rfl⟩ := Int.eq_ofNat_of_zero_le (show 0 ≤ bit by omega)
            have hm34 : m / 8 < 34 := by omega
            have hmb : m / 8 < L := by omega
            have c0 : w3.cell? ⟨gz, m / 8, none⟩ = some (.int .u8 ((E.getD (m / 8) 0).toNat : Int)) := by
              obtain ⟨a, c, pb, po, hv, _, ha, hcell⟩ := HX3.out
              have h := hcell (m / 8) (by omega)
              have h2 := ha (by omega)
              subst h2
              simp only [Value.slice.injEq, Option.some.injEq, Addr.mk.injEq, and_true] at hv
              obtain ⟨⟨rfl, rfl⟩, _, _⟩ := hv
              rw [Nat.zero_add] at h
              exact h
            have f0 : w3.frozen? ⟨gz, m / 8, none⟩ = false := by simp [World.frozen?, HG3.out]
            obtain ⟨hbb, hne⟩ := Mac.bit_byte (E.getD (m / 8) 0) (m % 8) (Nat.mod_lt _ (by decide))
            have hT := HTU.out (m / 8) hm34 _ hne
            have hB4 := HX3.out.set (m / 8) (by omega) (E.getD (m / 8) 0 ^^^ UInt8.ofNat (2 ^ (m % 8))) (Value.int IntKind.u8 (bits BinOp.xor IntKind.u8 (((E.getD (m / 8) 0).toNat : Nat) : Int) (2 ^ (m % 8) % 256))) (by rw [hbb])
            have hF4 : Fr0 w (w3.setCell ⟨gz, m / 8, none⟩ (Value.int IntKind.u8 (bits BinOp.xor IntKind.u8 (((E.getD (m / 8) 0).toNat : Nat) : Int) (2 ^ (m % 8) % 256)))) := HF3.out.setCell (p := ⟨gz, m / 8, none⟩) (fun h => by have h' : gz < w.heap.size := h; omega) _
            have hl4 : (E.set (m / 8) (E.getD (m / 8) 0 ^^^ UInt8.ofNat (2 ^ (m % 8)))).length = L := by rw [List.length_set]; exact hel
            have hop := open_is hT (openOut_no (by rw [hT]; decide)) _ _ (by omega) (by omega) (by rw [hl4]; omega) _ hB4 (HK.out.fr0 hF4) (HR.out.fr hF4)
            have hx := (E.getD (m / 8) 0).toNat_lt
            have HF4 := Lib.hid hF4
            clear hbb hne hT hB4 hF4 hl4 HTU HX3
            generalize E.getD (m / 8) 0 = X at *
            generalize E.set (m / 8) (X ^^^ UInt8.ofNat (2 ^ (m % 8))) = E' at *
            go_wp2_with fail
            refine hop.mono ?_
            clear hop
            rintro e w5 ⟨A5, C5, rfl, _, hF⟩
            have HF5 := Lib.hid (HF4.out.trans' hF)
            clear hF
            go_wp2
            go_ret
            exact ⟨rfl, HF5.out⟩
end Go.Proofs.YteafnknghnhlgaaDoor.TokenL
