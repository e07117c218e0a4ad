/-
  A [][]byte that came in.
-/
import Derived.Test.YtggdpmfghbnhcaaDoorLaw
import Derived.Deep.Matrix
namespace Go.Proofs.YtggdpmfghbnhcaaDoor.Base
open Go.RowKit Go.ChangeShapes Go.WideShapes Go.ChangeAt

section
variable {H : Type} {enc : TypeId × Value → H} {P : Program} {w : World}

theorem open_parts {r : Reach} {b0 : Nat} {t e q : TypeId} {v : Value} {d : DataW H} {ps : List MemPlace} (ht : P.underlying t = some (.slice e)) (he : P.underlying e = some (.slice q)) (hq : P.underlying q = some (.int .u8)) (ce : P.cellsOf e = 1) (cq : P.cellsOf q = 1)
    (hval : Value.okWide P w r b0 t v) (hd : DataW.Trod enc P w 0 (fun _ => true) true t v d ps) :
    ∃ ls : List (List UInt8), (∃ a c, v = .slice a ls.length c) ∧ ls.length ≤ 9223372036854775807 ∧ (ls.length ≤ 1152921504606846976 → PartsIs w v ls) ∧ ∀ p ∈ ls, p.length ≤ 9223372036854775807 := by
  obtain ⟨a0, len0, cap0, rfl⟩ := okWide_slice ht hval
  obtain ⟨fuel, hf⟩ := hd
  rcases Deep.open_int_rows ht he hq ce cq hf with ⟨h0, _⟩ | ⟨a, len, cap, A, L, C, Z, h1, _, hle, hmax, _, hrow⟩
  · simp [Value.cells] at h0
    obtain ⟨rfl, rfl, rfl⟩ := h0
    exact ⟨[], ⟨none, 0, rfl⟩, by simp, fun _ => ⟨none, 0, 0, 0, rfl, Nat.le_refl _, by simp, fun h => absurd h (by simp), fun i hi => absurd hi (by simp)⟩, by simp⟩
  · simp [Value.cells] at h1
    obtain ⟨rfl, rfl, rfl⟩ := h1
    unfold maxLen at hmax hrow
    obtain ⟨ab, ao, sp⟩ := a
    let row : Nat → List UInt8 := fun i => ((Z i).take (L i)).map fun n => UInt8.ofNat n.toNat
    have hlen : ((List.range len0).map row).length = len0 := by simp
    have hrl : ∀ i, i < len0 → (row i).length = L i := fun i hi => by
      obtain ⟨_, h2, _, h4, _⟩ := hrow i (by omega)
      simp [row]; omega
    refine ⟨(List.range len0).map row, ⟨_, cap0, by rw [hlen]⟩, by rw [hlen]; omega, fun hb => ?_, fun p hp => ?_⟩
    · by_cases h0 : len0 = 0
      · subst h0
        exact ⟨_, cap0, 0, 0, by rw [hlen], by rw [hlen]; exact hle, by simp, fun h => absurd h (by simp), fun i hi => absurd hi (by simp)⟩
      · have hsp : sp = none := by
          have := (hrow 0 (by omega)).1
          rw [show (⟨ab, ao, sp⟩ : Addr).add 0 = ⟨ab, ao, sp⟩ from by simp [Addr.add]] at this
          cases sp with
          | none => rfl
          | some q => simp [World.cell?] at this; split at this <;> simp_all
        subst hsp
        refine ⟨_, cap0, ab, ao, by rw [hlen], by rw [hlen]; exact hle, hb, fun _ => rfl, fun i hi => ?_⟩
        rw [hlen] at hi
        obtain ⟨h1, h2, h3, h4, h5, h6, h7⟩ := hrow i (by omega)
        rw [Addr.add_mid] at h1
        refine ⟨_, h1, ?_⟩
        have hg : ((List.range len0).map row).getD i [] = row i := by simp [hi]
        rw [hg]
        cases hA : A i with
        | none =>
          have hC := h6 hA
          refine ⟨none, C i, 0, 0, by rw [hrl i hi], by rw [hrl i hi]; exact h2, fun h => ?_, fun j hj => ?_⟩
          · rw [hrl i hi] at h; omega
          · rw [hrl i hi] at hj; omega
        | some a' =>
          obtain ⟨_, hcell⟩ := h7 a' hA
          obtain ⟨bb, bo, bs⟩ := a'
          by_cases hL : L i = 0
          · exact ⟨_, C i, 0, 0, by rw [hrl i hi], by rw [hrl i hi]; exact h2, fun h => by rw [hrl i hi] at h; omega, fun j hj => by rw [hrl i hi] at hj; omega⟩
          · have hbs : bs = none := by
              have := hcell 0 (by omega)
              rw [show (⟨bb, bo, bs⟩ : Addr).add 0 = ⟨bb, bo, bs⟩ from by simp [Addr.add]] at this
              cases bs with
              | none => rfl
              | some q => simp [World.cell?] at this; split at this <;> simp_all
            subst hbs
            refine ⟨_, C i, bb, bo, by rw [hrl i hi], by rw [hrl i hi]; exact h2, fun _ => rfl, fun j hj => ?_⟩
            rw [hrl i hi] at hj
            have hc := hcell j (by omega)
            rw [Addr.add_mid] at hc
            rw [hc]
            have hm : (Z i).getD j 0 ∈ Z i := by
              rw [List.getD_eq_getElem?_getD, List.getElem?_eq_getElem (by omega)]
              exact List.getElem_mem _
            have e : (row i).getD j 0 = UInt8.ofNat ((Z i).getD j 0).toNat := by
              simp [row, hj, show j < (Z i).length from by omega]
            rw [e, u8_of_wf (h5 _ hm)]
    · simp only [List.mem_map, List.mem_range] at hp
      obtain ⟨i, hi, rfl⟩ := hp
      rw [hrl i hi]
      obtain ⟨_, h2, h3, _⟩ := hrow i (by omega)
      omega
end
end Go.Proofs.YtggdpmfghbnhcaaDoor.Base
