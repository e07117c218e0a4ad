/-
  A slice of strings that came in.
-/
import Derived.Test.YtbbmjkligiglmaaWays
import Derived.Deep.Strs
namespace Go.Proofs.Ytbbmjkligiglmaa.Base
open Go.RowKit Go.ChangeShapes Go.WideShapes Go.ChangeAt

/-- v is a slice of strings that reads as l -/
def StrsIs (w : World) (v : Value) (l : List ByteArray) : Prop :=
  ∃ (a : Option Addr) (cap pb po : Nat), v = .slice a l.length cap ∧ l.length ≤ cap ∧ (0 < l.length → a = some ⟨pb, po, none⟩) ∧ (∀ j, j < l.length → w.cell? ⟨pb, po + j, none⟩ = some (.string (l.getD j ⟨#[]⟩)))
section
variable {H : Type} {enc : TypeId × Value → H} {P : Program} {w : World}
theorem open_strsIs {r : Reach} {b0 : Nat} {t e : TypeId} {v : Value} {d : DataW H} {ps : List MemPlace} (ht : P.underlying t = some (.slice e)) (he : P.underlying e = some .string) (hc : P.cellsOf e = 1)
    (hval : Value.okWide P w r b0 t v) (hd : DataW.Trod enc P w 0 (fun _ => true) true t v d ps) (hz : (d.weights P t).all (· ≤ reachBytes) = true) :
    ∃ l, StrsIs w v l ∧ l.length ≤ 9223372036854775807 ∧ ∀ s ∈ l, s.size ≤ 140737488351232 := by
  obtain ⟨a0, len0, cap0, rfl⟩ := okWide_slice ht hval
  obtain ⟨fuel, hf⟩ := hd
  rcases Deep.open_strs ht he hc hf with ⟨h0, _⟩ | ⟨a, len, cap, m, Sx, h1, _, hle, hmax, hm, hx, hcell⟩
  · simp [Value.cells] at h0
    obtain ⟨rfl, rfl, rfl⟩ := h0
    exact ⟨[], ⟨none, 0, 0, 0, rfl, Nat.le_refl _, fun h => absurd h (by simp), fun j hj => absurd hj (by simp)⟩, by simp, fun q hq => by simp at hq⟩
  · simp [Value.cells] at h1
    obtain ⟨rfl, rfl, rfl⟩ := h1
    simp only [Prod.mk.injEq] at hx
    obtain ⟨rfl, rfl⟩ := hx
    have hlm : len0 ≤ m := by rw [hm]; split <;> omega
    have hsz : ∀ i, i < len0 → (Sx i).size ≤ 140737488351232 := fun i hi => by
      have key : ∀ (is : List Nat), i ∈ is → ((DataW.weightsAll P e (is.map fun i => (DataW.lit (.string (Sx i).data.toList) : DataW H))).all (· ≤ reachBytes) = true) → (Sx i).size ≤ 140737488351232 := fun is => by
        induction is with
        | nil => intro h; cases h
        | cons j is ih =>
          intro hmem hall
          simp only [List.map_cons, DataW.weightsAll, DataW.weights, List.all_append, Bool.and_eq_true] at hall
          rcases List.mem_cons.1 hmem with rfl | hmem
          · have := hall.1
            simp only [List.all_cons, List.all_nil, Bool.and_true, decide_eq_true_eq, Array.length_toList] at this
            exact this
          · exact ih hmem hall.2
      refine key (List.range len0) (by simpa using hi) ?_
      simp only [DataW.weights, ht, List.all_cons, List.all_append, Bool.and_eq_true] at hz
      exact hz.2.1
    have hlen : ((List.range len0).map Sx).length = len0 := by simp
    refine ⟨(List.range len0).map Sx, ?_, by rw [hlen]; unfold maxLen at hmax; omega, fun s hs => ?_⟩
    · obtain ⟨ab, ao, sp⟩ := a
      by_cases h0 : len0 = 0
      · subst h0
        exact ⟨some ⟨ab, ao, sp⟩, cap0, 0, 0, by simp, by simp, fun h => absurd h (by simp), fun j hj => absurd hj (by simp)⟩
      · have hsp : sp = none := by
          have h0 := (hcell 0 (by omega)).1
          simpa [Addr.add] using World.cell?_spot h0
        subst hsp
        refine ⟨some ⟨ab, ao, none⟩, cap0, ab, ao, by rw [hlen], by rw [hlen]; exact hle, fun _ => rfl, fun j hj => ?_⟩
        rw [hlen] at hj
        have h1 := (hcell j (by omega)).1
        rw [Addr.add_mid] at h1
        rw [h1]
        simp [hj]
    · simp only [List.mem_map, List.mem_range] at hs
      obtain ⟨i, hi, rfl⟩ := hs
      exact hsz i hi
end
end Go.Proofs.Ytbbmjkligiglmaa.Base
