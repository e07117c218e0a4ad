/-
  'append(own, b...)' for bytes that read as a list, nil or not, cut or not.
-/
import Derived.Test.YtbiokogihimboaaDoorBytes
namespace Go.Proofs.YtbiokogihimboaaDoor.Base
open Go.RowKit

section
variable {P : Program}
theorem run_append_none (w : World) (base : Nat) (t ty e : TypeId) (i : TypeInfo) (size : Nat) (ht : P.underlying t = some (.slice e)) (hi : P.info? e = some i)
    (v : Value) (n c : Nat) (xs : List Value) (hown : w.ownsRow base e size v n xs) : (Builtin.append_ #[t, t] ty #[v, .slice none 0 c]).run P w = .ok v w := by
  rcases hown.2 with ⟨rfl, rfl⟩ | ⟨g, cap, cur, rfl, _, _, hnc, _⟩
  · simp [Builtin.append_, run_underlying ht, sizeOf, typeInfo, hi, Builtin.lenOf, Builtin.firstCells]
  · simp [Builtin.append_, run_underlying ht, sizeOf, typeInfo, hi, Builtin.lenOf, Builtin.firstCells, hnc, storeCells]
theorem run_append_bytes (w : World) (base : Nat) (t ty e : TypeId) (ht : P.underlying t = some (.slice e)) (hinfo : (P.info? e).map (fun i => (i.zero, i.size, i.bytes)) = some (some (.int .u8 0), 1, 1))
    (v v2 : Value) (n : Nat) (xs l : List UInt8) (hown : w.ownsRow base e 1 v n (bvals xs)) (hB : BytesIs w v2 l) (hlen : n + l.length ≤ 140737488355328) (hbase : base ≤ w.heap.size) :
    ∃ v' w', (Builtin.append_ #[t, t] ty #[v, v2]).run P w = .ok v' w' ∧ w'.ownsRow base e 1 v' (n + l.length) (bvals (xs ++ l)) ∧ w.grownBy w' v.ownBlock := by
  obtain ⟨i, hi, hz0, hz1, hz2⟩ := info_parts hinfo
  obtain ⟨a, cap, pb, po, rfl, hcap, ha, hc⟩ := hB
  cases a with
  | none =>
    have h0 : l = [] := by
      by_cases h : 0 < l.length
      · exact absurd (ha h) (by simp)
      · exact List.eq_nil_of_length_eq_zero (by omega)
    subst h0
    refine ⟨v, w, run_append_none w base t ty e i 1 ht hi v n cap _ hown, by simpa using hown, ⟨rfl, rfl, rfl, Nat.le_refl _, fun _ _ _ => rfl⟩⟩
  | some ad =>
    obtain ⟨v', w', h1, h2, h3, _⟩ := run_append_own (P := P) w base t ty e i (.int .u8 0) 1 1 ht hi hz0 hz1 hz2 rfl (by decide) v n (bvals xs) hown ad l.length cap (bvals l) (by rw [bvals_length, Nat.mul_one])
      (fun j u hj => by
        have hj' : j < l.length := by have := (List.getElem?_eq_some_iff.1 hj).1; rwa [bvals_length] at this
        have := ha (by omega)
        cases this
        rw [Addr.add_mid, hc j hj', ← hj, bvals_get l j hj']) (bvals_one l) (by unfold maxLen; omega) (by omega) hbase
    exact ⟨v', w', h1, by rw [bvals_append]; exact h2, h3⟩
theorem wpList_append_bytes {w : World} {ops : Array Oper} {rest : List Oper} {o : Oper} {a : Act} {Q : Exit → Act → World → Prop} (hgd : o.guard = none) (s x : Operand) (t : TypeId)
    (ho : o.op = .call { callee := .builtin .append, args := #[s, x], argTypes := #[t, t] }) (base : Nat) (e : TypeId) (ht : P.underlying t = some (.slice e)) (hinfo : (P.info? e).map (fun i => (i.zero, i.size, i.bytes)) = some (some (.int .u8 0), 1, 1))
    (v v2 : Value) (n : Nat) (xs l : List UInt8) (hs : a.eval s = v) (hx : a.eval x = v2) (hown : w.ownsRow base e 1 v n (bvals xs)) (hB : BytesIs w v2 l) (hlen : n + l.length ≤ 140737488355328) (hbase : base ≤ w.heap.size)
    (h : ∀ v' w', w'.ownsRow base e 1 v' (n + l.length) (bvals (xs ++ l)) → w.grownBy w' v.ownBlock → wpList P ops Q rest (a.put o.dst v') w') : wpList P ops Q (o :: rest) a w :=
  wpList_plain hgd fun K hK => by
    obtain ⟨v', w', hr, h2, h3⟩ := run_append_bytes (P := P) w base t o.type e ht hinfo v v2 n xs l hown hB hlen hbase
    unfold Oper.wp execOp
    simp only [ho, resolve, invoke, builtin, Sem.run_bind, Sem.run_pure, Result.andThen_ok, List.map_toArray, List.map_cons, List.map_nil, hs, hx, hr]
    exact hK _ _ (h v' w' h2 h3)
/-- a new slice without room: []byte{} -/
theorem owns_empty (w : World) (base : Nat) (e : TypeId) (hb : base ≤ w.heap.size) (N : Nat) (hN : N = w.heap.size) : (w.alloc (.cells #[] e)).ownsRow base e 1 (.slice (some ⟨N, 0, none⟩) 0 0) 0 [] := by
  subst hN
  exact ⟨rfl, .inr ⟨w.heap.size, 0, #[], rfl, hb, heap_alloc_new w _, Nat.le_refl _, by unfold maxLen; omega, rfl, rfl⟩⟩
theorem BytesIs.one (w : World) (u : UInt8) (v : Value) (hv : v = .int .u8 (u.toNat : Int)) (t : TypeId) (N : Nat) (hN : N = w.heap.size) : BytesIs (w.alloc (.cells #[v] t)) (.slice (some ⟨N, 0, none⟩) 1 1) [u] :=
  BytesIs.new w [u] #[v] t 1 rfl 1 (Nat.le_refl _) (fun j hj => by
    have : j = 0 := by simpa using hj
    subst this; simp [hv]) N hN
end
end Go.Proofs.YtbiokogihimboaaDoor.Base
