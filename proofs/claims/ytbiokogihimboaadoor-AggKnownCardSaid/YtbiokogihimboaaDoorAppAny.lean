/-
  'append(own, it...)' of any count, none among them, with the new block told.
-/
import Derived.Test.YtbiokogihimboaaDoorAppNew
namespace Go.Proofs.YtbiokogihimboaaDoor.Base
open Go.RowKit

section
variable {P : Program}
theorem run_append_valsM (w : World) (base : Nat) (t ty e : TypeId) (ht : P.underlying t = some (.slice e)) (z : Value) (size bytes : Nat) (hinfo : (P.info? e).map (fun i => (i.zero, i.size, i.bytes)) = some (some z, size, bytes)) (hzs : z.cells.size = size) (hsz : 0 < size)
    (v v2 : Value) (n m : Nat) (xs news : List Value) (hown : w.ownsRow base e size v n xs) (hB : ValsIs w v2 m news) (hl : news.length = m * size) (h1 : ∀ u ∈ news, u.oneCell' = true) (h63 : n + m ≤ maxLen) (hlen : (n + m) * bytes ≤ 140737488355328) (hbase : base ≤ w.heap.size) :
    ∃ v' w', (Builtin.append_ #[t, t] ty #[v, v2]).run P w = .ok v' w' ∧ w'.ownsRow base e size v' (n + m) (xs ++ news) ∧ w.grownBy w' v.ownBlock ∧ NewRow w v v' := by
  rcases Nat.eq_zero_or_pos m with rfl | hm
  · obtain ⟨i, hi, hz0, hz1, hz2⟩ := info_parts hinfo
    obtain rfl : news = [] := List.eq_nil_of_length_eq_zero (by simpa using hl)
    obtain ⟨a, cap, pb, po, rfl, hcap, ha, hc⟩ := hB
    cases a with
    | none => exact ⟨v, w, run_append_none w base t ty e i size ht hi v n cap _ hown, by simpa using hown, ⟨rfl, rfl, rfl, Nat.le_refl _, fun _ _ _ => rfl⟩, .inl rfl⟩
    | some ad =>
      have hnews : ∀ j u, ([] : List Value)[j]? = some u → w.cell? (ad.add j) = some u := fun j u hj => by simp at hj
      obtain ⟨v', w', hr, h2, h3, _⟩ := run_append_own (P := P) w base t ty e i z size bytes ht hi hz0 hz1 hz2 hzs hsz v n xs hown ad 0 cap [] hl hnews h1 h63 hlen hbase
      refine ⟨v', w', hr, h2, h3, ?_⟩
      rcases hown.2 with ⟨rfl, rfl⟩ | ⟨g, gcap, cur, rfl, hbg, hg, hnc, hcm, hcs, htake⟩
      · obtain ⟨v2, w2, hr', h2', _, _⟩ := run_append_own (P := P) w w.heap.size t ty e i z size bytes ht hi hz0 hz1 hz2 hzs hsz (.slice none 0 0) 0 [] (World.ownsRow_nil w _ _ _) ad 0 cap [] hl hnews h1 h63 hlen (Nat.le_refl _)
        rw [hr] at hr'
        cases hr'
        exact .inr fun b hb => (h2'.lt b hb).1
      · subst hz1
        subst hz2
        have hfit : n * i.size + ([] : List Value).length ≤ cur.size := by rw [hcs]; simpa using Nat.mul_le_mul_right _ hnc
        have hr' := run_append_room (P := P) w t ty e i ht hi g n gcap cur hg ad 0 cap [] hl hnews h1 (by omega) hfit
        rw [hr] at hr'
        cases hr'
        exact .inl rfl
  · exact run_append_valsN w base t ty e ht z size bytes hinfo hzs hsz v v2 n m xs news hown hB hm hl h1 h63 hlen hbase
theorem wpList_append_valsM {w : World} {ops : Array Oper} {rest : List Oper} {o : Oper} {a : Act} {Q : Exit → Act → World → Prop} (hgd : o.guard = none) (s x : Operand) (t : TypeId)
    (ho : o.op = .call { callee := .builtin .append, args := #[s, x], argTypes := #[t, t] }) (base : Nat) (e : TypeId) (ht : P.underlying t = some (.slice e)) (z : Value) (size bytes : Nat) (hinfo : (P.info? e).map (fun i => (i.zero, i.size, i.bytes)) = some (some z, size, bytes)) (hzs : z.cells.size = size) (hsz : 0 < size)
    (v v2 : Value) (n m : Nat) (xs news : List Value) (hs : a.eval s = v) (hx : a.eval x = v2) (hown : w.ownsRow base e size v n xs) (hB : ValsIs w v2 m news) (hl : news.length = m * size) (h1 : ∀ u ∈ news, u.oneCell' = true) (h63 : n + m ≤ maxLen) (hlen : (n + m) * bytes ≤ 140737488355328) (hbase : base ≤ w.heap.size)
    (h : ∀ v' w', w'.ownsRow base e size v' (n + m) (xs ++ news) → w.grownBy w' v.ownBlock → NewRow w v v' → wpList P ops Q rest (a.put o.dst v') w') : wpList P ops Q (o :: rest) a w :=
  wpList_plain hgd fun K hK => by
    obtain ⟨v', w', hr, h2, h3, h4⟩ := run_append_valsM (P := P) w base t o.type e ht z size bytes hinfo hzs hsz v v2 n m xs news hown hB hl h1 h63 hlen hbase
    unfold Oper.wp execOp
    simp only [ho, resolve, invoke, builtin, Sem.run_bind, Sem.run_pure, Result.andThen_ok, List.map_toArray, List.map_cons, List.map_nil, hs, hx, hr]
    exact hK _ _ (h v' w' h2 h3 h4)
end
end Go.Proofs.YtbiokogihimboaaDoor.Base
