/-
  'append(own, make([]byte, m)...)': so many bytes 0 behind an owned row of bytes.
-/
import Derived.Test.YteafnknghnhlgaaDoorVals
namespace Go.Proofs.YteafnknghnhlgaaDoor.Base
open Go.RowKit

section
variable {P : Program}
theorem zeroCells_u8 (m : Nat) : Builtin.zeroCells #[Value.int .u8 0] m = (bvals (List.replicate m 0)).toArray := by
  rw [bvals_zeros]
  apply Array.ext
  · simp [Builtin.zeroCells]
  · intro i h1 h2
    simp [Builtin.zeroCells, Nat.mod_one]
theorem run_append_make_bytes (w : World) (base : Nat) (t tI ty e : TypeId) (ht : P.underlying t = some (.slice e)) (htI : P.underlying tI = some (.int .i64)) (hinfo : (P.info? e).map (fun i => (i.zero, i.size, i.bytes)) = some (some (.int .u8 0), 1, 1))
    (v : Value) (n m : Nat) (xs : List UInt8) (hown : w.ownsRow base e 1 v n (bvals xs)) (hlen : n + m ≤ 1099511627776) (hbase : base ≤ w.heap.size) :
    ∃ v' w', (Builtin.append_ #[t, tI] ty #[v, .int .i64 (m : Int)]).run P w = .ok v' w' ∧ w'.ownsRow base e 1 v' (n + m) (bvals (xs ++ List.replicate m 0)) ∧ w.grownBy w' v.ownBlock := by
  obtain ⟨i, hi, hz0, hz1, hz2⟩ := info_parts hinfo
  have hwrap : IntKind.i64.wrap (m : Int) = (m : Int) := by rw [IntKind.wrap_i64]; omega
  have h48 : ¬ ((281474976710656 : Int) < (m : Int)) := by omega
  have hxl : xs.length = n := by have := hown.1; rw [bvals_length] at this; omega
  have h63 : n + m ≤ maxLen := by unfold maxLen; omega
  have grown : ∀ (old : Nat), old < n + m → ∀ (row : Option Nat),
      (w.drew.alloc (.cells ((bvals xs).toArray ++ (bvals (List.replicate m 0)).toArray ++ Builtin.zeroCells #[Value.int .u8 0] (grownCap w (n + m) old e - (n + m))) e)).ownsRow base e 1
        (.slice (some ⟨w.heap.size, 0, none⟩) (n + m) (grownCap w (n + m) old e)) (n + m) (bvals (xs ++ List.replicate m 0)) ∧
      w.grownBy (w.drew.alloc (.cells ((bvals xs).toArray ++ (bvals (List.replicate m 0)).toArray ++ Builtin.zeroCells #[Value.int .u8 0] (grownCap w (n + m) old e - (n + m))) e)) row := by
    intro old ho row
    have hge := grownCap_ge w (n + m) old e
    refine ⟨⟨by simp [bvals_length, hxl], .inr ⟨w.heap.size, _, _, rfl, hbase, heap_alloc_new w.drew _, hge, grownCap_le_maxLen w (n + m) old e h63, ?_, ?_⟩⟩, ⟨rfl, rfl, rfl, by simp, fun k hk _ => Go.heap_alloc_old w.drew _ hk⟩⟩
    · simp [bvals_length, hxl, size_zeroCells]
      omega
    · simp only [Array.toList_append, bvals_append]
      rw [List.take_append_of_le_length (by simp [bvals_length, hxl]), List.take_of_length_le (by simp [bvals_length, hxl])]
  have hneg : ¬ ((m : Int) < 0) := by omega
  have hcz : (Value.int .u8 0).cells = #[.int .u8 0] := rfl
  have hle : ∀ old, Builtin.nextslicecap (n + m) old * 1 ≤ 281474976710656 ∨ n + m ≤ old := by
    intro old
    by_cases h : n + m ≤ old
    · exact .inr h
    · exact .inl (growslice_fits (by omega) (by omega))
  rcases hown.2 with ⟨rfl, rfl⟩ | ⟨g, cap, cur, rfl, hbg, hg, hnc, hcm, hcs, htake⟩
  · obtain rfl : xs = [] := List.eq_nil_of_length_eq_zero hxl
    by_cases hm : m = 0
    · subst hm
      refine ⟨.slice none 0 0, w, ?_, by simpa using hown, ⟨rfl, rfl, rfl, Nat.le_refl _, fun _ _ _ => rfl⟩⟩
      simp [Builtin.append_, run_underlying ht, run_underlying htI, sizeOf, typeInfo, hi, hz1, hz2, asInt, asIntOf, show IntKind.i64.wrap 0 = 0 from by decide]
    · have h48' := (hle 0).resolve_right (by omega)
      have hgr := grown 0 (by omega) (Value.ownBlock (.slice none 0 0))
      refine ⟨_, _, ?_, hgr.1, hgr.2⟩
      simp only [Nat.zero_add, Nat.mul_one] at h48' ⊢
      have h48'' : ¬ (281474976710656 < Builtin.nextslicecap m 0) := by omega
      have h63' : ¬ ((9223372036854775807 : Int) < (m : Int)) := by omega
      simp [Builtin.append_, run_underlying ht, run_underlying htI, sizeOf, typeInfo, zeroValue, hi, hz0, hz1, hz2, asInt, asIntOf, hwrap, h48, hm, h48'', h63', hneg, hcz, Question.forced, newRow, grownCap, zeroCells_u8, Builtin.firstCells, bvals]
  · by_cases hm : m = 0
    · subst hm
      refine ⟨.slice (some ⟨g, 0, none⟩) n cap, w, ?_, by simpa using hown, ⟨rfl, rfl, rfl, Nat.le_refl _, fun _ _ _ => rfl⟩⟩
      simp [Builtin.append_, run_underlying ht, run_underlying htI, sizeOf, typeInfo, zeroValue, hi, hz0, hz1, hz2, asInt, asIntOf, show IntKind.i64.wrap 0 = 0 from by decide, hnc, storeCells]
    · by_cases hroom : n + m ≤ cap
      · have hfit : n + (List.replicate m (Value.int .u8 0)).length ≤ cur.size := by simp; omega
        have hst := run_storeCells_at P g n e (List.replicate m (Value.int .u8 0)) 0 cur w hg (by simpa using hfit) (fun u hu => by rw [List.mem_replicate] at hu; rw [hu.2]; rfl)
        simp only [Nat.add_zero] at hst
        refine ⟨.slice (some ⟨g, 0, none⟩) (n + m) cap, w.setRow g (cur.toList.take n ++ List.replicate m (Value.int .u8 0) ++ cur.toList.drop (n + m)).toArray, ?_, ⟨by simp [bvals_length, hxl], .inr ⟨g, cap, _, rfl, hbg, setRow_heap w g cur _ e _ hg, hroom, hcm, ?_, ?_⟩⟩, ⟨rfl, rfl, rfl, by simp, fun k _ hk => setRow_other w g k _ (fun e => hk (by simp [Value.ownBlock, e]))⟩⟩
        · simp [Builtin.append_, run_underlying ht, run_underlying htI, sizeOf, typeInfo, zeroValue, hi, hz0, hz1, hz2, asInt, asIntOf, hwrap, h48, hm, hneg, hcz, hroom, zeroCells_u8, bvals, Addr.add_lit, hst]
        · simp at hcs ⊢
          omega
        · have hl : (cur.toList.take n).length = n := by simp at hcs ⊢; omega
          have e1 : cur.toList.take n = bvals xs := by rw [← htake, Nat.mul_one]
          simp only [Nat.mul_one]
          rw [List.take_append_of_le_length (by simp at hcs ⊢; omega), List.take_of_length_le (by simp at hcs ⊢; omega), e1, bvals_append, bvals_zeros]
      · have h48' := (hle cap).resolve_right hroom
        simp only [Nat.mul_one] at h48'
        have h48'' : ¬ (281474976710656 < Builtin.nextslicecap (n + m) cap) := by omega
        have h63' : ¬ ((9223372036854775807 : Int) < (n : Int) + (m : Int)) := by omega
        have hgr := grown cap (by omega) (Value.ownBlock (.slice (some ⟨g, 0, none⟩) n cap))
        refine ⟨_, _, ?_, hgr.1, hgr.2⟩
        have hfo := run_firstCells_some (P := P) w.drew 1 n ⟨g, 0, none⟩ n cap (bvals xs) (by simp [bvals_length, hxl]) (by simpa using hown.cells (g := g) rfl)
        simp [Builtin.append_, run_underlying ht, run_underlying htI, sizeOf, typeInfo, zeroValue, hi, hz0, hz1, hz2, asInt, asIntOf, hwrap, h48, hm, hneg, hcz, hroom, h48'', h63', Question.forced, newRow, grownCap, zeroCells_u8, hfo]
theorem wpList_append_make_bytes {w : World} {ops : Array Oper} {rest : List Oper} {o : Oper} {a : Act} {Q : Exit → Act → World → Prop} (hgd : o.guard = none) (s x : Operand) (t tI : TypeId)
    (ho : o.op = .call { callee := .builtin .append, args := #[s, x], argTypes := #[t, tI] }) (base : Nat) (e : TypeId) (ht : P.underlying t = some (.slice e)) (htI : P.underlying tI = some (.int .i64)) (hinfo : (P.info? e).map (fun i => (i.zero, i.size, i.bytes)) = some (some (.int .u8 0), 1, 1))
    (v : Value) (n m : Nat) (xs : List UInt8) (hs : a.eval s = v) (hx : a.eval x = .int .i64 (m : Int)) (hown : w.ownsRow base e 1 v n (bvals xs)) (hlen : n + m ≤ 1099511627776) (hbase : base ≤ w.heap.size)
    (h : ∀ v' w', w'.ownsRow base e 1 v' (n + m) (bvals (xs ++ List.replicate m 0)) → w.grownBy w' v.ownBlock → wpList P ops Q rest (a.put o.dst v') w') : wpList P ops Q (o :: rest) a w :=
  wpList_plain hgd fun K hK => by
    obtain ⟨v', w', hr, h2, h3⟩ := run_append_make_bytes (P := P) w base t tI o.type e ht htI hinfo v n m xs hown hlen hbase
    unfold Oper.wp execOp
    simp only [ho, resolve, invoke, builtin, Sem.run_bind, Sem.run_pure, Result.andThen_ok, List.map_toArray, List.map_cons, List.map_nil, hs, hx, hr]
    exact hK _ _ (h v' w' h2 h3)
end
end Go.Proofs.YteafnknghnhlgaaDoor.Base
