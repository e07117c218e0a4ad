/-
  Push's one drawn statement, over any frame.
-/
import Derived.Test.YtbbmjkligiglmaaStoreBase
import Derived.Test.YtbbmjkligiglmaaWays
import Derived.Test.YtbbmjkligiglmaaProg
import Derived.Laws.Rows
import Derived.KernelRfl
import Derived.Tactics
namespace Go.Proofs.Ytbbmjkligiglmaa.Store
open Go.RowKit Base

theorem infoE : (Try.prog.info? 56).map (fun i => (i.zero, i.size, i.bytes)) = some (some (.agg #[.string ⟨#[]⟩, .slice none 0 0]), 2, 40) := by kernel_rfl
theorem one_two' {w : World} {c0 c1 : Value} {t : TypeId} {N : Nat} (h : w.heap[N]? = some (.cells #[c0, c1] t (0, 0))) : ValsIs w (.slice (some ⟨N, 0, none⟩) 1 1) 1 [c0, c1] := by
  refine ⟨_, 1, N, 0, rfl, Nat.le_refl _, fun _ => rfl, fun j hj => ?_⟩
  rw [cell_of_row _ _ _ _ _ _ h]
  match j, hj with
  | 0, _ => rfl
  | 1, _ => rfl
theorem fr_grown {u w w' : World} {v : Value} {e : TypeId} {size n : Nat} {xs : List Value} (hf : Fr0 u w) (ho : w.ownsRow u.heap.size e size v n xs) (hg : w.grownBy w' v.ownBlock) : Fr0 u w' :=
  Fr.trans hf (Fr.of_grown (S := fun q => v.ownBlock = some q) hg (fun q _ e => e)) (fun i hi e => by have := (World.ownsRow.lt ho i e).1; omega)
theorem slot_at {l : List Oper} {i d : Nat} (h : (l[i]?).map (·.dst) = some (some d)) : ∃ o, l[i]? = some o ∧ o.dst = some d := by
  cases hx : l[i]? with
  | none => rw [hx] at h; cases h
  | some o => rw [hx] at h; exact ⟨o, rfl, by simpa using h⟩
theorem store_one {P : Program} {w : World} (ty : TypeId) {g o : Nat} {v u : Value} (hc : w.cell? ⟨g, o, none⟩ = some u) (hf : w.frozen? ⟨g, o, none⟩ = false) (h1 : v.oneCell' = true) (hv : v.cells = #[v]) (hi : (P.info? ty).map (·.size) = some 1) : (storeVar ty ⟨g, o, none⟩ v).run P w = .ok () (w.setCell ⟨g, o, none⟩ v) := by
  have hj : ∀ j, j < [v].length → j = 0 := fun j hj => by simp at hj; exact hj
  have := run_storeCells_cells (P := P) g o [v] 0 w (fun j h => by rw [hj j h]; simp [hc]) (fun j h => by rw [hj j h]; simpa using hf) (fun u hu => by simp at hu; rw [hu]; exact h1)
  cases hq : P.info? ty with
  | none => simp [hq] at hi
  | some i =>
    have hs : i.size = 1 := by simpa [hq] using hi
    simp only [Nat.add_zero] at this
    simp [storeVar, sizeOf, typeInfo, hq, hv, hs, this, World.setCells]
noncomputable def ops16 : List Oper := (((Try.f15.body.bind (regionOps 16))).getD #[]).toList
/-- an empty row of the region's own -/
def Mt (base : Nat) (v : Value) (w : World) : Prop := ∃ N, v = .slice (some ⟨N, 0, none⟩) 0 0 ∧ w.heap[N]? = some (.cells #[] 56 (0, 0)) ∧ base ≤ N
theorem Mt.owns {base : Nat} {v : Value} {w : World} (h : Mt base v w) : w.ownsRow base 56 2 v 0 [] := by
  obtain ⟨N, rfl, hh, hb⟩ := h
  exact ⟨rfl, .inr ⟨N, 0, #[], rfl, hb, hh, Nat.le_refl _, by unfold maxLen; omega, rfl, rfl⟩⟩
def One (nm : ByteArray) (now v : Value) (w : World) : Prop := ∃ N, v = .slice (some ⟨N, 0, none⟩) 1 1 ∧ w.heap[N]? = some (.cells #[.string nm, now] 56 (0, 0))
theorem One.vals {nm : ByteArray} {now v : Value} {w : World} (h : One nm now v w) : ValsIs w v 1 [Value.string nm, now] := by
  obtain ⟨N, rfl, hh⟩ := h
  exact one_two' hh
structure Cx (a : Act) (w5 : World) (g : Nat) (V S1 S2 : Value) (nm : ByteArray) (now : Value) (k n : Nat) (X1 X2 : List Value) (cs : Array Value) : Prop where
  hn : a.tmps.size = 105
  h0 : a.eval (.tmp 0) = .pointer (some ⟨g, 0, none⟩)
  h1 : a.eval (.tmp 1) = .string nm
  h9 : a.eval (.tmp 9) = now
  h11 : a.eval (.tmp 11) = .int .i64 (k : Int)
  s1 : ∀ wx, (Instr.sliceAt 42 V none (some (.int .i64 (k : Int))) none).run Try.prog wx = .ok S1 wx
  s2 : ∀ wx, (Instr.sliceAt 42 V (some (.int .i64 (k : Int))) none none).run Try.prog wx = .ok S2 wx
  v1 : ValsIs w5 S1 k X1
  v2 : ValsIs w5 S2 (n - k) X2
  l1 : X1.length = k * 2
  l2 : X2.length = (n - k) * 2
  o1 : ∀ u ∈ X1, u.oneCell' = true
  o2 : ∀ u ∈ X2, u.oneCell' = true
  form : ∃ NA NL NC, now = .slice NA NL NC
  o3 : now.oneCell' = true
  hgl : g < w5.heap.size
  c2 : w5.cell? ⟨g, 2, none⟩ = some V
  row : w5.heap[g]? = some (.cells cs 44 (0, 0))
  hk : k ≤ n
  hn16 : n ≤ 16
def F16 (base g : Nat) (V S1 S2 : Value) (nm : ByteArray) (now : Value) (k n : Nat) (X1 X2 : List Value) : Nat → Value → World → Prop
  | 82 => fun v _ => v = .pointer (some ⟨g, 0, none⟩)
  | 83 => fun v w => Mt base v w
  | 84 => fun v _ => v = .pointer (some ⟨g, 0, none⟩)
  | 85 => fun v _ => v = .pointer (some ⟨g, 0, none⟩)
  | 86 => fun v _ => v = .pointer (some ⟨g, 2, none⟩)
  | 87 => fun v _ => v = V
  | 88 => fun v _ => v = .int .i64 (k : Int)
  | 89 => fun v _ => v = S1
  | 90 => fun v w => w.ownsRow base 56 2 v k X1
  | 91 => fun v _ => v = .string nm
  | 92 => fun v _ => v = now
  | 93 => fun v _ => v = .agg #[.string nm, now]
  | 94 => fun v w => One nm now v w
  | 95 => fun v w => w.ownsRow base 56 2 v (k + 1) (X1 ++ [Value.string nm, now])
  | 96 => fun v _ => v = .pointer (some ⟨g, 0, none⟩)
  | 97 => fun v _ => v = .pointer (some ⟨g, 0, none⟩)
  | 98 => fun v _ => v = .pointer (some ⟨g, 2, none⟩)
  | 99 => fun v _ => v = V
  | 100 => fun v _ => v = .int .i64 (k : Int)
  | 101 => fun v _ => v = S2
  | 102 => fun v w => w.ownsRow base 56 2 v (k + 1 + (n - k)) (X1 ++ [Value.string nm, now] ++ X2)
  | 103 => fun v _ => v = .pointer (some ⟨g, 0, none⟩)
  | 104 => fun v _ => v = .pointer (some ⟨g, 2, none⟩)
  | _ => fun _ _ => True
def cons16 : Nat → Option Nat
  | 83 => some 8
  | 90 => some 13
  | 94 => some 13
  | 95 => some 20
  | _ => none
theorem ds16 : dsts ops16 = [82, 83, 84, 85, 86, 87, 88, 89, 90, 91, 92, 93, 94, 95, 96, 97, 98, 99, 100, 101, 102, 103, 104] := by kernel_rfl
set_option maxHeartbeats 4000000 in
theorem r16 {Q : Exit → Act → World → Prop} {a : Act} {w5 : World} {g : Nat} {V S1 S2 : Value} {nm : ByteArray} {now : Value} {k n : Nat} {X1 X2 : List Value} {cs : Array Value} {id : Nat} (K : Cx a w5 g V S1 S2 nm now k n X1 X2 cs)
    (hQ : ∀ (vals : Nat → Value) (w' : World), Fr0 w5 w' → w'.ownsRow w5.heap.size 56 2 (vals 102) (k + 1 + (n - k)) (X1 ++ [Value.string nm, now] ++ X2) → Q .normal (frm a (dsts ops16) vals) (w'.setCell ⟨g, 2, none⟩ (vals 102))) : (Code.region id ops16.toArray true).wp Try.prog Q a w5 := by
  have hPn := K.hk
  have hn16 := K.hn16
  refine Use.regionL (F16 w5.heap.size g V S1 S2 nm now k n X1 X2) cons16 23 (by kernel_rfl) (by kernel_rfl) (by rw [K.hn]; kernel_rfl) (by kernel_rfl) (by kernel_rfl) (by rw [show ops16.length = 24 by kernel_rfl]; decide) (fun i o ho hne23 => ?_) (fun vals w' os hos hF hv => ?_)
  case refine_2 =>
    obtain ⟨hd, hop, hg⟩ := Use.op_of hos (show _ = some (none, .store 42 (.tmp 104) (.tmp 102), none) by kernel_rfl)
    obtain ⟨o22, k1, k2⟩ := slot_at (l := ops16) (i := 22) (d := 104) (by kernel_rfl)
    obtain ⟨o20, m1, m2⟩ := slot_at (l := ops16) (i := 20) (d := 102) (by kernel_rfl)
    have f1 : vals 104 = .pointer (some ⟨g, 2, none⟩) := hv 22 o22 104 k1 (by decide) k2 rfl
    have f2 : w'.ownsRow w5.heap.size 56 2 (vals 102) (k + 1 + (n - k)) (X1 ++ [Value.string nm, now] ++ X2) := hv 20 o20 102 m1 (by decide) m2 rfl
    have hFu : Fr0 w5 w' := Fr.trans' (Fr.refl _ _).drew hF
    have hrow := hFu.heap K.row (fun f => f)
    have hcl := (hFu.cell (p := ⟨g, 2, none⟩) K.hgl (fun f => f)).trans K.c2
    have hfz : w'.frozen? ⟨g, 2, none⟩ = false := by simp [World.frozen?, hrow]
    obtain ⟨A, C, hV, _⟩ := owns_form f2
    have e1 : (frm a (dsts ops16) vals).eval (.tmp 104) = .pointer (some ⟨g, 2, none⟩) := (frm_eval a _ vals 104 (by rw [ds16]; simp) (by rw [K.hn]; decide)).trans f1
    have e2 : (frm a (dsts ops16) vals).eval (.tmp 102) = vals 102 := frm_eval a _ vals 102 (by rw [ds16]; simp) (by rw [K.hn]; decide)
    have hst := store_one (P := Try.prog) (w := w') 42 (v := vals 102) hcl hfz (by rw [hV]; rfl) (by rw [hV]; rfl) (by kernel_rfl)
    refine ⟨by simp [Region.wanted, hg], ?_⟩
    unfold Oper.wp execOp
    simp only [hop, e1, e2, Instr.storeAt, Instr.sureAddr, Sem.run_bind, Sem.run_pure, Result.andThen_ok, hst]
    simp only [Oper.upon, hd]
    exact hQ vals w' hFu f2
  have hi : i < 24 := by
    have := (List.getElem?_eq_some_iff.1 ho).1
    rwa [show ops16.length = 24 by kernel_rfl] at this
  have D : ∀ {k : Nat}, Use.depBi ops16 105 i k = true → Use.Dep ops16 a o k := fun h => Use.Dep.at K.hn ho h
  match i, hi, ho with
  | 0, _, ho =>
    obtain ⟨hd, hop, hg⟩ := Use.op_of ho (show _ = some (some 82, .move (.tmp 0), none) by kernel_rfl)
    exact Use.value hg 82 hd fun vals w' hF hdp hl => ⟨.pointer (some ⟨g, 0, none⟩), by have e1 : (frm a (dsts ops16) vals).eval (.tmp 0) = .pointer (some ⟨g, 0, none⟩) := Use.eval_old K.hn hl (.inl (by kernel_rfl)) K.h0; simp only [execOp, hop, e1, Sem.run_pure], rfl⟩
  | 1, _, ho =>
    obtain ⟨hd, hop, hg⟩ := Use.op_of ho (show _ = some (some 83, .buildSlice 42 0 #[], none) by kernel_rfl)
    refine Use.turns hg 83 hd fun vals w' hF hdp hl => ⟨.slice (some ⟨w'.heap.size, 0, none⟩) 0 0, w'.alloc (.cells #[] 56), ?_, ⟨w'.heap.size, rfl, heap_alloc_new w' _, hF.size⟩, fun e he hne hs hl' hx => ?_, hF.alloc _⟩
    · unfold execOp; simp only [hop]; first | (go_simp; done) | (go_simp; rfl)
    · rw [ds16] at he
      simp only [List.mem_cons, List.not_mem_nil, or_false] at he
      rcases he with rfl | rfl | rfl | rfl | rfl | rfl | rfl | rfl | rfl | rfl | rfl | rfl | rfl | rfl | rfl | rfl | rfl | rfl | rfl | rfl | rfl | rfl | rfl
      · exact hx
      · exact absurd rfl hne
      · exact hx
      · exact hx
      · exact hx
      · exact hx
      · exact hx
      · exact hx
      · exact Use.ff hl' (by kernel_rfl)
      · exact hx
      · exact hx
      · exact hx
      · obtain ⟨q, hq, hh⟩ := hx; exact ⟨q, hq, ((Fr.refl (fun _ => False) w').alloc _).heap hh (fun f => f)⟩
      · exact Use.ff hl' (by kernel_rfl)
      · exact hx
      · exact hx
      · exact hx
      · exact hx
      · exact hx
      · exact hx
      · exact World.ownsRow.alloc hx _
      · exact Use.ff hl' (by kernel_rfl)
      · exact Use.ff hl' (by kernel_rfl)
  | 2, _, ho =>
    obtain ⟨hd, hop, hg⟩ := Use.op_of ho (show _ = some (some 84, .move (.tmp 0), none) by kernel_rfl)
    exact Use.value hg 84 hd fun vals w' hF hdp hl => ⟨.pointer (some ⟨g, 0, none⟩), by have e1 : (frm a (dsts ops16) vals).eval (.tmp 0) = .pointer (some ⟨g, 0, none⟩) := Use.eval_old K.hn hl (.inl (by kernel_rfl)) K.h0; simp only [execOp, hop, e1, Sem.run_pure], rfl⟩
  | 3, _, ho =>
    obtain ⟨hd, hop, hg⟩ := Use.op_of ho (show _ = some (some 85, .nilCheck (.tmp 84), none) by kernel_rfl)
    exact Use.value hg 85 hd fun vals w' hF hdp hl => ⟨.pointer (some ⟨g, 0, none⟩), by have e1 : (frm a (dsts ops16) vals).eval (.tmp 84) = .pointer (some ⟨g, 0, none⟩) := (D (k := 84) (by kernel_rfl)).eval.trans (hdp 84 (D (k := 84) (by kernel_rfl)).dep (by kernel_rfl)); unfold execOp; simp only [hop, e1]; go_simp, rfl⟩
  | 4, _, ho =>
    obtain ⟨hd, hop, hg⟩ := Use.op_of ho (show _ = some (some 86, .fieldAddr 44 (.tmp 85) 2, none) by kernel_rfl)
    exact Use.value hg 86 hd fun vals w' hF hdp hl => ⟨.pointer (some ⟨g, 2, none⟩), by have e1 : (frm a (dsts ops16) vals).eval (.tmp 85) = .pointer (some ⟨g, 0, none⟩) := (D (k := 85) (by kernel_rfl)).eval.trans (hdp 85 (D (k := 85) (by kernel_rfl)).dep (by kernel_rfl)); unfold execOp; simp only [hop, e1]; go_simp, rfl⟩
  | 5, _, ho =>
    obtain ⟨hd, hop, hg⟩ := Use.op_of ho (show _ = some (some 87, .load 42 (.tmp 86), none) by kernel_rfl)
    exact Use.value hg 87 hd fun vals w' hF hdp hl => ⟨V, by have e1 : (frm a (dsts ops16) vals).eval (.tmp 86) = .pointer (some ⟨g, 2, none⟩) := (D (k := 86) (by kernel_rfl)).eval.trans (hdp 86 (D (k := 86) (by kernel_rfl)).dep (by kernel_rfl)); have c1 := (hF.cell (p := ⟨g, 2, none⟩) K.hgl (fun f => f)).trans K.c2; unfold execOp; simp only [hop, e1]; go_simp, rfl⟩
  | 6, _, ho =>
    obtain ⟨hd, hop, hg⟩ := Use.op_of ho (show _ = some (some 88, .move (.tmp 11), none) by kernel_rfl)
    exact Use.value hg 88 hd fun vals w' hF hdp hl => ⟨.int .i64 (k : Int), by have e1 : (frm a (dsts ops16) vals).eval (.tmp 11) = .int .i64 (k : Int) := Use.eval_old K.hn hl (.inl (by kernel_rfl)) K.h11; simp only [execOp, hop, e1, Sem.run_pure], rfl⟩
  | 7, _, ho =>
    obtain ⟨hd, hop, hg⟩ := Use.op_of ho (show _ = some (some 89, .slice 42 (.tmp 87) none (some (.tmp 88)) none, none) by kernel_rfl)
    exact Use.value hg 89 hd fun vals w' hF hdp hl => ⟨S1, by have e1 : (frm a (dsts ops16) vals).eval (.tmp 87) = V := (D (k := 87) (by kernel_rfl)).eval.trans (hdp 87 (D (k := 87) (by kernel_rfl)).dep (by kernel_rfl)); have e2 : (frm a (dsts ops16) vals).eval (.tmp 88) = .int .i64 (k : Int) := (D (k := 88) (by kernel_rfl)).eval.trans (hdp 88 (D (k := 88) (by kernel_rfl)).dep (by kernel_rfl)); unfold execOp; simp only [hop, Option.map_none, Option.map_some, e1, e2, K.s1, Sem.run_bind, Sem.run_pure, Result.andThen_ok], rfl⟩
  | 8, _, ho =>
    obtain ⟨hd, hop, hg⟩ := Use.op_of ho (show _ = some (some 90, .call { callee := .builtin .append, args := #[.tmp 83, .tmp 89], argTypes := #[42, 42] }, none) by kernel_rfl)
    have hty : o.type = 42 := by
      have h := show (ops16[8]?).map (·.type) = some 42 by kernel_rfl
      rw [ho] at h
      simpa using h
    refine Use.turns hg 90 hd fun vals w' hF hdp hl => ?_
    have h1 := (hdp 83 (D (k := 83) (by kernel_rfl)).dep (by kernel_rfl))
    have h2 := (hdp 89 (D (k := 89) (by kernel_rfl)).dep (by kernel_rfl))
    have hown := Mt.owns h1
    have hFu : Fr0 w5 w' := Fr.trans' (Fr.refl _ _).drew hF
    obtain ⟨v', w'', hr, hO, hG, _⟩ := run_append_valsM (P := Try.prog) w' w5.heap.size 42 42 56 Try.underlying42 (.agg #[.string ⟨#[]⟩, .slice none 0 0]) 2 40 infoE rfl (by decide) (vals 83) (vals 89) 0 k [] X1 hown (by (rw [show vals 89 = S1 from h2]; exact K.v1.fr0 hFu)) K.l1 K.o1 (by unfold maxLen; omega) (by omega) hF.size
    refine ⟨v', w'', ?_, ?_, fun e he hne hs hl' hx => ?_, fr_grown hF hown hG⟩
    · have e1 := (D (k := 83) (by kernel_rfl)).eval (vals := vals)
      have e2 := (D (k := 89) (by kernel_rfl)).eval (vals := vals)
      simp only [execOp, hop, hty, resolve, invoke, builtin, Sem.run_bind, Sem.run_pure, Result.andThen_ok, List.map_toArray, List.map_cons, List.map_nil, e1, e2, hr]
    · show w''.ownsRow w5.heap.size 56 2 v' _ _
      simpa using hO
    · rw [ds16] at he
      simp only [List.mem_cons, List.not_mem_nil, or_false] at he
      rcases he with rfl | rfl | rfl | rfl | rfl | rfl | rfl | rfl | rfl | rfl | rfl | rfl | rfl | rfl | rfl | rfl | rfl | rfl | rfl | rfl | rfl | rfl | rfl
      · exact hx
      · exact Use.ff hs (by kernel_rfl)
      · exact hx
      · exact hx
      · exact hx
      · exact hx
      · exact hx
      · exact hx
      · exact absurd rfl hne
      · exact hx
      · exact hx
      · exact hx
      · obtain ⟨q, hq, hh⟩ := hx; obtain ⟨M, hM, hhM, _⟩ := h1; refine ⟨q, hq, (hG.block q (lt_of_heap hh) (fun e' => ?_)).trans hh⟩; rw [hM] at e'; have e2 : M = q := (by simp [Value.ownBlock] at e'; omega); subst e2; rw [hhM] at hh; simp at hh
      · exact Use.ff hl' (by kernel_rfl)
      · exact hx
      · exact hx
      · exact hx
      · exact hx
      · exact hx
      · exact hx
      · exact Use.ff hl' (by kernel_rfl)
      · exact Use.ff hl' (by kernel_rfl)
      · exact Use.ff hl' (by kernel_rfl)
  | 9, _, ho =>
    obtain ⟨hd, hop, hg⟩ := Use.op_of ho (show _ = some (some 91, .move (.tmp 1), none) by kernel_rfl)
    exact Use.value hg 91 hd fun vals w' hF hdp hl => ⟨.string nm, by have e1 : (frm a (dsts ops16) vals).eval (.tmp 1) = .string nm := Use.eval_old K.hn hl (.inl (by kernel_rfl)) K.h1; simp only [execOp, hop, e1, Sem.run_pure], rfl⟩
  | 10, _, ho =>
    obtain ⟨hd, hop, hg⟩ := Use.op_of ho (show _ = some (some 92, .move (.tmp 9), none) by kernel_rfl)
    exact Use.value hg 92 hd fun vals w' hF hdp hl => ⟨now, by have e1 : (frm a (dsts ops16) vals).eval (.tmp 9) = now := Use.eval_old K.hn hl (.inl (by kernel_rfl)) K.h9; simp only [execOp, hop, e1, Sem.run_pure], rfl⟩
  | 11, _, ho =>
    obtain ⟨hd, hop, hg⟩ := Use.op_of ho (show _ = some (some 93, .build 56 #[(0, .tmp 91), (1, .tmp 92)], none) by kernel_rfl)
    exact Use.value hg 93 hd fun vals w' hF hdp hl => ⟨.agg #[.string nm, now], by have e1 : (frm a (dsts ops16) vals).eval (.tmp 91) = .string nm := (D (k := 91) (by kernel_rfl)).eval.trans (hdp 91 (D (k := 91) (by kernel_rfl)).dep (by kernel_rfl)); have e2 : (frm a (dsts ops16) vals).eval (.tmp 92) = now := (D (k := 92) (by kernel_rfl)).eval.trans (hdp 92 (D (k := 92) (by kernel_rfl)).dep (by kernel_rfl)); have hoc := K.o3; obtain ⟨NA, NL, NC, hnow⟩ := K.form; rw [hnow] at e2 hoc ⊢; unfold execOp; simp only [hop, List.map_toArray, List.map_cons, List.map_nil, e1, e2]; first | (go_simp; done) | (go_simp; rfl), rfl⟩
  | 12, _, ho =>
    obtain ⟨hd, hop, hg⟩ := Use.op_of ho (show _ = some (some 94, .buildSlice 42 1 #[(0, .tmp 93)], none) by kernel_rfl)
    refine Use.turns hg 94 hd fun vals w' hF hdp hl => ⟨.slice (some ⟨w'.heap.size, 0, none⟩) 1 1, w'.alloc (.cells #[.string nm, now] 56), ?_, ⟨w'.heap.size, rfl, heap_alloc_new w' _⟩, fun e he hne hs hl' hx => ?_, hF.alloc _⟩
    · have e1 : (frm a (dsts ops16) vals).eval (.tmp 93) = .agg #[.string nm, now] := (D (k := 93) (by kernel_rfl)).eval.trans (hdp 93 (D (k := 93) (by kernel_rfl)).dep (by kernel_rfl))
      have hoc := K.o3
      obtain ⟨NA, NL, NC, hnow⟩ := K.form
      rw [hnow] at e1 ⊢
      unfold execOp; simp only [hop, List.map_toArray, List.map_cons, List.map_nil, e1]; first | (go_simp; done) | (go_simp; rfl)
    · rw [ds16] at he
      simp only [List.mem_cons, List.not_mem_nil, or_false] at he
      rcases he with rfl | rfl | rfl | rfl | rfl | rfl | rfl | rfl | rfl | rfl | rfl | rfl | rfl | rfl | rfl | rfl | rfl | rfl | rfl | rfl | rfl | rfl | rfl
      · exact hx
      · obtain ⟨q, hq, hh, hb⟩ := hx; exact ⟨q, hq, ((Fr.refl (fun _ => False) w').alloc _).heap hh (fun f => f), hb⟩
      · exact hx
      · exact hx
      · exact hx
      · exact hx
      · exact hx
      · exact hx
      · exact World.ownsRow.alloc hx _
      · exact hx
      · exact hx
      · exact hx
      · exact absurd rfl hne
      · exact Use.ff hl' (by kernel_rfl)
      · exact hx
      · exact hx
      · exact hx
      · exact hx
      · exact hx
      · exact hx
      · exact Use.ff hl' (by kernel_rfl)
      · exact Use.ff hl' (by kernel_rfl)
      · exact Use.ff hl' (by kernel_rfl)
  | 13, _, ho =>
    obtain ⟨hd, hop, hg⟩ := Use.op_of ho (show _ = some (some 95, .call { callee := .builtin .append, args := #[.tmp 90, .tmp 94], argTypes := #[42, 42] }, none) by kernel_rfl)
    have hty : o.type = 42 := by
      have h := show (ops16[13]?).map (·.type) = some 42 by kernel_rfl
      rw [ho] at h
      simpa using h
    refine Use.turns hg 95 hd fun vals w' hF hdp hl => ?_
    have h1 := (hdp 90 (D (k := 90) (by kernel_rfl)).dep (by kernel_rfl))
    have h2 := (hdp 94 (D (k := 94) (by kernel_rfl)).dep (by kernel_rfl))
    have hown := (show w'.ownsRow w5.heap.size 56 2 (vals 90) k X1 from h1)
    have hFu : Fr0 w5 w' := Fr.trans' (Fr.refl _ _).drew hF
    obtain ⟨v', w'', hr, hO, hG, _⟩ := run_append_valsM (P := Try.prog) w' w5.heap.size 42 42 56 Try.underlying42 (.agg #[.string ⟨#[]⟩, .slice none 0 0]) 2 40 infoE rfl (by decide) (vals 90) (vals 94) k 1 X1 [Value.string nm, now] hown (One.vals h2) rfl (by intro u hu; simp at hu; rcases hu with rfl | rfl <;> first | rfl | exact K.o3) (by unfold maxLen; omega) (by omega) hF.size
    refine ⟨v', w'', ?_, ?_, fun e he hne hs hl' hx => ?_, fr_grown hF hown hG⟩
    · have e1 := (D (k := 90) (by kernel_rfl)).eval (vals := vals)
      have e2 := (D (k := 94) (by kernel_rfl)).eval (vals := vals)
      simp only [execOp, hop, hty, resolve, invoke, builtin, Sem.run_bind, Sem.run_pure, Result.andThen_ok, List.map_toArray, List.map_cons, List.map_nil, e1, e2, hr]
    · show w''.ownsRow w5.heap.size 56 2 v' _ _
      exact hO
    · rw [ds16] at he
      simp only [List.mem_cons, List.not_mem_nil, or_false] at he
      rcases he with rfl | rfl | rfl | rfl | rfl | rfl | rfl | rfl | rfl | rfl | rfl | rfl | rfl | rfl | rfl | rfl | rfl | rfl | rfl | rfl | rfl | rfl | rfl
      · exact hx
      · exact Use.ff hs (by kernel_rfl)
      · exact hx
      · exact hx
      · exact hx
      · exact hx
      · exact hx
      · exact hx
      · exact Use.ff hs (by kernel_rfl)
      · exact hx
      · exact hx
      · exact hx
      · exact Use.ff hs (by kernel_rfl)
      · exact absurd rfl hne
      · exact hx
      · exact hx
      · exact hx
      · exact hx
      · exact hx
      · exact hx
      · exact Use.ff hl' (by kernel_rfl)
      · exact Use.ff hl' (by kernel_rfl)
      · exact Use.ff hl' (by kernel_rfl)
  | 14, _, ho =>
    obtain ⟨hd, hop, hg⟩ := Use.op_of ho (show _ = some (some 96, .move (.tmp 0), none) by kernel_rfl)
    exact Use.value hg 96 hd fun vals w' hF hdp hl => ⟨.pointer (some ⟨g, 0, none⟩), by have e1 : (frm a (dsts ops16) vals).eval (.tmp 0) = .pointer (some ⟨g, 0, none⟩) := Use.eval_old K.hn hl (.inl (by kernel_rfl)) K.h0; simp only [execOp, hop, e1, Sem.run_pure], rfl⟩
  | 15, _, ho =>
    obtain ⟨hd, hop, hg⟩ := Use.op_of ho (show _ = some (some 97, .nilCheck (.tmp 96), none) by kernel_rfl)
    exact Use.value hg 97 hd fun vals w' hF hdp hl => ⟨.pointer (some ⟨g, 0, none⟩), by have e1 : (frm a (dsts ops16) vals).eval (.tmp 96) = .pointer (some ⟨g, 0, none⟩) := (D (k := 96) (by kernel_rfl)).eval.trans (hdp 96 (D (k := 96) (by kernel_rfl)).dep (by kernel_rfl)); unfold execOp; simp only [hop, e1]; go_simp, rfl⟩
  | 16, _, ho =>
    obtain ⟨hd, hop, hg⟩ := Use.op_of ho (show _ = some (some 98, .fieldAddr 44 (.tmp 97) 2, none) by kernel_rfl)
    exact Use.value hg 98 hd fun vals w' hF hdp hl => ⟨.pointer (some ⟨g, 2, none⟩), by have e1 : (frm a (dsts ops16) vals).eval (.tmp 97) = .pointer (some ⟨g, 0, none⟩) := (D (k := 97) (by kernel_rfl)).eval.trans (hdp 97 (D (k := 97) (by kernel_rfl)).dep (by kernel_rfl)); unfold execOp; simp only [hop, e1]; go_simp, rfl⟩
  | 17, _, ho =>
    obtain ⟨hd, hop, hg⟩ := Use.op_of ho (show _ = some (some 99, .load 42 (.tmp 98), none) by kernel_rfl)
    exact Use.value hg 99 hd fun vals w' hF hdp hl => ⟨V, by have e1 : (frm a (dsts ops16) vals).eval (.tmp 98) = .pointer (some ⟨g, 2, none⟩) := (D (k := 98) (by kernel_rfl)).eval.trans (hdp 98 (D (k := 98) (by kernel_rfl)).dep (by kernel_rfl)); have c1 := (hF.cell (p := ⟨g, 2, none⟩) K.hgl (fun f => f)).trans K.c2; unfold execOp; simp only [hop, e1]; go_simp, rfl⟩
  | 18, _, ho =>
    obtain ⟨hd, hop, hg⟩ := Use.op_of ho (show _ = some (some 100, .move (.tmp 11), none) by kernel_rfl)
    exact Use.value hg 100 hd fun vals w' hF hdp hl => ⟨.int .i64 (k : Int), by have e1 : (frm a (dsts ops16) vals).eval (.tmp 11) = .int .i64 (k : Int) := Use.eval_old K.hn hl (.inl (by kernel_rfl)) K.h11; simp only [execOp, hop, e1, Sem.run_pure], rfl⟩
  | 19, _, ho =>
    obtain ⟨hd, hop, hg⟩ := Use.op_of ho (show _ = some (some 101, .slice 42 (.tmp 99) (some (.tmp 100)) none none, none) by kernel_rfl)
    exact Use.value hg 101 hd fun vals w' hF hdp hl => ⟨S2, by have e1 : (frm a (dsts ops16) vals).eval (.tmp 99) = V := (D (k := 99) (by kernel_rfl)).eval.trans (hdp 99 (D (k := 99) (by kernel_rfl)).dep (by kernel_rfl)); have e2 : (frm a (dsts ops16) vals).eval (.tmp 100) = .int .i64 (k : Int) := (D (k := 100) (by kernel_rfl)).eval.trans (hdp 100 (D (k := 100) (by kernel_rfl)).dep (by kernel_rfl)); unfold execOp; simp only [hop, Option.map_none, Option.map_some, e1, e2, K.s2, Sem.run_bind, Sem.run_pure, Result.andThen_ok], rfl⟩
  | 20, _, ho =>
    obtain ⟨hd, hop, hg⟩ := Use.op_of ho (show _ = some (some 102, .call { callee := .builtin .append, args := #[.tmp 95, .tmp 101], argTypes := #[42, 42] }, none) by kernel_rfl)
    have hty : o.type = 42 := by
      have h := show (ops16[20]?).map (·.type) = some 42 by kernel_rfl
      rw [ho] at h
      simpa using h
    refine Use.turns hg 102 hd fun vals w' hF hdp hl => ?_
    have h1 := (hdp 95 (D (k := 95) (by kernel_rfl)).dep (by kernel_rfl))
    have h2 := (hdp 101 (D (k := 101) (by kernel_rfl)).dep (by kernel_rfl))
    have hown := (show w'.ownsRow w5.heap.size 56 2 (vals 95) (k + 1) (X1 ++ [Value.string nm, now]) from h1)
    have hFu : Fr0 w5 w' := Fr.trans' (Fr.refl _ _).drew hF
    obtain ⟨v', w'', hr, hO, hG, _⟩ := run_append_valsM (P := Try.prog) w' w5.heap.size 42 42 56 Try.underlying42 (.agg #[.string ⟨#[]⟩, .slice none 0 0]) 2 40 infoE rfl (by decide) (vals 95) (vals 101) (k + 1) (n - k) (X1 ++ [Value.string nm, now]) X2 hown (by (rw [show vals 101 = S2 from h2]; exact K.v2.fr0 hFu)) K.l2 K.o2 (by unfold maxLen; omega) (by omega) hF.size
    refine ⟨v', w'', ?_, ?_, fun e he hne hs hl' hx => ?_, fr_grown hF hown hG⟩
    · have e1 := (D (k := 95) (by kernel_rfl)).eval (vals := vals)
      have e2 := (D (k := 101) (by kernel_rfl)).eval (vals := vals)
      simp only [execOp, hop, hty, resolve, invoke, builtin, Sem.run_bind, Sem.run_pure, Result.andThen_ok, List.map_toArray, List.map_cons, List.map_nil, e1, e2, hr]
    · show w''.ownsRow w5.heap.size 56 2 v' _ _
      exact hO
    · rw [ds16] at he
      simp only [List.mem_cons, List.not_mem_nil, or_false] at he
      rcases he with rfl | rfl | rfl | rfl | rfl | rfl | rfl | rfl | rfl | rfl | rfl | rfl | rfl | rfl | rfl | rfl | rfl | rfl | rfl | rfl | rfl | rfl | rfl
      · exact hx
      · exact Use.ff hs (by kernel_rfl)
      · exact hx
      · exact hx
      · exact hx
      · exact hx
      · exact hx
      · exact hx
      · exact Use.ff hs (by kernel_rfl)
      · exact hx
      · exact hx
      · exact hx
      · exact Use.ff hs (by kernel_rfl)
      · exact Use.ff hs (by kernel_rfl)
      · exact hx
      · exact hx
      · exact hx
      · exact hx
      · exact hx
      · exact hx
      · exact absurd rfl hne
      · exact Use.ff hl' (by kernel_rfl)
      · exact Use.ff hl' (by kernel_rfl)
  | 21, _, ho =>
    obtain ⟨hd, hop, hg⟩ := Use.op_of ho (show _ = some (some 103, .nilCheck (.tmp 82), none) by kernel_rfl)
    exact Use.value hg 103 hd fun vals w' hF hdp hl => ⟨.pointer (some ⟨g, 0, none⟩), by have e1 : (frm a (dsts ops16) vals).eval (.tmp 82) = .pointer (some ⟨g, 0, none⟩) := (D (k := 82) (by kernel_rfl)).eval.trans (hdp 82 (D (k := 82) (by kernel_rfl)).dep (by kernel_rfl)); unfold execOp; simp only [hop, e1]; go_simp, rfl⟩
  | 22, _, ho =>
    obtain ⟨hd, hop, hg⟩ := Use.op_of ho (show _ = some (some 104, .fieldAddr 44 (.tmp 103) 2, none) by kernel_rfl)
    exact Use.value hg 104 hd fun vals w' hF hdp hl => ⟨.pointer (some ⟨g, 2, none⟩), by have e1 : (frm a (dsts ops16) vals).eval (.tmp 103) = .pointer (some ⟨g, 0, none⟩) := (D (k := 103) (by kernel_rfl)).eval.trans (hdp 103 (D (k := 103) (by kernel_rfl)).dep (by kernel_rfl)); unfold execOp; simp only [hop, e1]; go_simp, rfl⟩
  | 23, _, ho => exact absurd rfl hne23
end Go.Proofs.Ytbbmjkligiglmaa.Store
