/-
  AggKnown's two drawn statements that declare a variable, over any frame; what the calls tell of numbers that are known.
-/
import Derived.Test.YtbiokogihimboaaDoorAggAwake
import Derived.Test.YtbiokogihimboaaDoorAggPut
import Derived.Test.YtbiokogihimboaaDoorAggJoin
import Derived.Test.YtbiokogihimboaaDoorFactsL
import Derived.KernelRfl
namespace Go.Proofs.YtbiokogihimboaaDoor.AggL
open Go.RowKit Base _root_.Go.Proofs.YtbiokogihimboaaDoor.Series _root_.Go.Proofs.YtbiokogihimboaaDoor.Agg _root_.Go.Proofs.YtbiokogihimboaaDoor.Pack

theorem of_is (xs : List Int) (q : Ag) (h : ofV xs = q) (hf : ∀ x ∈ xs, Fit x) (hl : xs.length ≤ 1000000) (v : Value) (w : World) (hP : PairsIs w v (valsOf xs)) :
    Calls Tryd.prog 10 #[v] w fun e w' => e = .returned (.agg #[.int .i64 q.c, .int .i64 q.s, .int .i64 q.n, .int .i64 q.x, .int .i64 q.l, .bool q.o]) ∧ Fr0 w w' := by
  have h2 := pof_any v (valsOf xs) (by rw [vals_length]; exact hl) (vals_sized hf hl) w hP
  rw [agOf_vals, h] at h2
  exact h2
theorem of_none_is (w : World) : Calls Tryd.prog 10 #[.slice none 0 0] w fun e w' => e = .returned (.agg #[.int .i64 0, .int .i64 0, .int .i64 0, .int .i64 0, .int .i64 0, .bool false]) ∧ Fr0 w w' := pof_any (.slice none 0 0) [] (by simp) sized_nil w (pairs_nil w)
theorem put_is (q : Ag) (hq : SizedA q) (want : Int) (out : List UInt8) (er : Int) (n : Nat) (h1 : putOut q want = out) (h2 : putErr q want = er) (h3 : out.length = n) (hw : Fit want) (w : World) :
    Calls Tryd.prog 12 #[.agg #[.int .i64 q.c, .int .i64 q.s, .int .i64 q.n, .int .i64 q.x, .int .i64 q.l, .bool q.o], .int .i64 want] w fun e w' => ∃ A C, e = .returned (.tuple #[.slice A n C, .int .i64 er]) ∧ BytesIs w' (.slice A n C) out ∧ Fr0 w w' := by
  have h := pput_any q hq want hw w
  unfold PutPost at h
  rw [h1, h2, h3] at h
  exact h
theorem join_is (p q r : Ag) (hp : SizedA p) (hq : SizedA q) (hc : Fit (p.c + q.c)) (h : joinOf p q = r) (w : World) :
    Calls Tryd.prog 13 #[.agg #[.int .i64 p.c, .int .i64 p.s, .int .i64 p.n, .int .i64 p.x, .int .i64 p.l, .bool p.o], .agg #[.int .i64 q.c, .int .i64 q.s, .int .i64 q.n, .int .i64 q.x, .int .i64 q.l, .bool q.o]] w fun e w' => e = .returned (.agg #[.int .i64 r.c, .int .i64 r.s, .int .i64 r.n, .int .i64 r.x, .int .i64 r.l, .bool r.o]) ∧ Fr0 w w' := by
  have h2 := pjoin_any p q hp hq hc w
  rw [h] at h2
  exact h2
theorem text_is_of (q : Ag) (t : List UInt8) (hq : SizedA q) (h : textOf q = t) (w : World) (hL : Laid w) :
    Calls Tryd.prog 14 #[.agg #[.int .i64 q.c, .int .i64 q.s, .int .i64 q.n, .int .i64 q.x, .int .i64 q.l, .bool q.o]] w fun e w' => e = .returned (.string ⟨t.toArray⟩) ∧ Fr0 w w' := by
  have h2 := ptext_any q hq w hL
  rw [h] at h2
  exact h2
theorem map1 {f : Operand → Value} {x : Operand} {v : Value} (h : f x = v) : #[x].map f = #[v] := by simp [h]
theorem map2 {f : Operand → Value} {x y : Operand} {v u : Value} (h : f x = v) (k : f y = u) : #[x, y].map f = #[v, u] := by simp [h, k]
theorem ints_fr0 {w w' : World} {v : Value} {l : List Int} (h : IntsIs w v l) (hf : Fr0 w w') : IntsIs w' v l := by
  obtain ⟨a, c, pb, po, hv, hle, ha, hc⟩ := h
  exact ⟨a, c, pb, po, hv, hle, ha, fun j hj => (hf.cell (p := ⟨pb, po + j, none⟩) (World.block_lt_of_cell? w _ (hc j hj)) (fun f => f)).trans (hc j hj)⟩
noncomputable def ops13 : List Oper := (((Tryd.f3.body.bind (regionOps 13))).getD #[]).toList
def F13 (B : Nat) : Nat → Value → World → Prop
  | 87 => fun v w => IntsIs w v [4, 2]
  | 88 => fun v w => PairsIs w v (valsOf [4, 2])
  | 89 => fun v _ => v = .agg #[.int .i64 2, .int .i64 6, .int .i64 2, .int .i64 4, .int .i64 2, .bool false]
  | 90 => fun v _ => v = .agg #[.int .i64 0, .int .i64 0, .int .i64 0, .int .i64 0, .int .i64 0, .bool false]
  | 91 => fun v _ => v = .agg #[.int .i64 2, .int .i64 6, .int .i64 2, .int .i64 4, .int .i64 2, .bool false]
  | 21 => fun v w => ∃ g, v = .pointer (some ⟨g, 0, none⟩) ∧ B ≤ g ∧ Bx 24 w g zeroA
  | _ => fun _ _ => True
theorem mono13 (B : Nat) (d : Nat) (v : Value) (w w' : World) (hf : Fr0 w w') (h : F13 B d v w) : F13 B d v w' := by
  unfold F13 at h ⊢
  split at h
  · exact ints_fr0 h hf
  · exact h.fr0 hf
  · exact h
  · exact h
  · exact h
  · exact (let ⟨g, h1, h2, h3⟩ := h; ⟨g, h1, h2, h3.fr0 hf⟩)
  · trivial
theorem ds13 : dsts ops13 = [87, 88, 89, 90, 91, 21] := by kernel_rfl
set_option maxRecDepth 100000 in
theorem r13 {Q : Exit → Act → World → Prop} {a : Act} {w : World} {id : Nat} (gn : Nat) (hn : a.tmps.size = 217) (h19 : a.eval (.tmp 19) = .pointer (some ⟨gn, 0, none⟩)) (hN : Bx 24 w gn zeroA)
    (hQ : ∀ (vals : Nat → Value) (w' : World) (g : Nat), Fr0 w w' → vals 21 = .pointer (some ⟨g, 0, none⟩) → Bx 24 w' g ⟨2, 6, 2, 4, 2, false⟩ → Q .normal (frm a (dsts ops13) vals) w') : (Code.region id ops13.toArray true).wp Tryd.prog Q a w := by
  refine Loose.region (F13 w.heap.size) 6 (mono13 _) (by kernel_rfl) (by kernel_rfl) (by rw [hn]; kernel_rfl) (by kernel_rfl) (fun i o ho hs => ?_) (fun vals w' os hos hF hv => ?_)
  · have hi : i < 7 := by
      have := (List.getElem?_eq_some_iff.1 ho).1
      rwa [show ops13.length = 7 by kernel_rfl] at this
    have D : ∀ {k : Nat}, Loose.depBi ops13 217 i k = true → Loose.Dep ops13 a o k := fun h => Loose.Dep.at hn ho h
    match i, hi, ho, hs with
    | 0, _, ho, hs =>
      obtain ⟨hd, hop, hg⟩ := Loose.op_of ho (show _ = some (some 87, .buildSlice 52 2 #[(0, .const (.int .i64 4)), (1, .const (.int .i64 2))], none) by kernel_rfl)
      exact Loose.turns hg 87 hd fun vals w' hF hdp => ⟨.slice (some ⟨w'.heap.size, 0, none⟩) 2 2, w'.alloc (.cells #[.int .i64 4, .int .i64 2] 2), by unfold execOp; simp only [hop]; first | (go_simp; done) | (go_simp; rfl), ints_lit w' [4, 2] _ rfl _ rfl _ _ rfl, (Fr.refl _ _).alloc _⟩
    | 1, _, ho, hs =>
      obtain ⟨hd, hop, hg⟩ := Loose.op_of ho (show _ = some (some 88, .call { callee := .value (.func 11), args := #[.tmp 87], argTypes := #[52] }, none) by kernel_rfl)
      exact Loose.call hg 88 hd 11 _ _ hop _ Tryd.func11 (by kernel_rfl) (by kernel_rfl) fun vals w' hF hdp => by
        rw [map1 (D (k := 87) (by kernel_rfl)).eval]
        exact (vals_any (vals 87) [4, 2] (by simp) w' (hdp 87 (D (k := 87) (by kernel_rfl)).dep)).mono fun e w'' ⟨A, C, he, hp, hf⟩ => ⟨_, he, hp, hf⟩
    | 2, _, ho, hs =>
      obtain ⟨hd, hop, hg⟩ := Loose.op_of ho (show _ = some (some 89, .call { callee := .value (.func 10), args := #[.tmp 88], argTypes := #[26] }, none) by kernel_rfl)
      exact Loose.call hg 89 hd 10 _ _ hop _ Tryd.func10 (by kernel_rfl) (by kernel_rfl) fun vals w' hF hdp => by
        rw [map1 (D (k := 88) (by kernel_rfl)).eval]
        exact (of_is [4, 2] ⟨2, 6, 2, 4, 2, false⟩ (by kernel_rfl) (fun x hx => by simp only [List.mem_cons, List.not_mem_nil, or_false] at hx; unfold Fit; omega) (by simp) _ w' (hdp 88 (D (k := 88) (by kernel_rfl)).dep)).mono fun e w'' ⟨he, hf⟩ => ⟨_, he, rfl, hf⟩
    | 3, _, ho, hs =>
      obtain ⟨hd, hop, hg⟩ := Loose.op_of ho (show _ = some (some 90, .load 24 (.tmp 19), none) by kernel_rfl)
      exact Loose.turns hg 90 hd fun vals w' hF hdp => ⟨.agg #[.int .i64 0, .int .i64 0, .int .i64 0, .int .i64 0, .int .i64 0, .bool false], w', by have e1 : (frm a (dsts ops13) vals).eval (.tmp 19) = .pointer (some ⟨gn, 0, none⟩) := (frm_eval_old a _ vals 19 (by kernel_rfl)).trans h19; have hh := (hN.fr0 (Fr.trans' (Fr.refl _ _).drew hF)).heap; unfold execOp; simp only [hop, e1, Instr.loadAt, Instr.sureAddr, Sem.run_bind, Sem.run_pure, Result.andThen_ok, run_loadVar_row w' gn 24 24 _ _ _ hh Tryd.underlying24 rfl (by kernel_rfl)]; rfl, rfl, Fr.refl _ _⟩
    | 4, _, ho, hs =>
      obtain ⟨hd, hop, hg⟩ := Loose.op_of ho (show _ = some (some 91, .call { callee := .value (.func 13), args := #[.tmp 89, .tmp 90], argTypes := #[24, 24] }, none) by kernel_rfl)
      exact Loose.call hg 91 hd 13 _ _ hop _ Tryd.func13 (by kernel_rfl) (by kernel_rfl) fun vals w' hF hdp => by
        rw [map2 (D (k := 89) (by kernel_rfl)).eval (D (k := 90) (by kernel_rfl)).eval, show vals 89 = .agg #[.int .i64 2, .int .i64 6, .int .i64 2, .int .i64 4, .int .i64 2, .bool false] from hdp 89 (D (k := 89) (by kernel_rfl)).dep, show vals 90 = .agg #[.int .i64 0, .int .i64 0, .int .i64 0, .int .i64 0, .int .i64 0, .bool false] from hdp 90 (D (k := 90) (by kernel_rfl)).dep]
        exact (join_is ⟨2, 6, 2, 4, 2, false⟩ ⟨0, 0, 0, 0, 0, false⟩ ⟨2, 6, 2, 4, 2, false⟩ (by unfold SizedA Fit; simp) (by unfold SizedA Fit; simp) (by unfold Fit; decide) (by kernel_rfl) w').mono fun e w'' ⟨he, hf⟩ => ⟨_, he, rfl, hf⟩
    | 5, _, ho, hs =>
      obtain ⟨hd, hop, hg⟩ := Loose.op_of ho (show _ = some (some 21, .alloc 24, none) by kernel_rfl)
      exact Loose.turns hg 21 hd fun vals w' hF hdp => ⟨.pointer (some ⟨w'.heap.size, 0, none⟩), w'.alloc (.cells #[.int .i64 0, .int .i64 0, .int .i64 0, .int .i64 0, .int .i64 0, .bool false] 24), by unfold execOp; simp only [hop]; first | (go_simp; done) | (go_simp; rfl), ⟨w'.heap.size, rfl, (Fr.trans' (Fr.refl _ _).drew hF).size, Bx.new 24 w' zeroA⟩, (Fr.refl _ _).alloc _⟩
    | 6, _, ho, hs => exact absurd rfl hs
  · obtain ⟨hd, hop, hg⟩ := Loose.op_of hos (show _ = some (none, .store 24 (.tmp 21) (.tmp 91), none) by kernel_rfl)
    have D : ∀ {k : Nat}, Loose.depBi ops13 217 6 k = true → Loose.Dep ops13 a os k := fun h => Loose.Dep.at hn hos h
    obtain ⟨o5, h5, e5⟩ : ∃ o, ops13[5]? = some o ∧ o.dst = some 21 := ⟨_, rfl, by kernel_rfl⟩
    obtain ⟨o4, h4, e4⟩ : ∃ o, ops13[4]? = some o ∧ o.dst = some 91 := ⟨_, rfl, by kernel_rfl⟩
    obtain ⟨g, hv1, hv2, hv3⟩ : ∃ g, vals 21 = .pointer (some ⟨g, 0, none⟩) ∧ w.heap.size ≤ g ∧ Bx 24 w' g zeroA := hv 5 o5 21 h5 (by decide) e5
    have hv4 : vals 91 = .agg #[.int .i64 2, .int .i64 6, .int .i64 2, .int .i64 4, .int .i64 2, .bool false] := hv 4 o4 91 h4 (by decide) e4
    have hF0 : Fr0 w w' := Fr.trans' (Fr.refl _ _).drew hF
    exact Loose.store os hd hg 24 (.tmp 21) (.tmp 91) hop vals w' g #[.int .i64 2, .int .i64 6, .int .i64 2, .int .i64 4, .int .i64 2, .bool false] #[.int .i64 0, .int .i64 0, .int .i64 0, .int .i64 0, .int .i64 0, .bool false] 24 ((D (k := 21) (by kernel_rfl)).eval.trans hv1) ((D (k := 91) (by kernel_rfl)).eval.trans hv4) hv3.heap infoG rfl (a6_one ⟨2, 6, 2, 4, 2, false⟩) (hQ vals _ g (Fr.setRow (g := g) hF0 (fun h => by omega) _) hv1 (hv3.setRow ⟨2, 6, 2, 4, 2, false⟩))
noncomputable def ops14 : List Oper := (((Tryd.f3.body.bind (regionOps 14))).getD #[]).toList
def F14 (B : Nat) : Nat → Value → World → Prop
  | 92 => fun v _ => v = .agg #[.int .i64 0, .int .i64 0, .int .i64 0, .int .i64 0, .int .i64 0, .bool false]
  | 93 => fun v w => IntsIs w v [4, 2]
  | 94 => fun v w => PairsIs w v (valsOf [4, 2])
  | 95 => fun v _ => v = .agg #[.int .i64 2, .int .i64 6, .int .i64 2, .int .i64 4, .int .i64 2, .bool false]
  | 96 => fun v _ => v = .agg #[.int .i64 2, .int .i64 6, .int .i64 2, .int .i64 4, .int .i64 2, .bool false]
  | 22 => fun v w => ∃ g, v = .pointer (some ⟨g, 0, none⟩) ∧ B ≤ g ∧ Bx 24 w g zeroA
  | _ => fun _ _ => True
theorem mono14 (B : Nat) (d : Nat) (v : Value) (w w' : World) (hf : Fr0 w w') (h : F14 B d v w) : F14 B d v w' := by
  unfold F14 at h ⊢
  split at h
  · exact h
  · exact ints_fr0 h hf
  · exact h.fr0 hf
  · exact h
  · exact h
  · exact (let ⟨g, h1, h2, h3⟩ := h; ⟨g, h1, h2, h3.fr0 hf⟩)
  · trivial
theorem ds14 : dsts ops14 = [92, 93, 94, 95, 96, 22] := by kernel_rfl
set_option maxRecDepth 100000 in
theorem r14 {Q : Exit → Act → World → Prop} {a : Act} {w : World} {id : Nat} (gn : Nat) (hn : a.tmps.size = 217) (h19 : a.eval (.tmp 19) = .pointer (some ⟨gn, 0, none⟩)) (hN : Bx 24 w gn zeroA)
    (hQ : ∀ (vals : Nat → Value) (w' : World) (g : Nat), Fr0 w w' → vals 22 = .pointer (some ⟨g, 0, none⟩) → Bx 24 w' g ⟨2, 6, 2, 4, 2, false⟩ → Q .normal (frm a (dsts ops14) vals) w') : (Code.region id ops14.toArray true).wp Tryd.prog Q a w := by
  refine Loose.region (F14 w.heap.size) 6 (mono14 _) (by kernel_rfl) (by kernel_rfl) (by rw [hn]; kernel_rfl) (by kernel_rfl) (fun i o ho hs => ?_) (fun vals w' os hos hF hv => ?_)
  · have hi : i < 7 := by
      have := (List.getElem?_eq_some_iff.1 ho).1
      rwa [show ops14.length = 7 by kernel_rfl] at this
    have D : ∀ {k : Nat}, Loose.depBi ops14 217 i k = true → Loose.Dep ops14 a o k := fun h => Loose.Dep.at hn ho h
    match i, hi, ho, hs with
    | 0, _, ho, hs =>
      obtain ⟨hd, hop, hg⟩ := Loose.op_of ho (show _ = some (some 92, .load 24 (.tmp 19), none) by kernel_rfl)
      exact Loose.turns hg 92 hd fun vals w' hF hdp => ⟨.agg #[.int .i64 0, .int .i64 0, .int .i64 0, .int .i64 0, .int .i64 0, .bool false], w', by have e1 : (frm a (dsts ops14) vals).eval (.tmp 19) = .pointer (some ⟨gn, 0, none⟩) := (frm_eval_old a _ vals 19 (by kernel_rfl)).trans h19; have hh := (hN.fr0 (Fr.trans' (Fr.refl _ _).drew hF)).heap; unfold execOp; simp only [hop, e1, Instr.loadAt, Instr.sureAddr, Sem.run_bind, Sem.run_pure, Result.andThen_ok, run_loadVar_row w' gn 24 24 _ _ _ hh Tryd.underlying24 rfl (by kernel_rfl)]; rfl, rfl, Fr.refl _ _⟩
    | 1, _, ho, hs =>
      obtain ⟨hd, hop, hg⟩ := Loose.op_of ho (show _ = some (some 93, .buildSlice 52 2 #[(0, .const (.int .i64 4)), (1, .const (.int .i64 2))], none) by kernel_rfl)
      exact Loose.turns hg 93 hd fun vals w' hF hdp => ⟨.slice (some ⟨w'.heap.size, 0, none⟩) 2 2, w'.alloc (.cells #[.int .i64 4, .int .i64 2] 2), by unfold execOp; simp only [hop]; first | (go_simp; done) | (go_simp; rfl), ints_lit w' [4, 2] _ rfl _ rfl _ _ rfl, (Fr.refl _ _).alloc _⟩
    | 2, _, ho, hs =>
      obtain ⟨hd, hop, hg⟩ := Loose.op_of ho (show _ = some (some 94, .call { callee := .value (.func 11), args := #[.tmp 93], argTypes := #[52] }, none) by kernel_rfl)
      exact Loose.call hg 94 hd 11 _ _ hop _ Tryd.func11 (by kernel_rfl) (by kernel_rfl) fun vals w' hF hdp => by
        rw [map1 (D (k := 93) (by kernel_rfl)).eval]
        exact (vals_any (vals 93) [4, 2] (by simp) w' (hdp 93 (D (k := 93) (by kernel_rfl)).dep)).mono fun e w'' ⟨A, C, he, hp, hf⟩ => ⟨_, he, hp, hf⟩
    | 3, _, ho, hs =>
      obtain ⟨hd, hop, hg⟩ := Loose.op_of ho (show _ = some (some 95, .call { callee := .value (.func 10), args := #[.tmp 94], argTypes := #[26] }, none) by kernel_rfl)
      exact Loose.call hg 95 hd 10 _ _ hop _ Tryd.func10 (by kernel_rfl) (by kernel_rfl) fun vals w' hF hdp => by
        rw [map1 (D (k := 94) (by kernel_rfl)).eval]
        exact (of_is [4, 2] ⟨2, 6, 2, 4, 2, false⟩ (by kernel_rfl) (fun x hx => by simp only [List.mem_cons, List.not_mem_nil, or_false] at hx; unfold Fit; omega) (by simp) _ w' (hdp 94 (D (k := 94) (by kernel_rfl)).dep)).mono fun e w'' ⟨he, hf⟩ => ⟨_, he, rfl, hf⟩
    | 4, _, ho, hs =>
      obtain ⟨hd, hop, hg⟩ := Loose.op_of ho (show _ = some (some 96, .call { callee := .value (.func 13), args := #[.tmp 92, .tmp 95], argTypes := #[24, 24] }, none) by kernel_rfl)
      exact Loose.call hg 96 hd 13 _ _ hop _ Tryd.func13 (by kernel_rfl) (by kernel_rfl) fun vals w' hF hdp => by
        rw [map2 (D (k := 92) (by kernel_rfl)).eval (D (k := 95) (by kernel_rfl)).eval, show vals 92 = .agg #[.int .i64 0, .int .i64 0, .int .i64 0, .int .i64 0, .int .i64 0, .bool false] from hdp 92 (D (k := 92) (by kernel_rfl)).dep, show vals 95 = .agg #[.int .i64 2, .int .i64 6, .int .i64 2, .int .i64 4, .int .i64 2, .bool false] from hdp 95 (D (k := 95) (by kernel_rfl)).dep]
        exact (join_is ⟨0, 0, 0, 0, 0, false⟩ ⟨2, 6, 2, 4, 2, false⟩ ⟨2, 6, 2, 4, 2, false⟩ (by unfold SizedA Fit; simp) (by unfold SizedA Fit; simp) (by unfold Fit; decide) (by kernel_rfl) w').mono fun e w'' ⟨he, hf⟩ => ⟨_, he, rfl, hf⟩
    | 5, _, ho, hs =>
      obtain ⟨hd, hop, hg⟩ := Loose.op_of ho (show _ = some (some 22, .alloc 24, none) by kernel_rfl)
      exact Loose.turns hg 22 hd fun vals w' hF hdp => ⟨.pointer (some ⟨w'.heap.size, 0, none⟩), w'.alloc (.cells #[.int .i64 0, .int .i64 0, .int .i64 0, .int .i64 0, .int .i64 0, .bool false] 24), by unfold execOp; simp only [hop]; first | (go_simp; done) | (go_simp; rfl), ⟨w'.heap.size, rfl, (Fr.trans' (Fr.refl _ _).drew hF).size, Bx.new 24 w' zeroA⟩, (Fr.refl _ _).alloc _⟩
    | 6, _, ho, hs => exact absurd rfl hs
  · obtain ⟨hd, hop, hg⟩ := Loose.op_of hos (show _ = some (none, .store 24 (.tmp 22) (.tmp 96), none) by kernel_rfl)
    have D : ∀ {k : Nat}, Loose.depBi ops14 217 6 k = true → Loose.Dep ops14 a os k := fun h => Loose.Dep.at hn hos h
    obtain ⟨o5, h5, e5⟩ : ∃ o, ops14[5]? = some o ∧ o.dst = some 22 := ⟨_, rfl, by kernel_rfl⟩
    obtain ⟨o4, h4, e4⟩ : ∃ o, ops14[4]? = some o ∧ o.dst = some 96 := ⟨_, rfl, by kernel_rfl⟩
    obtain ⟨g, hv1, hv2, hv3⟩ : ∃ g, vals 22 = .pointer (some ⟨g, 0, none⟩) ∧ w.heap.size ≤ g ∧ Bx 24 w' g zeroA := hv 5 o5 22 h5 (by decide) e5
    have hv4 : vals 96 = .agg #[.int .i64 2, .int .i64 6, .int .i64 2, .int .i64 4, .int .i64 2, .bool false] := hv 4 o4 96 h4 (by decide) e4
    have hF0 : Fr0 w w' := Fr.trans' (Fr.refl _ _).drew hF
    exact Loose.store os hd hg 24 (.tmp 22) (.tmp 96) hop vals w' g #[.int .i64 2, .int .i64 6, .int .i64 2, .int .i64 4, .int .i64 2, .bool false] #[.int .i64 0, .int .i64 0, .int .i64 0, .int .i64 0, .int .i64 0, .bool false] 24 ((D (k := 22) (by kernel_rfl)).eval.trans hv1) ((D (k := 96) (by kernel_rfl)).eval.trans hv4) hv3.heap infoG rfl (a6_one ⟨2, 6, 2, 4, 2, false⟩) (hQ vals _ g (Fr.setRow (g := g) hF0 (fun h => by omega) _) hv1 (hv3.setRow ⟨2, 6, 2, 4, 2, false⟩))
end Go.Proofs.YtbiokogihimboaaDoor.AggL
