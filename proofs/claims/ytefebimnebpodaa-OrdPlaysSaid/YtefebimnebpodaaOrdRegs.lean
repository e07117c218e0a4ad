/-
  OrdPlays' two drawn statements that append to the list of acts, over any frame.
-/
import Derived.Test.YtefebimnebpodaaOrdSteps
import Derived.Test.YtefebimnebpodaaFactsM
import Derived.Test.YtefebimnebpodaaLawT
import Derived.Test.YtefebimnebpodaaProg
import Derived.Laws.Rows
import Derived.KernelRfl
import Derived.Tactics
namespace Go.Proofs.Ytefebimnebpodaa.Ord
open Go.RowKit Base

section
variable {P : Program}
theorem slice_hi3 (t e : TypeId) (ht : P.underlying t = some (.slice e)) (hs : (P.info? e).map (·.size) = some 3) (a : Option Addr) (n cap hi : Nat) (h2 : hi ≤ cap) (wx : World) :
    (Instr.sliceAt t (.slice a n cap) none (some (.int .i64 (hi : Int))) none).run P wx = .ok (.slice a hi cap) wx := by
  obtain ⟨i, hi', hz⟩ : ∃ i, P.info? e = some i ∧ i.size = 3 := by
    cases hq : P.info? e with
    | none => simp [hq] at hs
    | some i => exact ⟨i, rfl, by simpa [hq] using hs⟩
  have hE : P.elem t = e := by simp [Program.elem, ht]
  rw [run_sliceAt_slice wx t _ _ _ _ (by rw [hE]; exact ht), run_slice_h wx t a n cap (by rw [hE]; exact ht) .i64 (hi : Int) (by omega) (by omega), hE]
  simp [sizeOf, typeInfo, hi', hz, sliced, Sem.run_bind]
  intro _
  cases a with
  | none => rfl
  | some x => simp [Addr.add]
theorem slice_lo3 (t e : TypeId) (ht : P.underlying t = some (.slice e)) (hs : (P.info? e).map (·.size) = some 3) (a : Option Addr) (n cap lo : Nat) (l : Int) (hl : l = (lo : Int)) (h1 : lo ≤ n) (h2 : n ≤ cap) (wx : World) :
    (Instr.sliceAt t (.slice a n cap) (some (.int .i64 l)) none none).run P wx = .ok (.slice (if cap = lo then a else a.map (·.add (lo * 3))) (n - lo) (cap - lo)) wx := by
  subst hl
  obtain ⟨i, hi', hz⟩ : ∃ i, P.info? e = some i ∧ i.size = 3 := by
    cases hq : P.info? e with
    | none => simp [hq] at hs
    | some i => exact ⟨i, rfl, by simpa [hq] using hs⟩
  have hE : P.elem t = e := by simp [Program.elem, ht]
  rw [run_sliceAt_slice wx t _ _ _ _ (by rw [hE]; exact ht), run_slice_l wx t a n cap (by rw [hE]; exact ht) .i64 (lo : Int) (by omega) (by omega), hE]
  simp [sizeOf, typeInfo, hi', hz, sliced, Sem.run_bind]
/-- both sides of a place in an own row of acts -/
theorem acts_cuts {w : World} {base : Nat} {t e : TypeId} {A : Option Addr} {C n : Nat} {ws : List Trip} (ht : P.underlying t = some (.slice e)) (hs : (P.info? e).map (·.size) = some 3) (h : w.ownsRow base e 3 (.slice A n C) n (wcells ws)) (hl : ws.length = n) (k : Nat) (hk : k ≤ n) :
    (∃ S, (∀ wx, (Instr.sliceAt t (.slice A n C) none (some (.int .i64 (k : Int))) none).run P wx = .ok S wx) ∧ ValsIs w S k (wcells (ws.take k))) ∧
      (∃ S, (∀ (l : Int), l = (k : Int) → ∀ wx, (Instr.sliceAt t (.slice A n C) (some (.int .i64 l)) none none).run P wx = .ok S wx) ∧ ValsIs w S (n - k) (wcells (ws.drop k))) := by
  rcases h.2 with ⟨hv, h0⟩ | ⟨b, cap, cur, hv, _, _, hnc, _⟩
  · cases hv
    obtain rfl : k = 0 := by omega
    obtain rfl : ws = [] := List.eq_nil_of_length_eq_zero hl
    exact ⟨⟨_, fun wx => slice_hi3 t e ht hs none 0 0 0 (Nat.le_refl _) wx, vals_nil w 0⟩, ⟨_, fun l hl wx => slice_lo3 t e ht hs none 0 0 0 l hl (Nat.le_refl _) (Nat.le_refl _) wx, by simpa using vals_nil w 0⟩⟩
  · cases hv
    refine ⟨⟨_, fun wx => slice_hi3 t e ht hs _ n C k (by omega) wx, acts_head h hnc k hk⟩, ⟨_, fun l hl wx => slice_lo3 t e ht hs _ n C k l hl hk hnc wx, ?_⟩⟩
    obtain ⟨A2, hA2, hV⟩ := acts_tail h hnc k hk
    have e1 : (if C = k then some (⟨b, 0, none⟩ : Addr) else (some (⟨b, 0, none⟩ : Addr)).map (·.add (k * 3))) = some A2 := by
      rw [← hA2]
      by_cases hc : C = k
      · rw [if_pos hc, if_pos hc]
      · rw [if_neg hc, if_neg hc]
        simp [Addr.add_mid]
    rw [e1]
    exact hV
end

abbrev AT : TypeId := 22
abbrev AE : TypeId := 27
theorem infoA : (Try.prog.info? AE).map (fun i => (i.zero, i.size, i.bytes)) = some (some (.agg #[.int .i64 0, .int .i64 0, .string ⟨#[]⟩]), 3, 32) := by kernel_rfl
noncomputable def ops26 : List Oper := (((Try.f3.body.bind (regionOps 26))).getD #[]).toList
noncomputable def ops30 : List Oper := (((Try.f3.body.bind (regionOps 30))).getD #[]).toList
/-- an empty row of the region's own -/
def IsEmpty (base : Nat) (v : Value) (w : World) : Prop := ∃ N, v = .slice (some ⟨N, 0, none⟩) 0 0 ∧ w.heap[N]? = some (.cells #[] AE (0, 0)) ∧ base ≤ N
theorem IsEmpty.owns {base : Nat} {v : Value} {w : World} (h : IsEmpty base v w) : w.ownsRow base AE 3 v 0 (wcells []) := by
  obtain ⟨N, rfl, hh, hb⟩ := h
  exact ⟨rfl, .inr ⟨N, 0, #[], rfl, hb, hh, Nat.le_refl _, by unfold maxLen; omega, rfl, rfl⟩⟩
def IsOne (t : Trip) (v : Value) (w : World) : Prop := ∃ N, v = .slice (some ⟨N, 0, none⟩) 1 1 ∧ w.heap[N]? = some (.cells #[.int .i64 t.1, .int .i64 t.2.1, .string t.2.2] AE (0, 0))
theorem run_lit0 (w : World) (x : TypeId → Sem Value) : True := trivial
structure Ctx (a : Act) (w5 : World) (pc : Int) (V S1 S2 : Value) (k1 n P : Nat) (ws : List Trip) : Prop where
  hn : a.tmps.size = 220
  h7 : a.eval (.tmp 7) = V
  h10 : a.eval (.tmp 10) = .int .i64 (P : Int)
  s1 : ∀ wx, (Instr.sliceAt AT V none (some (.int .i64 (P : Int))) none).run Try.prog wx = .ok S1 wx
  s2 : ∀ wx, (Instr.sliceAt AT V (some (.int .i64 pc)) none none).run Try.prog wx = .ok S2 wx
  v1 : ValsIs w5 S1 P (wcells (ws.take P))
  v2 : ValsIs w5 S2 (n - (P + k1)) (wcells (ws.drop (P + k1)))
  hl : ws.length = n
  hP : P + k1 ≤ n
  n160 : n ≤ 160

def F26 (base : Nat) (V S1 S2 : Value) (n P : Nat) (ws : List Trip) : Nat → Value → World → Prop
  | 86 => fun v w => IsEmpty base v w
  | 87 => fun v _ => v = V
  | 88 => fun v _ => v = .int .i64 (P : Int)
  | 89 => fun v _ => v = S1
  | 90 => fun v w => w.ownsRow base AE 3 v P (wcells (ws.take P))
  | 91 => fun v _ => v = V
  | 92 => fun v _ => v = .int .i64 (P : Int)
  | 93 => fun v _ => v = .int .i64 ((P : Int) + 1)
  | 94 => fun v _ => v = S2
  | 95 => fun v w => w.ownsRow base AE 3 v (n - 1) (wcells (ws.take P ++ ws.drop (P + 1)))
  | 7 => fun v w => w.ownsRow base AE 3 v (n - 1) (wcells (ws.take P ++ ws.drop (P + 1)))
  | _ => fun _ _ => True
def cons26 : Nat → Option Nat
  | 86 => some 4
  | 90 => some 9
  | _ => none
theorem ds26 : dsts ops26 = [86, 87, 88, 89, 90, 91, 92, 93, 94, 95, 7] := by kernel_rfl
theorem r26 {Q : Exit → Act → World → Prop} {a : Act} {w5 : World} {V S1 S2 : Value} {n P : Nat} {ws : List Trip} {id : Nat} (K : Ctx a w5 ((P : Int) + 1) V S1 S2 1 n P ws)
    (hQ : ∀ (vals : Nat → Value) (w' : World), Fr0 w5 w' → w'.ownsRow w5.heap.size AE 3 (vals 7) (n - 1) (wcells (ws.take P ++ ws.drop (P + 1))) → Q .normal (frm a (dsts ops26) vals) w') : (Code.region id ops26.toArray true).wp Try.prog Q a w5 := by
  have hPn := K.hP
  have hn160 := K.n160
  have hln := K.hl
  refine Use.region (F26 w5.heap.size V S1 S2 n P ws) cons26 (by kernel_rfl) (by kernel_rfl) (by rw [K.hn]; kernel_rfl) (by kernel_rfl) (fun i o ho => ?_) (fun vals w' hF hv => hQ vals w' (Fr.trans' (Fr.refl _ _).drew hF) (hv 7 (by rw [ds26]; simp) rfl))
  have hi : i < 11 := by
    have := (List.getElem?_eq_some_iff.1 ho).1
    rwa [show ops26.length = 11 by kernel_rfl] at this
  have D : ∀ {k : Nat}, Use.depBi ops26 220 i k = true → Use.Dep ops26 a o k := fun h => Use.Dep.at K.hn ho h
  have O7 : ∀ (vals : Nat → Value), (∀ d, Use.late ops26 i d = true → vals d = a.tmps.getD d undef) → Use.late ops26 i 7 = true → (frm a (dsts ops26) vals).eval (.tmp 7) = V := fun vals hl h => Use.eval_old K.hn hl (.inr ⟨by rw [ds26]; simp, by decide, h⟩) K.h7
  have O10 : ∀ (vals : Nat → Value), (∀ d, Use.late ops26 i d = true → vals d = a.tmps.getD d undef) → (frm a (dsts ops26) vals).eval (.tmp 10) = .int .i64 (P : Int) := fun vals hl => Use.eval_old K.hn hl (.inl (by kernel_rfl)) K.h10
  match i, hi, ho with
  | 0, _, ho =>
    obtain ⟨hd, hop, hg⟩ := Use.op_of ho (show _ = some (some 86, .buildSlice AT 0 #[], none) by kernel_rfl)
    refine Use.turns hg 86 hd fun vals w' hF hdp hl => ⟨.slice (some ⟨w'.heap.size, 0, none⟩) 0 0, w'.alloc (.cells #[] AE), ?_, ⟨w'.heap.size, rfl, heap_alloc_new w' _, hF.size⟩, fun e he hne hs hl' hx => ?_, hF.alloc _⟩
    · unfold execOp; simp only [hop]; first | (go_simp; done) | (go_simp; rfl)
    · rw [ds26] at he
      simp only [List.mem_cons, List.not_mem_nil, or_false] at he
      rcases he with rfl | rfl | rfl | rfl | rfl | rfl | rfl | rfl | rfl | rfl | rfl
      · exact absurd rfl hne
      · exact hx
      · exact hx
      · exact hx
      · exact Use.ff hl' (by kernel_rfl)
      · exact hx
      · exact hx
      · exact hx
      · exact hx
      · exact Use.ff hl' (by kernel_rfl)
      · exact Use.ff hl' (by kernel_rfl)
  | 1, _, ho =>
    obtain ⟨hd, hop, hg⟩ := Use.op_of ho (show _ = some (some 87, .move (.tmp 7), none) by kernel_rfl)
    exact Use.value hg 87 hd fun vals w' hF hdp hl => ⟨V, by have e1 := O7 vals hl (by kernel_rfl); simp only [execOp, hop, e1, Sem.run_pure], rfl⟩
  | 2, _, ho =>
    obtain ⟨hd, hop, hg⟩ := Use.op_of ho (show _ = some (some 88, .move (.tmp 10), none) by kernel_rfl)
    exact Use.value hg 88 hd fun vals w' hF hdp hl => ⟨.int .i64 (P : Int), by have e1 := O10 vals hl; simp only [execOp, hop, e1, Sem.run_pure], rfl⟩
  | 3, _, ho =>
    obtain ⟨hd, hop, hg⟩ := Use.op_of ho (show _ = some (some 89, .slice AT (.tmp 87) none (some (.tmp 88)) none, none) by kernel_rfl)
    exact Use.value hg 89 hd fun vals w' hF hdp hl => ⟨S1, by have e1 : (frm a (dsts ops26) vals).eval (.tmp 87) = V := (D (k := 87) (by kernel_rfl)).eval.trans (hdp 87 (D (k := 87) (by kernel_rfl)).dep (by kernel_rfl)); have e2 : (frm a (dsts ops26) vals).eval (.tmp 88) = .int .i64 (P : Int) := (D (k := 88) (by kernel_rfl)).eval.trans (hdp 88 (D (k := 88) (by kernel_rfl)).dep (by kernel_rfl)); unfold execOp; simp only [hop, Option.map_none, Option.map_some, e1, e2, K.s1, Sem.run_bind, Sem.run_pure, Result.andThen_ok], rfl⟩
  | 4, _, ho =>
    obtain ⟨hd, hop, hg⟩ := Use.op_of ho (show _ = some (some 90, .call { callee := .builtin .append, args := #[.tmp 86, .tmp 89], argTypes := #[AT, AT] }, none) by kernel_rfl)
    have hty : o.type = AT := by
      have h := show (ops26[4]?).map (·.type) = some AT by kernel_rfl
      rw [ho] at h
      simpa using h
    refine Use.turns hg 90 hd fun vals w' hF hdp hl => ?_
    have h1 := (hdp 86 (D (k := 86) (by kernel_rfl)).dep (by kernel_rfl))
    have h2 := (hdp 89 (D (k := 89) (by kernel_rfl)).dep (by kernel_rfl))
    have hown := IsEmpty.owns h1
    have hFu : Fr0 w5 w' := Fr.trans' (Fr.refl _ _).drew hF
    obtain ⟨v', w'', hr, hO, hG⟩ := append_run (P := Try.prog) AT AE _ 32 Try.underlying22 infoA rfl (by decide) (v2 := vals 89) (us := ws.take P) (ws := []) (m := P) hown (by (rw [show vals 89 = S1 from h2]; exact K.v1.fr0 hFu)) (by simp; try omega) (by omega) hF.size
    refine ⟨v', w'', ?_, ?_, fun e he hne hs hl' hx => ?_, fr_grown hF hown hG⟩
    · have e1 := (D (k := 86) (by kernel_rfl)).eval (vals := vals)
      have e2 := (D (k := 89) (by kernel_rfl)).eval (vals := vals)
      simp only [execOp, hop, hty, resolve, invoke, builtin, Sem.run_bind, Sem.run_pure, Result.andThen_ok, List.map_toArray, List.map_cons, List.map_nil, e1, e2, hr]
    · show w''.ownsRow _ AE 3 v' P (wcells (ws.take P)); simpa using hO
    · rw [ds26] at he
      simp only [List.mem_cons, List.not_mem_nil, or_false] at he
      rcases he with rfl | rfl | rfl | rfl | rfl | rfl | rfl | rfl | rfl | rfl | rfl
      · exact Use.ff hs (by kernel_rfl)
      · exact hx
      · exact hx
      · exact hx
      · exact absurd rfl hne
      · exact hx
      · exact hx
      · exact hx
      · exact hx
      · exact Use.ff hl' (by kernel_rfl)
      · exact Use.ff hl' (by kernel_rfl)
  | 5, _, ho =>
    obtain ⟨hd, hop, hg⟩ := Use.op_of ho (show _ = some (some 91, .move (.tmp 7), none) by kernel_rfl)
    exact Use.value hg 91 hd fun vals w' hF hdp hl => ⟨V, by have e1 := O7 vals hl (by kernel_rfl); simp only [execOp, hop, e1, Sem.run_pure], rfl⟩
  | 6, _, ho =>
    obtain ⟨hd, hop, hg⟩ := Use.op_of ho (show _ = some (some 92, .move (.tmp 10), none) by kernel_rfl)
    exact Use.value hg 92 hd fun vals w' hF hdp hl => ⟨.int .i64 (P : Int), by have e1 := O10 vals hl; simp only [execOp, hop, e1, Sem.run_pure], rfl⟩
  | 7, _, ho =>
    obtain ⟨hd, hop, hg⟩ := Use.op_of ho (show _ = some (some 93, .binOp .add 3 (.tmp 92) (.const (.int .i64 1)) 3, none) by kernel_rfl)
    exact Use.value hg 93 hd fun vals w' hF hdp hl => ⟨.int .i64 ((P : Int) + 1), by have e1 : (frm a (dsts ops26) vals).eval (.tmp 92) = .int .i64 (P : Int) := (D (k := 92) (by kernel_rfl)).eval.trans (hdp 92 (D (k := 92) (by kernel_rfl)).dep (by kernel_rfl)); have ec : (frm a (dsts ops26) vals).eval (.const (.int .i64 1)) = .int .i64 1 := rfl; have hw : IntKind.i64.wrap ((P : Int) + 1) = (P : Int) + 1 := by (rw [IntKind.wrap_i64]; omega)
                                                                                     unfold execOp; simp only [hop, e1, ec]; go_simp, rfl⟩
  | 8, _, ho =>
    obtain ⟨hd, hop, hg⟩ := Use.op_of ho (show _ = some (some 94, .slice AT (.tmp 91) (some (.tmp 93)) none none, none) by kernel_rfl)
    exact Use.value hg 94 hd fun vals w' hF hdp hl => ⟨S2, by have e1 : (frm a (dsts ops26) vals).eval (.tmp 91) = V := (D (k := 91) (by kernel_rfl)).eval.trans (hdp 91 (D (k := 91) (by kernel_rfl)).dep (by kernel_rfl)); have e2 : (frm a (dsts ops26) vals).eval (.tmp 93) = .int .i64 ((P : Int) + 1) := (D (k := 93) (by kernel_rfl)).eval.trans (hdp 93 (D (k := 93) (by kernel_rfl)).dep (by kernel_rfl)); unfold execOp; simp only [hop, Option.map_none, Option.map_some, e1, e2, K.s2, Sem.run_bind, Sem.run_pure, Result.andThen_ok], rfl⟩
  | 9, _, ho =>
    obtain ⟨hd, hop, hg⟩ := Use.op_of ho (show _ = some (some 95, .call { callee := .builtin .append, args := #[.tmp 90, .tmp 94], argTypes := #[AT, AT] }, none) by kernel_rfl)
    have hty : o.type = AT := by
      have h := show (ops26[9]?).map (·.type) = some AT by kernel_rfl
      rw [ho] at h
      simpa using h
    refine Use.turns hg 95 hd fun vals w' hF hdp hl => ?_
    have h1 := (hdp 90 (D (k := 90) (by kernel_rfl)).dep (by kernel_rfl))
    have h2 := (hdp 94 (D (k := 94) (by kernel_rfl)).dep (by kernel_rfl))
    have hown := (show w'.ownsRow w5.heap.size AE 3 (vals 90) P (wcells (ws.take P)) from h1)
    have hFu : Fr0 w5 w' := Fr.trans' (Fr.refl _ _).drew hF
    obtain ⟨v', w'', hr, hO, hG⟩ := append_run (P := Try.prog) AT AE _ 32 Try.underlying22 infoA rfl (by decide) (v2 := vals 94) (us := ws.drop (P + 1)) (ws := ws.take P) (m := n - (P + 1)) hown (by (rw [show vals 94 = S2 from h2]; exact K.v2.fr0 hFu)) (by simp; try omega) (by omega) hF.size
    refine ⟨v', w'', ?_, ?_, fun e he hne hs hl' hx => ?_, fr_grown hF hown hG⟩
    · have e1 := (D (k := 90) (by kernel_rfl)).eval (vals := vals)
      have e2 := (D (k := 94) (by kernel_rfl)).eval (vals := vals)
      simp only [execOp, hop, hty, resolve, invoke, builtin, Sem.run_bind, Sem.run_pure, Result.andThen_ok, List.map_toArray, List.map_cons, List.map_nil, e1, e2, hr]
    · show w''.ownsRow _ AE 3 v' (n - 1) (wcells (ws.take P ++ ws.drop (P + 1))); rw [show n - 1 = P + (n - (P + 1)) by omega]; exact hO
    · rw [ds26] at he
      simp only [List.mem_cons, List.not_mem_nil, or_false] at he
      rcases he with rfl | rfl | rfl | rfl | rfl | rfl | rfl | rfl | rfl | rfl | rfl
      · exact Use.ff hs (by kernel_rfl)
      · exact hx
      · exact hx
      · exact hx
      · exact Use.ff hs (by kernel_rfl)
      · exact hx
      · exact hx
      · exact hx
      · exact hx
      · exact absurd rfl hne
      · exact Use.ff hl' (by kernel_rfl)
  | 10, _, ho =>
    obtain ⟨hd, hop, hg⟩ := Use.op_of ho (show _ = some (some 7, .assign (.tmp 95), none) by kernel_rfl)
    exact Use.value hg 7 hd fun vals w' hF hdp hl => ⟨vals 95, by have e1 := (D (k := 95) (by kernel_rfl)).eval (vals := vals); simp only [execOp, hop, e1, Sem.run_pure], (hdp 95 (D (k := 95) (by kernel_rfl)).dep (by kernel_rfl))⟩
def F30 (base : Nat) (V S1 S2 : Value) (n P : Nat) (ws : List Trip) (t : Trip) : Nat → Value → World → Prop
  | 111 => fun v w => IsEmpty base v w
  | 112 => fun v _ => v = V
  | 113 => fun v _ => v = .int .i64 (P : Int)
  | 114 => fun v _ => v = S1
  | 115 => fun v w => w.ownsRow base AE 3 v P (wcells (ws.take P))
  | 116 => fun v _ => v = .agg #[.int .i64 t.1, .int .i64 t.2.1, .string t.2.2]
  | 117 => fun v w => IsOne t v w
  | 118 => fun v w => w.ownsRow base AE 3 v (P + 1) (wcells (ws.take P ++ [t]))
  | 119 => fun v _ => v = V
  | 120 => fun v _ => v = .int .i64 (P : Int)
  | 121 => fun v _ => v = S2
  | 122 => fun v w => w.ownsRow base AE 3 v (n + 1) (wcells (ws.take P ++ t :: ws.drop P))
  | 7 => fun v w => w.ownsRow base AE 3 v (n + 1) (wcells (ws.take P ++ t :: ws.drop P))
  | _ => fun _ _ => True
def cons30 : Nat → Option Nat
  | 111 => some 4
  | 115 => some 7
  | 117 => some 7
  | 118 => some 11
  | _ => none
theorem ds30 : dsts ops30 = [111, 112, 113, 114, 115, 116, 117, 118, 119, 120, 121, 122, 7] := by kernel_rfl
theorem r30 {Q : Exit → Act → World → Prop} {a : Act} {w5 : World} {V S1 S2 : Value} {n P : Nat} {ws : List Trip} {t : Trip} {N : Nat} {id : Nat} (K : Ctx a w5 (P : Int) V S1 S2 0 n P ws) (h9 : a.eval (.tmp 9) = .pointer (some ⟨N, 0, none⟩)) (hN : w5.heap[N]? = some (.cells #[.int .i64 t.1, .int .i64 t.2.1, .string t.2.2] AE (0, 0)))
    (hQ : ∀ (vals : Nat → Value) (w' : World), Fr0 w5 w' → w'.ownsRow w5.heap.size AE 3 (vals 7) (n + 1) (wcells (ws.take P ++ t :: ws.drop P)) → Q .normal (frm a (dsts ops30) vals) w') : (Code.region id ops30.toArray true).wp Try.prog Q a w5 := by
  have hPn := K.hP
  have hn160 := K.n160
  have hln := K.hl
  refine Use.region (F30 w5.heap.size V S1 S2 n P ws t) cons30 (by kernel_rfl) (by kernel_rfl) (by rw [K.hn]; kernel_rfl) (by kernel_rfl) (fun i o ho => ?_) (fun vals w' hF hv => hQ vals w' (Fr.trans' (Fr.refl _ _).drew hF) (hv 7 (by rw [ds30]; simp) rfl))
  have hi : i < 13 := by
    have := (List.getElem?_eq_some_iff.1 ho).1
    rwa [show ops30.length = 13 by kernel_rfl] at this
  have D : ∀ {k : Nat}, Use.depBi ops30 220 i k = true → Use.Dep ops30 a o k := fun h => Use.Dep.at K.hn ho h
  have O7 : ∀ (vals : Nat → Value), (∀ d, Use.late ops30 i d = true → vals d = a.tmps.getD d undef) → Use.late ops30 i 7 = true → (frm a (dsts ops30) vals).eval (.tmp 7) = V := fun vals hl h => Use.eval_old K.hn hl (.inr ⟨by rw [ds30]; simp, by decide, h⟩) K.h7
  have O10 : ∀ (vals : Nat → Value), (∀ d, Use.late ops30 i d = true → vals d = a.tmps.getD d undef) → (frm a (dsts ops30) vals).eval (.tmp 10) = .int .i64 (P : Int) := fun vals hl => Use.eval_old K.hn hl (.inl (by kernel_rfl)) K.h10
  match i, hi, ho with
  | 0, _, ho =>
    obtain ⟨hd, hop, hg⟩ := Use.op_of ho (show _ = some (some 111, .buildSlice AT 0 #[], none) by kernel_rfl)
    refine Use.turns hg 111 hd fun vals w' hF hdp hl => ⟨.slice (some ⟨w'.heap.size, 0, none⟩) 0 0, w'.alloc (.cells #[] AE), ?_, ⟨w'.heap.size, rfl, heap_alloc_new w' _, hF.size⟩, fun e he hne hs hl' hx => ?_, hF.alloc _⟩
    · unfold execOp; simp only [hop]; first | (go_simp; done) | (go_simp; rfl)
    · rw [ds30] at he
      simp only [List.mem_cons, List.not_mem_nil, or_false] at he
      rcases he with rfl | rfl | rfl | rfl | rfl | rfl | rfl | rfl | rfl | rfl | rfl | rfl | rfl
      · exact absurd rfl hne
      · exact hx
      · exact hx
      · exact hx
      · exact Use.ff hl' (by kernel_rfl)
      · exact hx
      · obtain ⟨q, hq, hh⟩ := hx; exact ⟨q, hq, ((Fr.refl (fun _ => False) w').alloc _).heap hh (fun f => f)⟩
      · exact Use.ff hl' (by kernel_rfl)
      · exact hx
      · exact hx
      · exact hx
      · exact World.ownsRow.alloc hx _
      · exact Use.ff hl' (by kernel_rfl)
  | 1, _, ho =>
    obtain ⟨hd, hop, hg⟩ := Use.op_of ho (show _ = some (some 112, .move (.tmp 7), none) by kernel_rfl)
    exact Use.value hg 112 hd fun vals w' hF hdp hl => ⟨V, by have e1 := O7 vals hl (by kernel_rfl); simp only [execOp, hop, e1, Sem.run_pure], rfl⟩
  | 2, _, ho =>
    obtain ⟨hd, hop, hg⟩ := Use.op_of ho (show _ = some (some 113, .move (.tmp 10), none) by kernel_rfl)
    exact Use.value hg 113 hd fun vals w' hF hdp hl => ⟨.int .i64 (P : Int), by have e1 := O10 vals hl; simp only [execOp, hop, e1, Sem.run_pure], rfl⟩
  | 3, _, ho =>
    obtain ⟨hd, hop, hg⟩ := Use.op_of ho (show _ = some (some 114, .slice AT (.tmp 112) none (some (.tmp 113)) none, none) by kernel_rfl)
    exact Use.value hg 114 hd fun vals w' hF hdp hl => ⟨S1, by have e1 : (frm a (dsts ops30) vals).eval (.tmp 112) = V := (D (k := 112) (by kernel_rfl)).eval.trans (hdp 112 (D (k := 112) (by kernel_rfl)).dep (by kernel_rfl)); have e2 : (frm a (dsts ops30) vals).eval (.tmp 113) = .int .i64 (P : Int) := (D (k := 113) (by kernel_rfl)).eval.trans (hdp 113 (D (k := 113) (by kernel_rfl)).dep (by kernel_rfl)); unfold execOp; simp only [hop, Option.map_none, Option.map_some, e1, e2, K.s1, Sem.run_bind, Sem.run_pure, Result.andThen_ok], rfl⟩
  | 4, _, ho =>
    obtain ⟨hd, hop, hg⟩ := Use.op_of ho (show _ = some (some 115, .call { callee := .builtin .append, args := #[.tmp 111, .tmp 114], argTypes := #[AT, AT] }, none) by kernel_rfl)
    have hty : o.type = AT := by
      have h := show (ops30[4]?).map (·.type) = some AT by kernel_rfl
      rw [ho] at h
      simpa using h
    refine Use.turns hg 115 hd fun vals w' hF hdp hl => ?_
    have h1 := (hdp 111 (D (k := 111) (by kernel_rfl)).dep (by kernel_rfl))
    have h2 := (hdp 114 (D (k := 114) (by kernel_rfl)).dep (by kernel_rfl))
    have hown := IsEmpty.owns h1
    have hFu : Fr0 w5 w' := Fr.trans' (Fr.refl _ _).drew hF
    obtain ⟨v', w'', hr, hO, hG⟩ := append_run (P := Try.prog) AT AE _ 32 Try.underlying22 infoA rfl (by decide) (v2 := vals 114) (us := ws.take P) (ws := []) (m := P) hown (by (rw [show vals 114 = S1 from h2]; exact K.v1.fr0 hFu)) (by simp; try omega) (by omega) hF.size
    refine ⟨v', w'', ?_, ?_, fun e he hne hs hl' hx => ?_, fr_grown hF hown hG⟩
    · have e1 := (D (k := 111) (by kernel_rfl)).eval (vals := vals)
      have e2 := (D (k := 114) (by kernel_rfl)).eval (vals := vals)
      simp only [execOp, hop, hty, resolve, invoke, builtin, Sem.run_bind, Sem.run_pure, Result.andThen_ok, List.map_toArray, List.map_cons, List.map_nil, e1, e2, hr]
    · show w''.ownsRow _ AE 3 v' P (wcells (ws.take P)); simpa using hO
    · rw [ds30] at he
      simp only [List.mem_cons, List.not_mem_nil, or_false] at he
      rcases he with rfl | rfl | rfl | rfl | rfl | rfl | rfl | rfl | rfl | rfl | rfl | rfl | rfl
      · exact Use.ff hs (by kernel_rfl)
      · exact hx
      · exact hx
      · exact hx
      · exact absurd rfl hne
      · exact hx
      · obtain ⟨q, hq, hh⟩ := hx; obtain ⟨M, hM, hhM, _⟩ := h1; refine ⟨q, hq, (hG.block q (lt_of_heap hh) (fun e' => ?_)).trans hh⟩; rw [hM] at e'; have e2 : M = q := (by simp [Value.ownBlock] at e'; omega); subst e2; rw [hhM] at hh; simp at hh
      · exact Use.ff hl' (by kernel_rfl)
      · exact hx
      · exact hx
      · exact hx
      · exact Use.ff hl' (by kernel_rfl)
      · exact Use.ff hl' (by kernel_rfl)
  | 5, _, ho =>
    obtain ⟨hd, hop, hg⟩ := Use.op_of ho (show _ = some (some 116, .load AE (.tmp 9), none) by kernel_rfl)
    exact Use.value hg 116 hd fun vals w' hF hdp hl => ⟨.agg #[.int .i64 t.1, .int .i64 t.2.1, .string t.2.2], by have e1 : (frm a (dsts ops30) vals).eval (.tmp 9) = .pointer (some ⟨N, 0, none⟩) := Use.eval_old K.hn hl (.inl (by kernel_rfl)) h9; have hh := hF.heap hN (fun f => f); unfold execOp; simp only [hop, e1, Instr.loadAt, Instr.sureAddr, Sem.run_bind, Sem.run_pure, Result.andThen_ok, run_loadVar_row w' N AE AE _ _ _ hh Try.underlying27 rfl (by kernel_rfl)], rfl⟩
  | 6, _, ho =>
    obtain ⟨hd, hop, hg⟩ := Use.op_of ho (show _ = some (some 117, .buildSlice AT 1 #[(0, .tmp 116)], none) by kernel_rfl)
    refine Use.turns hg 117 hd fun vals w' hF hdp hl => ⟨.slice (some ⟨w'.heap.size, 0, none⟩) 1 1, w'.alloc (.cells #[.int .i64 t.1, .int .i64 t.2.1, .string t.2.2] AE), ?_, ⟨w'.heap.size, rfl, heap_alloc_new w' _⟩, fun e he hne hs hl' hx => ?_, hF.alloc _⟩
    · have e1 : (frm a (dsts ops30) vals).eval (.tmp 116) = .agg #[.int .i64 t.1, .int .i64 t.2.1, .string t.2.2] := (D (k := 116) (by kernel_rfl)).eval.trans (hdp 116 (D (k := 116) (by kernel_rfl)).dep (by kernel_rfl))
      unfold execOp; simp only [hop, List.map_toArray, List.map_cons, List.map_nil, e1]; first | (go_simp; done) | (go_simp; rfl)
    · rw [ds30] at he
      simp only [List.mem_cons, List.not_mem_nil, or_false] at he
      rcases he with rfl | rfl | rfl | rfl | rfl | rfl | rfl | rfl | rfl | rfl | rfl | rfl | rfl
      · obtain ⟨q, hq, hh, hb⟩ := hx; exact ⟨q, hq, ((Fr.refl (fun _ => False) w').alloc _).heap hh (fun f => f), hb⟩
      · exact hx
      · exact hx
      · exact hx
      · exact World.ownsRow.alloc hx _
      · exact hx
      · exact absurd rfl hne
      · exact Use.ff hl' (by kernel_rfl)
      · exact hx
      · exact hx
      · exact hx
      · exact Use.ff hl' (by kernel_rfl)
      · exact Use.ff hl' (by kernel_rfl)
  | 7, _, ho =>
    obtain ⟨hd, hop, hg⟩ := Use.op_of ho (show _ = some (some 118, .call { callee := .builtin .append, args := #[.tmp 115, .tmp 117], argTypes := #[AT, AT] }, none) by kernel_rfl)
    have hty : o.type = AT := by
      have h := show (ops30[7]?).map (·.type) = some AT by kernel_rfl
      rw [ho] at h
      simpa using h
    refine Use.turns hg 118 hd fun vals w' hF hdp hl => ?_
    have h1 := (hdp 115 (D (k := 115) (by kernel_rfl)).dep (by kernel_rfl))
    have h2 := (hdp 117 (D (k := 117) (by kernel_rfl)).dep (by kernel_rfl))
    have hown := (show w'.ownsRow w5.heap.size AE 3 (vals 115) P (wcells (ws.take P)) from h1)
    have hFu : Fr0 w5 w' := Fr.trans' (Fr.refl _ _).drew hF
    obtain ⟨v', w'', hr, hO, hG⟩ := append_run (P := Try.prog) AT AE _ 32 Try.underlying22 infoA rfl (by decide) (v2 := vals 117) (us := [t]) (ws := ws.take P) (m := 1) hown (by (obtain ⟨q, hq, hh⟩ := h2; rw [hq]; exact vals_one w' t AE q 1 hh (Nat.le_refl _))) (by simp; try omega) (by omega) hF.size
    refine ⟨v', w'', ?_, ?_, fun e he hne hs hl' hx => ?_, fr_grown hF hown hG⟩
    · have e1 := (D (k := 115) (by kernel_rfl)).eval (vals := vals)
      have e2 := (D (k := 117) (by kernel_rfl)).eval (vals := vals)
      simp only [execOp, hop, hty, resolve, invoke, builtin, Sem.run_bind, Sem.run_pure, Result.andThen_ok, List.map_toArray, List.map_cons, List.map_nil, e1, e2, hr]
    · exact hO
    · rw [ds30] at he
      simp only [List.mem_cons, List.not_mem_nil, or_false] at he
      rcases he with rfl | rfl | rfl | rfl | rfl | rfl | rfl | rfl | rfl | rfl | rfl | rfl | rfl
      · exact Use.ff hs (by kernel_rfl)
      · exact hx
      · exact hx
      · exact hx
      · exact Use.ff hs (by kernel_rfl)
      · exact hx
      · exact Use.ff hs (by kernel_rfl)
      · exact absurd rfl hne
      · exact hx
      · exact hx
      · exact hx
      · exact Use.ff hl' (by kernel_rfl)
      · exact Use.ff hl' (by kernel_rfl)
  | 8, _, ho =>
    obtain ⟨hd, hop, hg⟩ := Use.op_of ho (show _ = some (some 119, .move (.tmp 7), none) by kernel_rfl)
    exact Use.value hg 119 hd fun vals w' hF hdp hl => ⟨V, by have e1 := O7 vals hl (by kernel_rfl); simp only [execOp, hop, e1, Sem.run_pure], rfl⟩
  | 9, _, ho =>
    obtain ⟨hd, hop, hg⟩ := Use.op_of ho (show _ = some (some 120, .move (.tmp 10), none) by kernel_rfl)
    exact Use.value hg 120 hd fun vals w' hF hdp hl => ⟨.int .i64 (P : Int), by have e1 := O10 vals hl; simp only [execOp, hop, e1, Sem.run_pure], rfl⟩
  | 10, _, ho =>
    obtain ⟨hd, hop, hg⟩ := Use.op_of ho (show _ = some (some 121, .slice AT (.tmp 119) (some (.tmp 120)) none none, none) by kernel_rfl)
    exact Use.value hg 121 hd fun vals w' hF hdp hl => ⟨S2, by have e1 : (frm a (dsts ops30) vals).eval (.tmp 119) = V := (D (k := 119) (by kernel_rfl)).eval.trans (hdp 119 (D (k := 119) (by kernel_rfl)).dep (by kernel_rfl)); have e2 : (frm a (dsts ops30) vals).eval (.tmp 120) = .int .i64 (P : Int) := (D (k := 120) (by kernel_rfl)).eval.trans (hdp 120 (D (k := 120) (by kernel_rfl)).dep (by kernel_rfl)); unfold execOp; simp only [hop, Option.map_none, Option.map_some, e1, e2, K.s2, Sem.run_bind, Sem.run_pure, Result.andThen_ok], rfl⟩
  | 11, _, ho =>
    obtain ⟨hd, hop, hg⟩ := Use.op_of ho (show _ = some (some 122, .call { callee := .builtin .append, args := #[.tmp 118, .tmp 121], argTypes := #[AT, AT] }, none) by kernel_rfl)
    have hty : o.type = AT := by
      have h := show (ops30[11]?).map (·.type) = some AT by kernel_rfl
      rw [ho] at h
      simpa using h
    refine Use.turns hg 122 hd fun vals w' hF hdp hl => ?_
    have h1 := (hdp 118 (D (k := 118) (by kernel_rfl)).dep (by kernel_rfl))
    have h2 := (hdp 121 (D (k := 121) (by kernel_rfl)).dep (by kernel_rfl))
    have hown := (show w'.ownsRow w5.heap.size AE 3 (vals 118) (P + 1) (wcells (ws.take P ++ [t])) from h1)
    have hFu : Fr0 w5 w' := Fr.trans' (Fr.refl _ _).drew hF
    obtain ⟨v', w'', hr, hO, hG⟩ := append_run (P := Try.prog) AT AE _ 32 Try.underlying22 infoA rfl (by decide) (v2 := vals 121) (us := ws.drop P) (ws := ws.take P ++ [t]) (m := n - P) hown (by (rw [show vals 121 = S2 from h2]; exact K.v2.fr0 hFu)) (by simp; try omega) (by omega) hF.size
    refine ⟨v', w'', ?_, ?_, fun e he hne hs hl' hx => ?_, fr_grown hF hown hG⟩
    · have e1 := (D (k := 118) (by kernel_rfl)).eval (vals := vals)
      have e2 := (D (k := 121) (by kernel_rfl)).eval (vals := vals)
      simp only [execOp, hop, hty, resolve, invoke, builtin, Sem.run_bind, Sem.run_pure, Result.andThen_ok, List.map_toArray, List.map_cons, List.map_nil, e1, e2, hr]
    · show w''.ownsRow _ AE 3 v' (n + 1) (wcells (ws.take P ++ t :: ws.drop P)); rw [show n + 1 = P + 1 + (n - P) by omega, show ws.take P ++ t :: ws.drop P = ws.take P ++ [t] ++ ws.drop P by simp]; exact hO
    · rw [ds30] at he
      simp only [List.mem_cons, List.not_mem_nil, or_false] at he
      rcases he with rfl | rfl | rfl | rfl | rfl | rfl | rfl | rfl | rfl | rfl | rfl | rfl | rfl
      · exact Use.ff hs (by kernel_rfl)
      · exact hx
      · exact hx
      · exact hx
      · exact Use.ff hs (by kernel_rfl)
      · exact hx
      · exact Use.ff hs (by kernel_rfl)
      · exact Use.ff hs (by kernel_rfl)
      · exact hx
      · exact hx
      · exact hx
      · exact absurd rfl hne
      · exact Use.ff hl' (by kernel_rfl)
  | 12, _, ho =>
    obtain ⟨hd, hop, hg⟩ := Use.op_of ho (show _ = some (some 7, .assign (.tmp 122), none) by kernel_rfl)
    exact Use.value hg 7 hd fun vals w' hF hdp hl => ⟨vals 122, by have e1 := (D (k := 122) (by kernel_rfl)).eval (vals := vals); simp only [execOp, hop, e1, Sem.run_pure], (hdp 122 (D (k := 122) (by kernel_rfl)).dep (by kernel_rfl))⟩
end Go.Proofs.Ytefebimnebpodaa.Ord
