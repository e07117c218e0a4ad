/-
  ArenaPlays' drawn statement (made by wip/tools/arenaplays.py).
-/
import Derived.Test.YtjpnmkcbkpikoaaAreAwake
import Derived.Test.YtjpnmkcbkpikoaaAreRefIO
import Derived.Test.YtjpnmkcbkpikoaaPhaseW
namespace Go.Proofs.Ytjpnmkcbkpikoaa.Arena
open Go.RowKit Base Pw

def paS (B1 g pb cb B2 h qb db : Nat) (L : List Int) (bs2 : List UInt8) : Keep :=
  ⟨fun k => k = pb ∨ k = qb, fun w => AreP w B1 g pb cb L bs2, fun w => AreR w B2 h qb db L bs2, fun _ _ hf hA => hA.fr0 hf, fun _ _ hf hA => hA.fr0 hf⟩
/-- both arenas, behind so many of the two writes -/
def paJ (B1 g pb cb B2 h qb db : Nat) (L : List Int) (bs bs2 : List UInt8) : Nat → World → Prop
  | 0 => fun w => AreP w B1 g pb cb L bs ∧ AreR w B2 h qb db L bs
  | 1 => fun w => AreP w B1 g pb cb L bs2 ∧ AreR w B2 h qb db L bs
  | 2 => fun w => AreP w B1 g pb cb L bs2 ∧ AreR w B2 h qb db L bs2
  | _ => fun _ => False
theorem paJ_fr0 {B1 g pb cb B2 h qb db : Nat} {L : List Int} {bs bs2 : List UInt8} {k : Nat} {w w' : World} (hF : Fr0 w w') (hJ : paJ B1 g pb cb B2 h qb db L bs bs2 k w) : paJ B1 g pb cb B2 h qb db L bs bs2 k w' := by
  match k, hJ with
  | 0, hJ => exact ⟨hJ.1.fr0 hF, hJ.2.fr0 hF⟩
  | 1, hJ => exact ⟨hJ.1.fr0 hF, hJ.2.fr0 hF⟩
  | 2, hJ => exact ⟨hJ.1.fr0 hF, hJ.2.fr0 hF⟩
structure PaCtx (a : Act) (w5 : World) (B1 g pb cb B2 h qb db xb : Nat) (L : List Int) (bs bs2 : List UInt8) (I At : Int) (V : Value) (ec : Int) : Prop where
  hn : a.tmps.size = 206
  h7 : a.eval (.tmp 7) = .pointer (some ⟨g, 0, none⟩)
  h9 : a.eval (.tmp 9) = .pointer (some ⟨h, 0, none⟩)
  h12 : a.eval (.tmp 12) = .pointer (some ⟨xb, 0, none⟩)
  c1 : ∀ W, Fr (fun k => k = pb ∨ k = qb) w5.drew W → W.cell? ⟨xb, 1, none⟩ = some (.int .i64 I)
  c2 : ∀ W, Fr (fun k => k = pb ∨ k = qb) w5.drew W → W.cell? ⟨xb, 2, none⟩ = some (.int .i64 At)
  c4 : ∀ W, Fr (fun k => k = pb ∨ k = qb) w5.drew W → W.cell? ⟨xb, 4, none⟩ = some V
  n1 : h ≠ pb ∧ qb ≠ pb ∧ db ≠ pb
  n2 : g ≠ qb ∧ pb ≠ qb ∧ cb ≠ qb
  cw : ∀ W, Fr (fun k => k = pb ∨ k = qb) w5.drew W → AreP W B1 g pb cb L bs → Calls Try.prog 10 #[.pointer (some ⟨g, 0, none⟩), .int .i64 I, .int .i64 At, V] W fun e w' => e = .returned (.int .i64 ec) ∧ AreP w' B1 g pb cb L bs2 ∧ Fr1 pb W w'
  cr : ∀ W, Fr (fun k => k = pb ∨ k = qb) w5.drew W → AreR W B2 h qb db L bs → Calls Try.prog 16 #[.pointer (some ⟨h, 0, none⟩), .int .i64 I, .int .i64 At, V] W fun e w' => e = .returned (.int .i64 ec) ∧ AreR w' B2 h qb db L bs2 ∧ Fr1 qb W w'
noncomputable def paOps : List Oper := (((Try.f4.body.bind (regionOps 20))).getD #[]).toList
def paF (B1 g pb cb B2 h qb db xb : Nat) (L : List Int) (bs bs2 : List UInt8) (I At : Int) (V : Value) (ec : Int) : Nat → Fact (paS B1 g pb cb B2 h qb db L bs2)
  | 111 => Fact.is (.pointer (some ⟨g, 0, none⟩))
  | 112 => Fact.is (.pointer (some ⟨xb, 1, none⟩))
  | 113 => Fact.is (.int .i64 I)
  | 114 => Fact.is (.pointer (some ⟨xb, 2, none⟩))
  | 115 => Fact.is (.int .i64 At)
  | 116 => Fact.is (.pointer (some ⟨xb, 4, none⟩))
  | 117 => Fact.is (V)
  | 118 => Fact.isX (.int .i64 ec)
  | 119 => Fact.is (.pointer (some ⟨h, 0, none⟩))
  | 120 => Fact.is (.pointer (some ⟨xb, 1, none⟩))
  | 121 => Fact.is (.int .i64 I)
  | 122 => Fact.is (.pointer (some ⟨xb, 2, none⟩))
  | 123 => Fact.is (.int .i64 At)
  | 124 => Fact.is (.pointer (some ⟨xb, 4, none⟩))
  | 125 => Fact.is (V)
  | 126 => Fact.isY (.int .i64 ec)
  | 127 => Fact.isXY (.bool false)
  | 128 => Fact.isXY (.bool false)
  | 129 => Fact.is (.pointer (some ⟨g, 0, none⟩))
  | 130 => Fact.bytes bs2
  | 131 => Fact.is (.string ⟨(bs2).toArray⟩)
  | 132 => Fact.is (.pointer (some ⟨h, 0, none⟩))
  | 133 => Fact.is (.pointer (some ⟨h, 0, none⟩))
  | 134 => Fact.is (.pointer (some ⟨h, 0, none⟩))
  | 135 => Fact.is (.slice (some ⟨qb, 0, none⟩) bs2.length bs2.length)
  | 136 => Fact.is (.string ⟨bs2.toArray⟩)
  | 137 => Fact.is (.bool false)
  | 138 => Fact.is (.bool false)
  | _ => Fact.any
theorem past0 {Q : Exit → Act → World → Prop} {ac : Act} {w5 : World} {B1 g pb cb B2 h qb db xb : Nat} {L : List Int} {bs bs2 : List UInt8} {I At : Int} {V : Value} {ec : Int} (K : PaCtx ac w5 B1 g pb cb B2 h qb db xb L bs bs2 I At V ec) (o : Oper) (ho : paOps[0]? = some o) (k : Nat) : PStep Try.prog paOps Q (paF B1 g pb cb B2 h qb db xb L bs bs2 I At V ec) ac w5.drew ((paJ B1 g pb cb B2 h qb db L bs bs2) k) ((paJ B1 g pb cb B2 h qb db L bs bs2) k) o := by
  obtain ⟨hd, hop, hg⟩ := op_of ho (show _ = some (some 111, .move (.tmp 7), none) by kernel_rfl)
  exact ph_move (Want.plain hg) 111 hd (.tmp 7) hop _ (Ev.old (by kernel_rfl) K.h7) rfl
theorem past1 {Q : Exit → Act → World → Prop} {ac : Act} {w5 : World} {B1 g pb cb B2 h qb db xb : Nat} {L : List Int} {bs bs2 : List UInt8} {I At : Int} {V : Value} {ec : Int} (K : PaCtx ac w5 B1 g pb cb B2 h qb db xb L bs bs2 I At V ec) (o : Oper) (ho : paOps[1]? = some o) (k : Nat) : PStep Try.prog paOps Q (paF B1 g pb cb B2 h qb db xb L bs bs2 I At V ec) ac w5.drew ((paJ B1 g pb cb B2 h qb db L bs bs2) k) ((paJ B1 g pb cb B2 h qb db L bs bs2) k) o := by
  obtain ⟨hd, hop, hg⟩ := op_of ho (show _ = some (some 112, .fieldAddr 40 (.tmp 12) 1, none) by kernel_rfl)
  exact ph_value (Want.plain hg) 112 hd fun vals w' _ _ hdp => ⟨_, by have e1 : (frm ac (dsts paOps) vals).eval (.tmp 12) = .pointer (some ⟨xb, 0, none⟩) := (Ev.old (F := paF B1 g pb cb B2 h qb db xb L bs bs2 I At V ec) (by kernel_rfl) K.h12) vals w' hdp; unfold execOp; simp only [hop, e1]; go_simp, rfl⟩
theorem past2 {Q : Exit → Act → World → Prop} {ac : Act} {w5 : World} {B1 g pb cb B2 h qb db xb : Nat} {L : List Int} {bs bs2 : List UInt8} {I At : Int} {V : Value} {ec : Int} (K : PaCtx ac w5 B1 g pb cb B2 h qb db xb L bs bs2 I At V ec) (o : Oper) (ho : paOps[2]? = some o) (k : Nat) : PStep Try.prog paOps Q (paF B1 g pb cb B2 h qb db xb L bs bs2 I At V ec) ac w5.drew ((paJ B1 g pb cb B2 h qb db L bs bs2) k) ((paJ B1 g pb cb B2 h qb db L bs bs2) k) o := by
  obtain ⟨hd, hop, hg⟩ := op_of ho (show _ = some (some 113, .load 3 (.tmp 112), none) by kernel_rfl)
  exact ph_value (Want.plain hg) 113 hd fun vals w' hG hJ hdp => ⟨_, by have e1 : (frm ac (dsts paOps) vals).eval (.tmp 112) = .pointer (some ⟨xb, 1, none⟩) := (Ev.dep (F := paF B1 g pb cb B2 h qb db xb L bs bs2 I At V ec) (Dep.at K.hn ho (by kernel_rfl)) rfl) vals w' hdp; have c1 := K.c1 w' hG.fr; unfold execOp; simp only [hop, e1]; go_simp, rfl⟩
theorem past3 {Q : Exit → Act → World → Prop} {ac : Act} {w5 : World} {B1 g pb cb B2 h qb db xb : Nat} {L : List Int} {bs bs2 : List UInt8} {I At : Int} {V : Value} {ec : Int} (K : PaCtx ac w5 B1 g pb cb B2 h qb db xb L bs bs2 I At V ec) (o : Oper) (ho : paOps[3]? = some o) (k : Nat) : PStep Try.prog paOps Q (paF B1 g pb cb B2 h qb db xb L bs bs2 I At V ec) ac w5.drew ((paJ B1 g pb cb B2 h qb db L bs bs2) k) ((paJ B1 g pb cb B2 h qb db L bs bs2) k) o := by
  obtain ⟨hd, hop, hg⟩ := op_of ho (show _ = some (some 114, .fieldAddr 40 (.tmp 12) 2, none) by kernel_rfl)
  exact ph_value (Want.plain hg) 114 hd fun vals w' _ _ hdp => ⟨_, by have e1 : (frm ac (dsts paOps) vals).eval (.tmp 12) = .pointer (some ⟨xb, 0, none⟩) := (Ev.old (F := paF B1 g pb cb B2 h qb db xb L bs bs2 I At V ec) (by kernel_rfl) K.h12) vals w' hdp; unfold execOp; simp only [hop, e1]; go_simp, rfl⟩
theorem past4 {Q : Exit → Act → World → Prop} {ac : Act} {w5 : World} {B1 g pb cb B2 h qb db xb : Nat} {L : List Int} {bs bs2 : List UInt8} {I At : Int} {V : Value} {ec : Int} (K : PaCtx ac w5 B1 g pb cb B2 h qb db xb L bs bs2 I At V ec) (o : Oper) (ho : paOps[4]? = some o) (k : Nat) : PStep Try.prog paOps Q (paF B1 g pb cb B2 h qb db xb L bs bs2 I At V ec) ac w5.drew ((paJ B1 g pb cb B2 h qb db L bs bs2) k) ((paJ B1 g pb cb B2 h qb db L bs bs2) k) o := by
  obtain ⟨hd, hop, hg⟩ := op_of ho (show _ = some (some 115, .load 3 (.tmp 114), none) by kernel_rfl)
  exact ph_value (Want.plain hg) 115 hd fun vals w' hG hJ hdp => ⟨_, by have e1 : (frm ac (dsts paOps) vals).eval (.tmp 114) = .pointer (some ⟨xb, 2, none⟩) := (Ev.dep (F := paF B1 g pb cb B2 h qb db xb L bs bs2 I At V ec) (Dep.at K.hn ho (by kernel_rfl)) rfl) vals w' hdp; have c1 := K.c2 w' hG.fr; unfold execOp; simp only [hop, e1]; go_simp, rfl⟩
theorem past5 {Q : Exit → Act → World → Prop} {ac : Act} {w5 : World} {B1 g pb cb B2 h qb db xb : Nat} {L : List Int} {bs bs2 : List UInt8} {I At : Int} {V : Value} {ec : Int} (K : PaCtx ac w5 B1 g pb cb B2 h qb db xb L bs bs2 I At V ec) (o : Oper) (ho : paOps[5]? = some o) (k : Nat) : PStep Try.prog paOps Q (paF B1 g pb cb B2 h qb db xb L bs bs2 I At V ec) ac w5.drew ((paJ B1 g pb cb B2 h qb db L bs bs2) k) ((paJ B1 g pb cb B2 h qb db L bs bs2) k) o := by
  obtain ⟨hd, hop, hg⟩ := op_of ho (show _ = some (some 116, .fieldAddr 40 (.tmp 12) 4, none) by kernel_rfl)
  exact ph_value (Want.plain hg) 116 hd fun vals w' _ _ hdp => ⟨_, by have e1 : (frm ac (dsts paOps) vals).eval (.tmp 12) = .pointer (some ⟨xb, 0, none⟩) := (Ev.old (F := paF B1 g pb cb B2 h qb db xb L bs bs2 I At V ec) (by kernel_rfl) K.h12) vals w' hdp; unfold execOp; simp only [hop, e1]; go_simp, rfl⟩
theorem past6 {Q : Exit → Act → World → Prop} {ac : Act} {w5 : World} {B1 g pb cb B2 h qb db xb : Nat} {L : List Int} {bs bs2 : List UInt8} {I At : Int} {V : Value} {ec : Int} (K : PaCtx ac w5 B1 g pb cb B2 h qb db xb L bs bs2 I At V ec) (o : Oper) (ho : paOps[6]? = some o) (k : Nat) : PStep Try.prog paOps Q (paF B1 g pb cb B2 h qb db xb L bs bs2 I At V ec) ac w5.drew ((paJ B1 g pb cb B2 h qb db L bs bs2) k) ((paJ B1 g pb cb B2 h qb db L bs bs2) k) o := by
  obtain ⟨hd, hop, hg⟩ := op_of ho (show _ = some (some 117, .load 29 (.tmp 116), none) by kernel_rfl)
  exact ph_value (Want.plain hg) 117 hd fun vals w' hG hJ hdp => ⟨_, by have e1 : (frm ac (dsts paOps) vals).eval (.tmp 116) = .pointer (some ⟨xb, 4, none⟩) := (Ev.dep (F := paF B1 g pb cb B2 h qb db xb L bs bs2 I At V ec) (Dep.at K.hn ho (by kernel_rfl)) rfl) vals w' hdp; have c1 := K.c4 w' hG.fr; unfold execOp; simp only [hop, e1]; go_simp, rfl⟩
theorem past7 {Q : Exit → Act → World → Prop} {ac : Act} {w5 : World} {B1 g pb cb B2 h qb db xb : Nat} {L : List Int} {bs bs2 : List UInt8} {I At : Int} {V : Value} {ec : Int} (K : PaCtx ac w5 B1 g pb cb B2 h qb db xb L bs bs2 I At V ec) (o : Oper) (ho : paOps[7]? = some o) : PStep Try.prog paOps Q (paF B1 g pb cb B2 h qb db xb L bs bs2 I At V ec) ac w5.drew ((paJ B1 g pb cb B2 h qb db L bs bs2) 0) ((paJ B1 g pb cb B2 h qb db L bs bs2) 1) o := by
  obtain ⟨hd, hop, hg⟩ := op_of ho (show _ = some (some 118, .call { callee := .value (.func 10), args := #[(.tmp 111), (.tmp 113), (.tmp 115), (.tmp 117)], argTypes := #[23, 3, 3, 29] }, none) by kernel_rfl)
  exact ph_call (Want.plain hg) 118 hd 10 _ _ hop _ Try.func10 (by kernel_rfl) (by kernel_rfl) #[.pointer (some ⟨g, 0, none⟩), .int .i64 I, .int .i64 At, V] (ev4 (Ev.dep (Dep.at K.hn ho (by kernel_rfl)) rfl) (Ev.dep (Dep.at K.hn ho (by kernel_rfl)) rfl) (Ev.dep (Dep.at K.hn ho (by kernel_rfl)) rfl) (Ev.dep (Dep.at K.hn ho (by kernel_rfl)) rfl)) (fun w' hG hJ => (K.cw w' hG.fr hJ.1).mono fun e' w'' ⟨he, hA, hF⟩ => ⟨_, he, ⟨rfl, hA⟩, ⟨hF.mono (fun j _ h => .inl h), fun _ => hA, fun hy => AreAt.fr hy hF K.n1.1 K.n1.2.1 K.n1.2.2⟩, hA, hJ.2.fr hF K.n1.1 K.n1.2.1 K.n1.2.2⟩)
theorem past8 {Q : Exit → Act → World → Prop} {ac : Act} {w5 : World} {B1 g pb cb B2 h qb db xb : Nat} {L : List Int} {bs bs2 : List UInt8} {I At : Int} {V : Value} {ec : Int} (K : PaCtx ac w5 B1 g pb cb B2 h qb db xb L bs bs2 I At V ec) (o : Oper) (ho : paOps[8]? = some o) (k : Nat) : PStep Try.prog paOps Q (paF B1 g pb cb B2 h qb db xb L bs bs2 I At V ec) ac w5.drew ((paJ B1 g pb cb B2 h qb db L bs bs2) k) ((paJ B1 g pb cb B2 h qb db L bs bs2) k) o := by
  obtain ⟨hd, hop, hg⟩ := op_of ho (show _ = some (some 119, .move (.tmp 9), none) by kernel_rfl)
  exact ph_move (Want.plain hg) 119 hd (.tmp 9) hop _ (Ev.old (by kernel_rfl) K.h9) rfl
theorem past9 {Q : Exit → Act → World → Prop} {ac : Act} {w5 : World} {B1 g pb cb B2 h qb db xb : Nat} {L : List Int} {bs bs2 : List UInt8} {I At : Int} {V : Value} {ec : Int} (K : PaCtx ac w5 B1 g pb cb B2 h qb db xb L bs bs2 I At V ec) (o : Oper) (ho : paOps[9]? = some o) (k : Nat) : PStep Try.prog paOps Q (paF B1 g pb cb B2 h qb db xb L bs bs2 I At V ec) ac w5.drew ((paJ B1 g pb cb B2 h qb db L bs bs2) k) ((paJ B1 g pb cb B2 h qb db L bs bs2) k) o := by
  obtain ⟨hd, hop, hg⟩ := op_of ho (show _ = some (some 120, .fieldAddr 40 (.tmp 12) 1, none) by kernel_rfl)
  exact ph_value (Want.plain hg) 120 hd fun vals w' _ _ hdp => ⟨_, by have e1 : (frm ac (dsts paOps) vals).eval (.tmp 12) = .pointer (some ⟨xb, 0, none⟩) := (Ev.old (F := paF B1 g pb cb B2 h qb db xb L bs bs2 I At V ec) (by kernel_rfl) K.h12) vals w' hdp; unfold execOp; simp only [hop, e1]; go_simp, rfl⟩
theorem past10 {Q : Exit → Act → World → Prop} {ac : Act} {w5 : World} {B1 g pb cb B2 h qb db xb : Nat} {L : List Int} {bs bs2 : List UInt8} {I At : Int} {V : Value} {ec : Int} (K : PaCtx ac w5 B1 g pb cb B2 h qb db xb L bs bs2 I At V ec) (o : Oper) (ho : paOps[10]? = some o) (k : Nat) : PStep Try.prog paOps Q (paF B1 g pb cb B2 h qb db xb L bs bs2 I At V ec) ac w5.drew ((paJ B1 g pb cb B2 h qb db L bs bs2) k) ((paJ B1 g pb cb B2 h qb db L bs bs2) k) o := by
  obtain ⟨hd, hop, hg⟩ := op_of ho (show _ = some (some 121, .load 3 (.tmp 120), none) by kernel_rfl)
  exact ph_value (Want.plain hg) 121 hd fun vals w' hG hJ hdp => ⟨_, by have e1 : (frm ac (dsts paOps) vals).eval (.tmp 120) = .pointer (some ⟨xb, 1, none⟩) := (Ev.dep (F := paF B1 g pb cb B2 h qb db xb L bs bs2 I At V ec) (Dep.at K.hn ho (by kernel_rfl)) rfl) vals w' hdp; have c1 := K.c1 w' hG.fr; unfold execOp; simp only [hop, e1]; go_simp, rfl⟩
theorem past11 {Q : Exit → Act → World → Prop} {ac : Act} {w5 : World} {B1 g pb cb B2 h qb db xb : Nat} {L : List Int} {bs bs2 : List UInt8} {I At : Int} {V : Value} {ec : Int} (K : PaCtx ac w5 B1 g pb cb B2 h qb db xb L bs bs2 I At V ec) (o : Oper) (ho : paOps[11]? = some o) (k : Nat) : PStep Try.prog paOps Q (paF B1 g pb cb B2 h qb db xb L bs bs2 I At V ec) ac w5.drew ((paJ B1 g pb cb B2 h qb db L bs bs2) k) ((paJ B1 g pb cb B2 h qb db L bs bs2) k) o := by
  obtain ⟨hd, hop, hg⟩ := op_of ho (show _ = some (some 122, .fieldAddr 40 (.tmp 12) 2, none) by kernel_rfl)
  exact ph_value (Want.plain hg) 122 hd fun vals w' _ _ hdp => ⟨_, by have e1 : (frm ac (dsts paOps) vals).eval (.tmp 12) = .pointer (some ⟨xb, 0, none⟩) := (Ev.old (F := paF B1 g pb cb B2 h qb db xb L bs bs2 I At V ec) (by kernel_rfl) K.h12) vals w' hdp; unfold execOp; simp only [hop, e1]; go_simp, rfl⟩
theorem past12 {Q : Exit → Act → World → Prop} {ac : Act} {w5 : World} {B1 g pb cb B2 h qb db xb : Nat} {L : List Int} {bs bs2 : List UInt8} {I At : Int} {V : Value} {ec : Int} (K : PaCtx ac w5 B1 g pb cb B2 h qb db xb L bs bs2 I At V ec) (o : Oper) (ho : paOps[12]? = some o) (k : Nat) : PStep Try.prog paOps Q (paF B1 g pb cb B2 h qb db xb L bs bs2 I At V ec) ac w5.drew ((paJ B1 g pb cb B2 h qb db L bs bs2) k) ((paJ B1 g pb cb B2 h qb db L bs bs2) k) o := by
  obtain ⟨hd, hop, hg⟩ := op_of ho (show _ = some (some 123, .load 3 (.tmp 122), none) by kernel_rfl)
  exact ph_value (Want.plain hg) 123 hd fun vals w' hG hJ hdp => ⟨_, by have e1 : (frm ac (dsts paOps) vals).eval (.tmp 122) = .pointer (some ⟨xb, 2, none⟩) := (Ev.dep (F := paF B1 g pb cb B2 h qb db xb L bs bs2 I At V ec) (Dep.at K.hn ho (by kernel_rfl)) rfl) vals w' hdp; have c1 := K.c2 w' hG.fr; unfold execOp; simp only [hop, e1]; go_simp, rfl⟩
theorem past13 {Q : Exit → Act → World → Prop} {ac : Act} {w5 : World} {B1 g pb cb B2 h qb db xb : Nat} {L : List Int} {bs bs2 : List UInt8} {I At : Int} {V : Value} {ec : Int} (K : PaCtx ac w5 B1 g pb cb B2 h qb db xb L bs bs2 I At V ec) (o : Oper) (ho : paOps[13]? = some o) (k : Nat) : PStep Try.prog paOps Q (paF B1 g pb cb B2 h qb db xb L bs bs2 I At V ec) ac w5.drew ((paJ B1 g pb cb B2 h qb db L bs bs2) k) ((paJ B1 g pb cb B2 h qb db L bs bs2) k) o := by
  obtain ⟨hd, hop, hg⟩ := op_of ho (show _ = some (some 124, .fieldAddr 40 (.tmp 12) 4, none) by kernel_rfl)
  exact ph_value (Want.plain hg) 124 hd fun vals w' _ _ hdp => ⟨_, by have e1 : (frm ac (dsts paOps) vals).eval (.tmp 12) = .pointer (some ⟨xb, 0, none⟩) := (Ev.old (F := paF B1 g pb cb B2 h qb db xb L bs bs2 I At V ec) (by kernel_rfl) K.h12) vals w' hdp; unfold execOp; simp only [hop, e1]; go_simp, rfl⟩
theorem past14 {Q : Exit → Act → World → Prop} {ac : Act} {w5 : World} {B1 g pb cb B2 h qb db xb : Nat} {L : List Int} {bs bs2 : List UInt8} {I At : Int} {V : Value} {ec : Int} (K : PaCtx ac w5 B1 g pb cb B2 h qb db xb L bs bs2 I At V ec) (o : Oper) (ho : paOps[14]? = some o) (k : Nat) : PStep Try.prog paOps Q (paF B1 g pb cb B2 h qb db xb L bs bs2 I At V ec) ac w5.drew ((paJ B1 g pb cb B2 h qb db L bs bs2) k) ((paJ B1 g pb cb B2 h qb db L bs bs2) k) o := by
  obtain ⟨hd, hop, hg⟩ := op_of ho (show _ = some (some 125, .load 29 (.tmp 124), none) by kernel_rfl)
  exact ph_value (Want.plain hg) 125 hd fun vals w' hG hJ hdp => ⟨_, by have e1 : (frm ac (dsts paOps) vals).eval (.tmp 124) = .pointer (some ⟨xb, 4, none⟩) := (Ev.dep (F := paF B1 g pb cb B2 h qb db xb L bs bs2 I At V ec) (Dep.at K.hn ho (by kernel_rfl)) rfl) vals w' hdp; have c1 := K.c4 w' hG.fr; unfold execOp; simp only [hop, e1]; go_simp, rfl⟩
theorem past15 {Q : Exit → Act → World → Prop} {ac : Act} {w5 : World} {B1 g pb cb B2 h qb db xb : Nat} {L : List Int} {bs bs2 : List UInt8} {I At : Int} {V : Value} {ec : Int} (K : PaCtx ac w5 B1 g pb cb B2 h qb db xb L bs bs2 I At V ec) (o : Oper) (ho : paOps[15]? = some o) : PStep Try.prog paOps Q (paF B1 g pb cb B2 h qb db xb L bs bs2 I At V ec) ac w5.drew ((paJ B1 g pb cb B2 h qb db L bs bs2) 1) ((paJ B1 g pb cb B2 h qb db L bs bs2) 2) o := by
  obtain ⟨hd, hop, hg⟩ := op_of ho (show _ = some (some 126, .call { callee := .value (.func 16), args := #[(.tmp 119), (.tmp 121), (.tmp 123), (.tmp 125)], argTypes := #[36, 3, 3, 29] }, none) by kernel_rfl)
  exact ph_call (Want.plain hg) 126 hd 16 _ _ hop _ Try.func16 (by kernel_rfl) (by kernel_rfl) #[.pointer (some ⟨h, 0, none⟩), .int .i64 I, .int .i64 At, V] (ev4 (Ev.dep (Dep.at K.hn ho (by kernel_rfl)) rfl) (Ev.dep (Dep.at K.hn ho (by kernel_rfl)) rfl) (Ev.dep (Dep.at K.hn ho (by kernel_rfl)) rfl) (Ev.dep (Dep.at K.hn ho (by kernel_rfl)) rfl)) (fun w' hG hJ => (K.cr w' hG.fr hJ.2).mono fun e' w'' ⟨he, hA, hF⟩ => ⟨_, he, ⟨rfl, hA⟩, ⟨hF.mono (fun j _ h => .inr h), fun hx => AreAt.fr hx hF K.n2.1 K.n2.2.1 K.n2.2.2, fun _ => hA⟩, hJ.1.fr hF K.n2.1 K.n2.2.1 K.n2.2.2, hA⟩)
theorem past16 {Q : Exit → Act → World → Prop} {ac : Act} {w5 : World} {B1 g pb cb B2 h qb db xb : Nat} {L : List Int} {bs bs2 : List UInt8} {I At : Int} {V : Value} {ec : Int} (K : PaCtx ac w5 B1 g pb cb B2 h qb db xb L bs bs2 I At V ec) (o : Oper) (ho : paOps[16]? = some o) (k : Nat) : PStep Try.prog paOps Q (paF B1 g pb cb B2 h qb db xb L bs bs2 I At V ec) ac w5.drew ((paJ B1 g pb cb B2 h qb db L bs bs2) k) ((paJ B1 g pb cb B2 h qb db L bs bs2) k) o := by
  obtain ⟨hd, hop, hg⟩ := op_of ho (show _ = some (some 127, .binOp .neq 24 (.tmp 118) (.tmp 126) 24, none) by kernel_rfl)
  exact ph_value (Want.plain hg) 127 hd fun vals w' _ _ hdp => ⟨.bool false, by have e1 : (frm ac (dsts paOps) vals).eval (.tmp 118) = .int .i64 ec := (Ev.depF (F := paF B1 g pb cb B2 h qb db xb L bs bs2 I At V ec) (k := 118) (Dep.at K.hn ho (by kernel_rfl)) (fun _ _ h => h.1)) vals w' hdp; have e2 : (frm ac (dsts paOps) vals).eval (.tmp 126) = .int .i64 ec := (Ev.depF (F := paF B1 g pb cb B2 h qb db xb L bs bs2 I At V ec) (k := 126) (Dep.at K.hn ho (by kernel_rfl)) (fun _ _ h => h.1)) vals w' hdp; unfold execOp; simp only [hop, e1, e2]; go_simp, rfl, (hdp 118 (Dep.dep (Dep.at K.hn ho (by kernel_rfl)))).2, (hdp 126 (Dep.dep (Dep.at K.hn ho (by kernel_rfl)))).2⟩
theorem past17 {Q : Exit → Act → World → Prop} {ac : Act} {w5 : World} {B1 g pb cb B2 h qb db xb : Nat} {L : List Int} {bs bs2 : List UInt8} {I At : Int} {V : Value} {ec : Int} (K : PaCtx ac w5 B1 g pb cb B2 h qb db xb L bs bs2 I At V ec) (o : Oper) (ho : paOps[17]? = some o) (k : Nat) : PStep Try.prog paOps Q (paF B1 g pb cb B2 h qb db xb L bs bs2 I At V ec) ac w5.drew ((paJ B1 g pb cb B2 h qb db L bs bs2) k) ((paJ B1 g pb cb B2 h qb db L bs bs2) k) o := by
  obtain ⟨hd, hop, hg⟩ := op_of ho (show _ = some (some 128, .move (.tmp 127), none) by kernel_rfl)
  exact ph_value (Want.plain hg) 128 hd fun vals w' _ _ hdp => ⟨.bool false, by have e1 : (frm ac (dsts paOps) vals).eval (.tmp 127) = .bool false := (Ev.depF (F := paF B1 g pb cb B2 h qb db xb L bs bs2 I At V ec) (k := 127) (Dep.at K.hn ho (by kernel_rfl)) (fun _ _ h => h.1)) vals w' hdp; simp only [execOp, hop, e1, Sem.run_pure], rfl, (hdp 127 (Dep.dep (Dep.at K.hn ho (by kernel_rfl)))).2⟩
theorem past18 {Q : Exit → Act → World → Prop} {ac : Act} {w5 : World} {B1 g pb cb B2 h qb db xb : Nat} {L : List Int} {bs bs2 : List UInt8} {I At : Int} {V : Value} {ec : Int} (K : PaCtx ac w5 B1 g pb cb B2 h qb db xb L bs bs2 I At V ec) (o : Oper) (ho : paOps[18]? = some o) (k : Nat) : PStep Try.prog paOps Q (paF B1 g pb cb B2 h qb db xb L bs bs2 I At V ec) ac w5.drew ((paJ B1 g pb cb B2 h qb db L bs bs2) k) ((paJ B1 g pb cb B2 h qb db L bs bs2) k) o := by
  obtain ⟨hd, hop, hg⟩ := op_of ho (show _ = some (some 129, .move (.tmp 7), some (17, false)) by kernel_rfl)
  exact ph_move (Want.depF 17 false 128 hg (by kernel_rfl) (Dep.at K.hn ho (by kernel_rfl)) (fun _ _ h => h.1)) 129 hd (.tmp 7) hop _ (Ev.old (by kernel_rfl) K.h7) rfl
theorem past19 {Q : Exit → Act → World → Prop} {ac : Act} {w5 : World} {B1 g pb cb B2 h qb db xb : Nat} {L : List Int} {bs bs2 : List UInt8} {I At : Int} {V : Value} {ec : Int} (K : PaCtx ac w5 B1 g pb cb B2 h qb db xb L bs bs2 I At V ec) (o : Oper) (ho : paOps[19]? = some o) (k : Nat) : PStep Try.prog paOps Q (paF B1 g pb cb B2 h qb db xb L bs bs2 I At V ec) ac w5.drew ((paJ B1 g pb cb B2 h qb db L bs bs2) k) ((paJ B1 g pb cb B2 h qb db L bs bs2) k) o := by
  obtain ⟨hd, hop, hg⟩ := op_of ho (show _ = some (some 130, .call { callee := .value (.func 13), args := #[(.tmp 129)], argTypes := #[23] }, some (17, false)) by kernel_rfl)
  exact ph_callD (Want.depF 17 false 128 hg (by kernel_rfl) (Dep.at K.hn ho (by kernel_rfl)) (fun _ _ h => h.1)) 130 hd 13 _ _ hop _ Try.func13 (by kernel_rfl) (by kernel_rfl) #[.pointer (some ⟨g, 0, none⟩)] (ev1 (Ev.dep (Dep.at K.hn ho (by kernel_rfl)) rfl)) (fun vals w' hG hJ hdp => (all_new B1 g pb cb L bs2 w' (hdp 128 (Dep.dep (Dep.at K.hn ho (by kernel_rfl)))).2.1).mono fun e' w'' ⟨v, he, hb, hF, hn⟩ => ⟨v, he, ⟨hb, fun a n c hv hs => (by have h1 := hn a n c hv; have h2 := AreAt.pb_lt (hdp 128 (Dep.dep (Dep.at K.hn ho (by kernel_rfl)))).2.1; have h3 := AreAt.pb_lt (hdp 128 (Dep.dep (Dep.at K.hn ho (by kernel_rfl)))).2.2; rcases hs with hs | hs <;> omega)⟩, GB.of_fr0 hF, paJ_fr0 hF hJ⟩)
theorem past20 {Q : Exit → Act → World → Prop} {ac : Act} {w5 : World} {B1 g pb cb B2 h qb db xb : Nat} {L : List Int} {bs bs2 : List UInt8} {I At : Int} {V : Value} {ec : Int} (K : PaCtx ac w5 B1 g pb cb B2 h qb db xb L bs bs2 I At V ec) (o : Oper) (ho : paOps[20]? = some o) (k : Nat) : PStep Try.prog paOps Q (paF B1 g pb cb B2 h qb db xb L bs bs2 I At V ec) ac w5.drew ((paJ B1 g pb cb B2 h qb db L bs bs2) k) ((paJ B1 g pb cb B2 h qb db L bs bs2) k) o := by
  obtain ⟨hd, hop, hg⟩ := op_of ho (show _ = some (some 131, .convert 29 9 (.tmp 130), some (17, false)) by kernel_rfl)
  exact ph_convstr (Want.depF 17 false 128 hg (by kernel_rfl) (Dep.at K.hn ho (by kernel_rfl)) (fun _ _ h => h.1)) 131 130 hd 29 5 9 hop Try.underlying29 Try.underlying5 Try.underlying9 (Dep.at K.hn ho (by kernel_rfl)) bs2 rfl rfl
theorem past21 {Q : Exit → Act → World → Prop} {ac : Act} {w5 : World} {B1 g pb cb B2 h qb db xb : Nat} {L : List Int} {bs bs2 : List UInt8} {I At : Int} {V : Value} {ec : Int} (K : PaCtx ac w5 B1 g pb cb B2 h qb db xb L bs bs2 I At V ec) (o : Oper) (ho : paOps[21]? = some o) (k : Nat) : PStep Try.prog paOps Q (paF B1 g pb cb B2 h qb db xb L bs bs2 I At V ec) ac w5.drew ((paJ B1 g pb cb B2 h qb db L bs bs2) k) ((paJ B1 g pb cb B2 h qb db L bs bs2) k) o := by
  obtain ⟨hd, hop, hg⟩ := op_of ho (show _ = some (some 132, .move (.tmp 9), some (17, false)) by kernel_rfl)
  exact ph_move (Want.depF 17 false 128 hg (by kernel_rfl) (Dep.at K.hn ho (by kernel_rfl)) (fun _ _ h => h.1)) 132 hd (.tmp 9) hop _ (Ev.old (by kernel_rfl) K.h9) rfl
theorem past22 {Q : Exit → Act → World → Prop} {ac : Act} {w5 : World} {B1 g pb cb B2 h qb db xb : Nat} {L : List Int} {bs bs2 : List UInt8} {I At : Int} {V : Value} {ec : Int} (K : PaCtx ac w5 B1 g pb cb B2 h qb db xb L bs bs2 I At V ec) (o : Oper) (ho : paOps[22]? = some o) (k : Nat) : PStep Try.prog paOps Q (paF B1 g pb cb B2 h qb db xb L bs bs2 I At V ec) ac w5.drew ((paJ B1 g pb cb B2 h qb db L bs bs2) k) ((paJ B1 g pb cb B2 h qb db L bs bs2) k) o := by
  obtain ⟨hd, hop, hg⟩ := op_of ho (show _ = some (some 133, .nilCheck (.tmp 132), some (17, false)) by kernel_rfl)
  exact ph_value (Want.depF 17 false 128 hg (by kernel_rfl) (Dep.at K.hn ho (by kernel_rfl)) (fun _ _ h => h.1)) 133 hd fun vals w' _ _ hdp => ⟨_, by have e1 : (frm ac (dsts paOps) vals).eval (.tmp 132) = .pointer (some ⟨h, 0, none⟩) := (Ev.dep (F := paF B1 g pb cb B2 h qb db xb L bs bs2 I At V ec) (Dep.at K.hn ho (by kernel_rfl)) rfl) vals w' hdp; unfold execOp; simp only [hop, e1]; go_simp, rfl⟩
theorem past23 {Q : Exit → Act → World → Prop} {ac : Act} {w5 : World} {B1 g pb cb B2 h qb db xb : Nat} {L : List Int} {bs bs2 : List UInt8} {I At : Int} {V : Value} {ec : Int} (K : PaCtx ac w5 B1 g pb cb B2 h qb db xb L bs bs2 I At V ec) (o : Oper) (ho : paOps[23]? = some o) (k : Nat) : PStep Try.prog paOps Q (paF B1 g pb cb B2 h qb db xb L bs bs2 I At V ec) ac w5.drew ((paJ B1 g pb cb B2 h qb db L bs bs2) k) ((paJ B1 g pb cb B2 h qb db L bs bs2) k) o := by
  obtain ⟨hd, hop, hg⟩ := op_of ho (show _ = some (some 134, .fieldAddr 42 (.tmp 133) 0, some (17, false)) by kernel_rfl)
  exact ph_value (Want.depF 17 false 128 hg (by kernel_rfl) (Dep.at K.hn ho (by kernel_rfl)) (fun _ _ h => h.1)) 134 hd fun vals w' _ _ hdp => ⟨_, by have e1 : (frm ac (dsts paOps) vals).eval (.tmp 133) = .pointer (some ⟨h, 0, none⟩) := (Ev.dep (F := paF B1 g pb cb B2 h qb db xb L bs bs2 I At V ec) (Dep.at K.hn ho (by kernel_rfl)) rfl) vals w' hdp; unfold execOp; simp only [hop, e1]; go_simp, rfl⟩
theorem past24 {Q : Exit → Act → World → Prop} {ac : Act} {w5 : World} {B1 g pb cb B2 h qb db xb : Nat} {L : List Int} {bs bs2 : List UInt8} {I At : Int} {V : Value} {ec : Int} (K : PaCtx ac w5 B1 g pb cb B2 h qb db xb L bs bs2 I At V ec) (o : Oper) (ho : paOps[24]? = some o) (k : Nat) : PStep Try.prog paOps Q (paF B1 g pb cb B2 h qb db xb L bs bs2 I At V ec) ac w5.drew ((paJ B1 g pb cb B2 h qb db L bs bs2) k) ((paJ B1 g pb cb B2 h qb db L bs bs2) k) o := by
  obtain ⟨hd, hop, hg⟩ := op_of ho (show _ = some (some 135, .load 29 (.tmp 134), some (17, false)) by kernel_rfl)
  exact ph_value (Want.depF 17 false 128 hg (by kernel_rfl) (Dep.at K.hn ho (by kernel_rfl)) (fun _ _ h => h.1)) 135 hd fun vals w' hG hJ hdp => ⟨_, by have e1 : (frm ac (dsts paOps) vals).eval (.tmp 134) = .pointer (some ⟨h, 0, none⟩) := (Ev.dep (F := paF B1 g pb cb B2 h qb db xb L bs bs2 I At V ec) (Dep.at K.hn ho (by kernel_rfl)) rfl) vals w' hdp; have c1 := AreAt.cell0 (hdp 128 (Dep.dep (Dep.at K.hn ho (by kernel_rfl)))).2.2; unfold execOp; simp only [hop, e1]; go_simp, rfl⟩
theorem past25 {Q : Exit → Act → World → Prop} {ac : Act} {w5 : World} {B1 g pb cb B2 h qb db xb : Nat} {L : List Int} {bs bs2 : List UInt8} {I At : Int} {V : Value} {ec : Int} (K : PaCtx ac w5 B1 g pb cb B2 h qb db xb L bs bs2 I At V ec) (o : Oper) (ho : paOps[25]? = some o) (k : Nat) : PStep Try.prog paOps Q (paF B1 g pb cb B2 h qb db xb L bs bs2 I At V ec) ac w5.drew ((paJ B1 g pb cb B2 h qb db L bs bs2) k) ((paJ B1 g pb cb B2 h qb db L bs bs2) k) o := by
  obtain ⟨hd, hop, hg⟩ := op_of ho (show _ = some (some 136, .convert 29 9 (.tmp 135), some (17, false)) by kernel_rfl)
  exact ph_value (Want.depF 17 false 128 hg (by kernel_rfl) (Dep.at K.hn ho (by kernel_rfl)) (fun _ _ h => h.1)) 136 hd fun vals w' _ _ hdp => ⟨_, by have e1 : (frm ac (dsts paOps) vals).eval (.tmp 135) = .slice (some ⟨qb, 0, none⟩) bs2.length bs2.length := (Ev.dep (F := paF B1 g pb cb B2 h qb db xb L bs bs2 I At V ec) (Dep.at K.hn ho (by kernel_rfl)) rfl) vals w' hdp; have hc := (AreAt.all (hdp 128 (Dep.dep (Dep.at K.hn ho (by kernel_rfl)))).2.2).convert (P := Try.prog) 29 9 5 Try.underlying29 Try.underlying5 Try.underlying9; simp only [execOp, hop, e1, Sem.run_bind, hc, Result.andThen_ok, Sem.run_pure], rfl⟩
theorem past26 {Q : Exit → Act → World → Prop} {ac : Act} {w5 : World} {B1 g pb cb B2 h qb db xb : Nat} {L : List Int} {bs bs2 : List UInt8} {I At : Int} {V : Value} {ec : Int} (K : PaCtx ac w5 B1 g pb cb B2 h qb db xb L bs bs2 I At V ec) (o : Oper) (ho : paOps[26]? = some o) (k : Nat) : PStep Try.prog paOps Q (paF B1 g pb cb B2 h qb db xb L bs bs2 I At V ec) ac w5.drew ((paJ B1 g pb cb B2 h qb db L bs bs2) k) ((paJ B1 g pb cb B2 h qb db L bs bs2) k) o := by
  obtain ⟨hd, hop, hg⟩ := op_of ho (show _ = some (some 137, .binOp .neq 9 (.tmp 131) (.tmp 136) 9, some (17, false)) by kernel_rfl)
  exact ph_bin (Want.depF 17 false 128 hg (by kernel_rfl) (Dep.at K.hn ho (by kernel_rfl)) (fun _ _ h => h.1)) 137 hd .neq 9 9 (.tmp 131) (.tmp 136) hop (.string ⟨(bs2).toArray⟩) (.string ⟨bs2.toArray⟩) (.bool false) (Ev.dep (Dep.at K.hn ho (by kernel_rfl)) rfl) (Ev.dep (Dep.at K.hn ho (by kernel_rfl)) rfl) rfl (fun w' => by go_simp)
theorem past27 {Q : Exit → Act → World → Prop} {ac : Act} {w5 : World} {B1 g pb cb B2 h qb db xb : Nat} {L : List Int} {bs bs2 : List UInt8} {I At : Int} {V : Value} {ec : Int} (K : PaCtx ac w5 B1 g pb cb B2 h qb db xb L bs bs2 I At V ec) (o : Oper) (ho : paOps[27]? = some o) (k : Nat) : PStep Try.prog paOps Q (paF B1 g pb cb B2 h qb db xb L bs bs2 I At V ec) ac w5.drew ((paJ B1 g pb cb B2 h qb db L bs bs2) k) ((paJ B1 g pb cb B2 h qb db L bs bs2) k) o := by
  obtain ⟨hd, hop, hg⟩ := op_of ho (show _ = some (some 138, .pick (.tmp 128) (.const (.bool true)) (.tmp 137), none) by kernel_rfl)
  exact ph_pick (Want.plain hg) 138 hd (.tmp 128) (.const (.bool true)) (.tmp 137) hop false (.bool false) (Ev.depF (k := 128) (Dep.at K.hn ho (by kernel_rfl)) (fun _ _ h => h.1)) (fun h => by cases h) (fun _ => (Ev.dep (Dep.at K.hn ho (by kernel_rfl)) rfl)) rfl
theorem paLen : paOps.length = 28 := by kernel_rfl
theorem pa_region {Q : Exit → Act → World → Prop} {id : Nat} {ac : Act} {w5 : World} {B1 g pb cb B2 h qb db xb : Nat} {L : List Int} {bs bs2 : List UInt8} {I At : Int} {V : Value} {ec : Int} (K : PaCtx ac w5 B1 g pb cb B2 h qb db xb L bs bs2 I At V ec) (h0 : (paJ B1 g pb cb B2 h qb db L bs bs2) 0 w5.drew)
    (hQ : ∀ (vals : Nat → Value) (w' : World), GB (paS B1 g pb cb B2 h qb db L bs2) w5 w' → (paJ B1 g pb cb B2 h qb db L bs bs2) 2 w' → (∀ d ∈ dsts paOps, (paF B1 g pb cb B2 h qb db xb L bs bs2 I At V ec d).holds (vals d) w') → Q .normal (frm ac (dsts paOps) vals) w') : (Code.region id paOps.toArray true).wp Try.prog Q ac w5 := by
  refine region_phase (paF B1 g pb cb B2 h qb db xb L bs bs2 I At V ec) (paJ B1 g pb cb B2 h qb db L bs bs2) [7, 15] (by kernel_rfl) (by kernel_rfl) (by rw [K.hn]; kernel_rfl) (by kernel_rfl) h0 (fun i o ho hni k hk => ?_) (fun k i o hk ho => ?_) (by rw [paLen]; decide) (fun vals w' hF hJ hv => ?_)
  · have hi : i < 28 := by rw [← paLen]; exact (List.getElem?_eq_some_iff.1 ho).1
    match i, hi, ho with
    | 0, _, ho => exact past0 K o ho k
    | 1, _, ho => exact past1 K o ho k
    | 2, _, ho => exact past2 K o ho k
    | 3, _, ho => exact past3 K o ho k
    | 4, _, ho => exact past4 K o ho k
    | 5, _, ho => exact past5 K o ho k
    | 6, _, ho => exact past6 K o ho k
    | 7, _, ho => exact absurd (by decide) hni
    | 8, _, ho => exact past8 K o ho k
    | 9, _, ho => exact past9 K o ho k
    | 10, _, ho => exact past10 K o ho k
    | 11, _, ho => exact past11 K o ho k
    | 12, _, ho => exact past12 K o ho k
    | 13, _, ho => exact past13 K o ho k
    | 14, _, ho => exact past14 K o ho k
    | 15, _, ho => exact absurd (by decide) hni
    | 16, _, ho => exact past16 K o ho k
    | 17, _, ho => exact past17 K o ho k
    | 18, _, ho => exact past18 K o ho k
    | 19, _, ho => exact past19 K o ho k
    | 20, _, ho => exact past20 K o ho k
    | 21, _, ho => exact past21 K o ho k
    | 22, _, ho => exact past22 K o ho k
    | 23, _, ho => exact past23 K o ho k
    | 24, _, ho => exact past24 K o ho k
    | 25, _, ho => exact past25 K o ho k
    | 26, _, ho => exact past26 K o ho k
    | 27, _, ho => exact past27 K o ho k
  · match k, hk with
    | 0, hk =>
      obtain rfl : 7 = i := Option.some.inj hk
      exact past7 K o ho
    | 1, hk =>
      obtain rfl : 15 = i := Option.some.inj hk
      exact past15 K o ho
    | k + 2, hk => simp at hk
  · exact hQ vals w' (GB.trans (GB.of_fr0 ((Fr.refl _ _).drew)) hF) hJ hv
end Go.Proofs.Ytjpnmkcbkpikoaa.Arena
