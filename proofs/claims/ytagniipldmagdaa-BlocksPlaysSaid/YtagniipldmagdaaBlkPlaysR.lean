/-
  BlocksPlays' drawn statements (made by wip/tools/blkplays.py).
-/
import Derived.Test.YtagniipldmagdaaBlkAwake
import Derived.Test.YtagniipldmagdaaBlkCount
import Derived.Test.YtagniipldmagdaaBlkRefTake
import Derived.Test.YtagniipldmagdaaBlkRefGive
import Derived.Test.YtagniipldmagdaaPhaseW
namespace Go.Proofs.Ytagniipldmagdaa.Blocks
open Go.RowKit Base Arena Pw

def pgS (g qb : Nat) : Keep := ⟨fun k => k = g ∨ k = qb, fun _ => True, fun _ => True, fun _ _ _ h => h, fun _ _ _ h => h⟩
/-- both, behind so many of the two calls -/
def pgJ (B g ob h qb : Nat) (O O2 : List Bool) : Nat → World → Prop
  | 0 => fun w => BlkP w B g ob O ∧ BlkR w B h qb O
  | 1 => fun w => (∃ q, BlkP w B g q O2 ∧ q ≠ h ∧ q ≠ qb) ∧ BlkR w B h qb O
  | 2 => fun w => (∃ q, BlkP w B g q O2 ∧ q ≠ h ∧ q ≠ qb) ∧ BlkR w B h qb O2
  | _ => fun _ => False
structure PgCtx (a : Act) (w5 : World) (B g ob h qb : Nat) (O O2 : List Bool) (V : Value) (ec : Int) (pb po n1 c1 i : Nat) : Prop where
  hn : a.tmps.size = 116
  h1 : a.eval (.tmp 1) = .slice (some ⟨pb, po, none⟩) n1 c1
  h5 : a.eval (.tmp 5) = .pointer (some ⟨g, 0, none⟩)
  h6 : a.eval (.tmp 6) = .pointer (some ⟨h, 0, none⟩)
  h7 : a.eval (.tmp 7) = .int .i64 (i : Int)
  i1 : (i : Int) < (n1 : Int)
  i2 : 0 ≤ (i : Int)
  i3 : n1 ≤ 100
  n1 : h ≠ g ∧ qb ≠ g
  n2 : ob ≠ h ∧ ob ≠ qb
  cell : ∀ W, Fr (fun k => k = g ∨ k = qb) w5.drew W → W.cell? ⟨pb, po + i * 3 + 2, none⟩ = some V
  cp : ∀ W, Fr (fun k => k = g ∨ k = qb) w5.drew W → BlkP W B g ob O → Calls Try.prog 11 #[.pointer (some ⟨g, 0, none⟩), V] W fun e w' => e = .returned (.int .i64 ec) ∧ ∃ q, BlkP w' B g q O2 ∧ (q = ob ∨ W.heap.size ≤ q) ∧ Fr1 g W w'
  cr : ∀ W, Fr (fun k => k = g ∨ k = qb) w5.drew W → BlkR W B h qb O → Calls Try.prog 17 #[.pointer (some ⟨h, 0, none⟩), V] W fun e w' => e = .returned (.int .i64 ec) ∧ BlkR w' B h qb O2 ∧ Fr1 qb W w'
noncomputable def pgOps : List Oper := (((Try.f4.body.bind (regionOps 12))).getD #[]).toList
def pgF (B g ob h qb : Nat) (O O2 : List Bool) (V : Value) (ec : Int) (pb po n1 c1 i : Nat) : Nat → Fact (pgS g qb)
  | 44 => Fact.is (.pointer (some ⟨g, 0, none⟩))
  | 45 => Fact.is (.slice (some ⟨pb, po, none⟩) n1 c1)
  | 46 => Fact.is (.int .i64 (i : Int))
  | 47 => Fact.is (.pointer (some ⟨pb, po + i * 3, none⟩))
  | 48 => Fact.is (.pointer (some ⟨pb, po + i * 3 + 2, none⟩))
  | 49 => Fact.is (V)
  | 50 => Fact.is (.int .i64 ec)
  | 51 => Fact.is (.pointer (some ⟨h, 0, none⟩))
  | 52 => Fact.is (.slice (some ⟨pb, po, none⟩) n1 c1)
  | 53 => Fact.is (.int .i64 (i : Int))
  | 54 => Fact.is (.pointer (some ⟨pb, po + i * 3, none⟩))
  | 55 => Fact.is (.pointer (some ⟨pb, po + i * 3 + 2, none⟩))
  | 56 => Fact.is (V)
  | 57 => Fact.is (.int .i64 ec)
  | 58 => Fact.is (.bool false)
  | _ => Fact.any
theorem pgst0 {Q : Exit → Act → World → Prop} {ac : Act} {w5 : World} {B g ob h qb : Nat} {O O2 : List Bool} {V : Value} {ec : Int} {pb po n1 c1 i : Nat} (K : PgCtx ac w5 B g ob h qb O O2 V ec pb po n1 c1 i) (o : Oper) (ho : pgOps[0]? = some o) (k : Nat) : PStep Try.prog pgOps Q (pgF B g ob h qb O O2 V ec pb po n1 c1 i) ac w5.drew ((pgJ B g ob h qb O O2) k) ((pgJ B g ob h qb O O2) k) o := by
  obtain ⟨hd, hop, hg⟩ := op_of ho (show _ = some (some 44, .move (.tmp 5), none) by kernel_rfl)
  exact ph_move (Want.plain hg) 44 hd (.tmp 5) hop _ (Ev.old (by kernel_rfl) K.h5) rfl
theorem pgst1 {Q : Exit → Act → World → Prop} {ac : Act} {w5 : World} {B g ob h qb : Nat} {O O2 : List Bool} {V : Value} {ec : Int} {pb po n1 c1 i : Nat} (K : PgCtx ac w5 B g ob h qb O O2 V ec pb po n1 c1 i) (o : Oper) (ho : pgOps[1]? = some o) (k : Nat) : PStep Try.prog pgOps Q (pgF B g ob h qb O O2 V ec pb po n1 c1 i) ac w5.drew ((pgJ B g ob h qb O O2) k) ((pgJ B g ob h qb O O2) k) o := by
  obtain ⟨hd, hop, hg⟩ := op_of ho (show _ = some (some 45, .move (.tmp 1), none) by kernel_rfl)
  exact ph_move (Want.plain hg) 45 hd (.tmp 1) hop _ (Ev.old (by kernel_rfl) K.h1) rfl
theorem pgst2 {Q : Exit → Act → World → Prop} {ac : Act} {w5 : World} {B g ob h qb : Nat} {O O2 : List Bool} {V : Value} {ec : Int} {pb po n1 c1 i : Nat} (K : PgCtx ac w5 B g ob h qb O O2 V ec pb po n1 c1 i) (o : Oper) (ho : pgOps[2]? = some o) (k : Nat) : PStep Try.prog pgOps Q (pgF B g ob h qb O O2 V ec pb po n1 c1 i) ac w5.drew ((pgJ B g ob h qb O O2) k) ((pgJ B g ob h qb O O2) k) o := by
  obtain ⟨hd, hop, hg⟩ := op_of ho (show _ = some (some 46, .move (.tmp 7), none) by kernel_rfl)
  exact ph_move (Want.plain hg) 46 hd (.tmp 7) hop _ (Ev.old (by kernel_rfl) K.h7) rfl
theorem pgst3 {Q : Exit → Act → World → Prop} {ac : Act} {w5 : World} {B g ob h qb : Nat} {O O2 : List Bool} {V : Value} {ec : Int} {pb po n1 c1 i : Nat} (K : PgCtx ac w5 B g ob h qb O O2 V ec pb po n1 c1 i) (o : Oper) (ho : pgOps[3]? = some o) (k : Nat) : PStep Try.prog pgOps Q (pgF B g ob h qb O O2 V ec pb po n1 c1 i) ac w5.drew ((pgJ B g ob h qb O O2) k) ((pgJ B g ob h qb O O2) k) o := by
  obtain ⟨hd, hop, hg⟩ := op_of ho (show _ = some (some 47, .indexAddr 34 (.tmp 45) (.tmp 46), none) by kernel_rfl)
  exact ph_value (Want.plain hg) 47 hd fun vals w' _ _ hdp => ⟨_, by have e1 : (frm ac (dsts pgOps) vals).eval (.tmp 45) = .slice (some ⟨pb, po, none⟩) n1 c1 := (Ev.dep (F := pgF B g ob h qb O O2 V ec pb po n1 c1 i) (Dep.at K.hn ho (by kernel_rfl)) rfl) vals w' hdp; have e2 : (frm ac (dsts pgOps) vals).eval (.tmp 46) = .int .i64 (i : Int) := (Ev.dep (F := pgF B g ob h qb O O2 V ec pb po n1 c1 i) (Dep.at K.hn ho (by kernel_rfl)) rfl) vals w' hdp; have h1 := K.i1; have h2 := K.i2; have h3 := K.i3; unfold execOp; simp only [hop, e1, e2]; go_simp, rfl⟩
theorem pgst4 {Q : Exit → Act → World → Prop} {ac : Act} {w5 : World} {B g ob h qb : Nat} {O O2 : List Bool} {V : Value} {ec : Int} {pb po n1 c1 i : Nat} (K : PgCtx ac w5 B g ob h qb O O2 V ec pb po n1 c1 i) (o : Oper) (ho : pgOps[4]? = some o) (k : Nat) : PStep Try.prog pgOps Q (pgF B g ob h qb O O2 V ec pb po n1 c1 i) ac w5.drew ((pgJ B g ob h qb O O2) k) ((pgJ B g ob h qb O O2) k) o := by
  obtain ⟨hd, hop, hg⟩ := op_of ho (show _ = some (some 48, .fieldAddr 38 (.tmp 47) 2, none) by kernel_rfl)
  exact ph_value (Want.plain hg) 48 hd fun vals w' _ _ hdp => ⟨_, by have e1 : (frm ac (dsts pgOps) vals).eval (.tmp 47) = .pointer (some ⟨pb, po + i * 3, none⟩) := (Ev.dep (F := pgF B g ob h qb O O2 V ec pb po n1 c1 i) (Dep.at K.hn ho (by kernel_rfl)) rfl) vals w' hdp; unfold execOp; simp only [hop, e1]; go_simp, rfl⟩
theorem pgst5 {Q : Exit → Act → World → Prop} {ac : Act} {w5 : World} {B g ob h qb : Nat} {O O2 : List Bool} {V : Value} {ec : Int} {pb po n1 c1 i : Nat} (K : PgCtx ac w5 B g ob h qb O O2 V ec pb po n1 c1 i) (o : Oper) (ho : pgOps[5]? = some o) (k : Nat) : PStep Try.prog pgOps Q (pgF B g ob h qb O O2 V ec pb po n1 c1 i) ac w5.drew ((pgJ B g ob h qb O O2) k) ((pgJ B g ob h qb O O2) k) o := by
  obtain ⟨hd, hop, hg⟩ := op_of ho (show _ = some (some 49, .load 25 (.tmp 48), none) by kernel_rfl)
  exact ph_value (Want.plain hg) 49 hd fun vals w' hG hJ hdp => ⟨_, by have e1 : (frm ac (dsts pgOps) vals).eval (.tmp 48) = .pointer (some ⟨pb, po + i * 3 + 2, none⟩) := (Ev.dep (F := pgF B g ob h qb O O2 V ec pb po n1 c1 i) (Dep.at K.hn ho (by kernel_rfl)) rfl) vals w' hdp; have c1 := K.cell w' hG.fr; unfold execOp; simp only [hop, e1]; go_simp, rfl⟩
theorem pgst6 {Q : Exit → Act → World → Prop} {ac : Act} {w5 : World} {B g ob h qb : Nat} {O O2 : List Bool} {V : Value} {ec : Int} {pb po n1 c1 i : Nat} (K : PgCtx ac w5 B g ob h qb O O2 V ec pb po n1 c1 i) (o : Oper) (ho : pgOps[6]? = some o) : PStep Try.prog pgOps Q (pgF B g ob h qb O O2 V ec pb po n1 c1 i) ac w5.drew ((pgJ B g ob h qb O O2) 0) ((pgJ B g ob h qb O O2) 1) o := by
  obtain ⟨hd, hop, hg⟩ := op_of ho (show _ = some (some 50, .call { callee := .value (.func 11), args := #[(.tmp 44), (.tmp 49)], argTypes := #[23, 25] }, none) by kernel_rfl)
  exact ph_call (Want.plain hg) 50 hd 11 _ _ hop _ Try.func11 (by kernel_rfl) (by kernel_rfl) #[.pointer (some ⟨g, 0, none⟩), V] (ev2 (Ev.dep (Dep.at K.hn ho (by kernel_rfl)) rfl) (Ev.dep (Dep.at K.hn ho (by kernel_rfl)) rfl)) (fun w' hG hJ => (K.cp w' hG.fr hJ.1).mono fun e' w'' ⟨he, q, hB, hq, hF⟩ => ⟨_, he, rfl, ⟨hF.mono (fun j _ h => .inl h), fun _ => trivial, fun _ => trivial⟩, ⟨q, hB, (by have h1 := hJ.2.g_lt; have h2 := hJ.2.ob_lt; have h3 := K.n2; rcases hq with rfl | hq <;> omega)⟩, hJ.2.fr hF K.n1.1 K.n1.2⟩)
theorem pgst7 {Q : Exit → Act → World → Prop} {ac : Act} {w5 : World} {B g ob h qb : Nat} {O O2 : List Bool} {V : Value} {ec : Int} {pb po n1 c1 i : Nat} (K : PgCtx ac w5 B g ob h qb O O2 V ec pb po n1 c1 i) (o : Oper) (ho : pgOps[7]? = some o) (k : Nat) : PStep Try.prog pgOps Q (pgF B g ob h qb O O2 V ec pb po n1 c1 i) ac w5.drew ((pgJ B g ob h qb O O2) k) ((pgJ B g ob h qb O O2) k) o := by
  obtain ⟨hd, hop, hg⟩ := op_of ho (show _ = some (some 51, .move (.tmp 6), none) by kernel_rfl)
  exact ph_move (Want.plain hg) 51 hd (.tmp 6) hop _ (Ev.old (by kernel_rfl) K.h6) rfl
theorem pgst8 {Q : Exit → Act → World → Prop} {ac : Act} {w5 : World} {B g ob h qb : Nat} {O O2 : List Bool} {V : Value} {ec : Int} {pb po n1 c1 i : Nat} (K : PgCtx ac w5 B g ob h qb O O2 V ec pb po n1 c1 i) (o : Oper) (ho : pgOps[8]? = some o) (k : Nat) : PStep Try.prog pgOps Q (pgF B g ob h qb O O2 V ec pb po n1 c1 i) ac w5.drew ((pgJ B g ob h qb O O2) k) ((pgJ B g ob h qb O O2) k) o := by
  obtain ⟨hd, hop, hg⟩ := op_of ho (show _ = some (some 52, .move (.tmp 1), none) by kernel_rfl)
  exact ph_move (Want.plain hg) 52 hd (.tmp 1) hop _ (Ev.old (by kernel_rfl) K.h1) rfl
theorem pgst9 {Q : Exit → Act → World → Prop} {ac : Act} {w5 : World} {B g ob h qb : Nat} {O O2 : List Bool} {V : Value} {ec : Int} {pb po n1 c1 i : Nat} (K : PgCtx ac w5 B g ob h qb O O2 V ec pb po n1 c1 i) (o : Oper) (ho : pgOps[9]? = some o) (k : Nat) : PStep Try.prog pgOps Q (pgF B g ob h qb O O2 V ec pb po n1 c1 i) ac w5.drew ((pgJ B g ob h qb O O2) k) ((pgJ B g ob h qb O O2) k) o := by
  obtain ⟨hd, hop, hg⟩ := op_of ho (show _ = some (some 53, .move (.tmp 7), none) by kernel_rfl)
  exact ph_move (Want.plain hg) 53 hd (.tmp 7) hop _ (Ev.old (by kernel_rfl) K.h7) rfl
theorem pgst10 {Q : Exit → Act → World → Prop} {ac : Act} {w5 : World} {B g ob h qb : Nat} {O O2 : List Bool} {V : Value} {ec : Int} {pb po n1 c1 i : Nat} (K : PgCtx ac w5 B g ob h qb O O2 V ec pb po n1 c1 i) (o : Oper) (ho : pgOps[10]? = some o) (k : Nat) : PStep Try.prog pgOps Q (pgF B g ob h qb O O2 V ec pb po n1 c1 i) ac w5.drew ((pgJ B g ob h qb O O2) k) ((pgJ B g ob h qb O O2) k) o := by
  obtain ⟨hd, hop, hg⟩ := op_of ho (show _ = some (some 54, .indexAddr 34 (.tmp 52) (.tmp 53), none) by kernel_rfl)
  exact ph_value (Want.plain hg) 54 hd fun vals w' _ _ hdp => ⟨_, by have e1 : (frm ac (dsts pgOps) vals).eval (.tmp 52) = .slice (some ⟨pb, po, none⟩) n1 c1 := (Ev.dep (F := pgF B g ob h qb O O2 V ec pb po n1 c1 i) (Dep.at K.hn ho (by kernel_rfl)) rfl) vals w' hdp; have e2 : (frm ac (dsts pgOps) vals).eval (.tmp 53) = .int .i64 (i : Int) := (Ev.dep (F := pgF B g ob h qb O O2 V ec pb po n1 c1 i) (Dep.at K.hn ho (by kernel_rfl)) rfl) vals w' hdp; have h1 := K.i1; have h2 := K.i2; have h3 := K.i3; unfold execOp; simp only [hop, e1, e2]; go_simp, rfl⟩
theorem pgst11 {Q : Exit → Act → World → Prop} {ac : Act} {w5 : World} {B g ob h qb : Nat} {O O2 : List Bool} {V : Value} {ec : Int} {pb po n1 c1 i : Nat} (K : PgCtx ac w5 B g ob h qb O O2 V ec pb po n1 c1 i) (o : Oper) (ho : pgOps[11]? = some o) (k : Nat) : PStep Try.prog pgOps Q (pgF B g ob h qb O O2 V ec pb po n1 c1 i) ac w5.drew ((pgJ B g ob h qb O O2) k) ((pgJ B g ob h qb O O2) k) o := by
  obtain ⟨hd, hop, hg⟩ := op_of ho (show _ = some (some 55, .fieldAddr 38 (.tmp 54) 2, none) by kernel_rfl)
  exact ph_value (Want.plain hg) 55 hd fun vals w' _ _ hdp => ⟨_, by have e1 : (frm ac (dsts pgOps) vals).eval (.tmp 54) = .pointer (some ⟨pb, po + i * 3, none⟩) := (Ev.dep (F := pgF B g ob h qb O O2 V ec pb po n1 c1 i) (Dep.at K.hn ho (by kernel_rfl)) rfl) vals w' hdp; unfold execOp; simp only [hop, e1]; go_simp, rfl⟩
theorem pgst12 {Q : Exit → Act → World → Prop} {ac : Act} {w5 : World} {B g ob h qb : Nat} {O O2 : List Bool} {V : Value} {ec : Int} {pb po n1 c1 i : Nat} (K : PgCtx ac w5 B g ob h qb O O2 V ec pb po n1 c1 i) (o : Oper) (ho : pgOps[12]? = some o) (k : Nat) : PStep Try.prog pgOps Q (pgF B g ob h qb O O2 V ec pb po n1 c1 i) ac w5.drew ((pgJ B g ob h qb O O2) k) ((pgJ B g ob h qb O O2) k) o := by
  obtain ⟨hd, hop, hg⟩ := op_of ho (show _ = some (some 56, .load 25 (.tmp 55), none) by kernel_rfl)
  exact ph_value (Want.plain hg) 56 hd fun vals w' hG hJ hdp => ⟨_, by have e1 : (frm ac (dsts pgOps) vals).eval (.tmp 55) = .pointer (some ⟨pb, po + i * 3 + 2, none⟩) := (Ev.dep (F := pgF B g ob h qb O O2 V ec pb po n1 c1 i) (Dep.at K.hn ho (by kernel_rfl)) rfl) vals w' hdp; have c1 := K.cell w' hG.fr; unfold execOp; simp only [hop, e1]; go_simp, rfl⟩
theorem pgst13 {Q : Exit → Act → World → Prop} {ac : Act} {w5 : World} {B g ob h qb : Nat} {O O2 : List Bool} {V : Value} {ec : Int} {pb po n1 c1 i : Nat} (K : PgCtx ac w5 B g ob h qb O O2 V ec pb po n1 c1 i) (o : Oper) (ho : pgOps[13]? = some o) : PStep Try.prog pgOps Q (pgF B g ob h qb O O2 V ec pb po n1 c1 i) ac w5.drew ((pgJ B g ob h qb O O2) 1) ((pgJ B g ob h qb O O2) 2) o := by
  obtain ⟨hd, hop, hg⟩ := op_of ho (show _ = some (some 57, .call { callee := .value (.func 17), args := #[(.tmp 51), (.tmp 56)], argTypes := #[35, 25] }, none) by kernel_rfl)
  exact ph_call (Want.plain hg) 57 hd 17 _ _ hop _ Try.func17 (by kernel_rfl) (by kernel_rfl) #[.pointer (some ⟨h, 0, none⟩), V] (ev2 (Ev.dep (Dep.at K.hn ho (by kernel_rfl)) rfl) (Ev.dep (Dep.at K.hn ho (by kernel_rfl)) rfl)) (fun w' hG hJ => (K.cr w' hG.fr hJ.2).mono fun e' w'' ⟨he, hB, hF⟩ => ⟨_, he, rfl, ⟨hF.mono (fun j _ h => .inr h), fun _ => trivial, fun _ => trivial⟩, (by obtain ⟨q, hq, h1, h2⟩ := hJ.1; exact ⟨q, hq.fr hF (fun e => K.n1.2 e.symm) h2, h1, h2⟩), hB⟩)
theorem pgst14 {Q : Exit → Act → World → Prop} {ac : Act} {w5 : World} {B g ob h qb : Nat} {O O2 : List Bool} {V : Value} {ec : Int} {pb po n1 c1 i : Nat} (K : PgCtx ac w5 B g ob h qb O O2 V ec pb po n1 c1 i) (o : Oper) (ho : pgOps[14]? = some o) (k : Nat) : PStep Try.prog pgOps Q (pgF B g ob h qb O O2 V ec pb po n1 c1 i) ac w5.drew ((pgJ B g ob h qb O O2) k) ((pgJ B g ob h qb O O2) k) o := by
  obtain ⟨hd, hop, hg⟩ := op_of ho (show _ = some (some 58, .binOp .neq 26 (.tmp 50) (.tmp 57) 26, none) by kernel_rfl)
  exact ph_bin (Want.plain hg) 58 hd .neq 26 26 (.tmp 50) (.tmp 57) hop (.int .i64 ec) (.int .i64 ec) (.bool false) (Ev.dep (Dep.at K.hn ho (by kernel_rfl)) rfl) (Ev.dep (Dep.at K.hn ho (by kernel_rfl)) rfl) rfl (fun w' => by go_simp)
theorem pgLen : pgOps.length = 15 := by kernel_rfl
theorem pg_region {Q : Exit → Act → World → Prop} {id : Nat} {ac : Act} {w5 : World} {B g ob h qb : Nat} {O O2 : List Bool} {V : Value} {ec : Int} {pb po n1 c1 i : Nat} (K : PgCtx ac w5 B g ob h qb O O2 V ec pb po n1 c1 i) (h0 : (pgJ B g ob h qb O O2) 0 w5.drew)
    (hQ : ∀ (vals : Nat → Value) (w' : World), GB (pgS g qb) w5 w' → (pgJ B g ob h qb O O2) 2 w' → (∀ d ∈ dsts pgOps, (pgF B g ob h qb O O2 V ec pb po n1 c1 i d).holds (vals d) w') → Q .normal (frm ac (dsts pgOps) vals) w') : (Code.region id pgOps.toArray true).wp Try.prog Q ac w5 := by
  refine region_phase (pgF B g ob h qb O O2 V ec pb po n1 c1 i) (pgJ B g ob h qb O O2) [6, 13] (by kernel_rfl) (by kernel_rfl) (by rw [K.hn]; kernel_rfl) (by kernel_rfl) h0 (fun i o ho hni k hk => ?_) (fun k i o hk ho => ?_) (by rw [pgLen]; decide) (fun vals w' hF hJ hv => ?_)
  · have hi : i < 15 := by rw [← pgLen]; exact (List.getElem?_eq_some_iff.1 ho).1
    match i, hi, ho with
    | 0, _, ho => exact pgst0 K o ho k
    | 1, _, ho => exact pgst1 K o ho k
    | 2, _, ho => exact pgst2 K o ho k
    | 3, _, ho => exact pgst3 K o ho k
    | 4, _, ho => exact pgst4 K o ho k
    | 5, _, ho => exact pgst5 K o ho k
    | 6, _, ho => exact absurd (by decide) hni
    | 7, _, ho => exact pgst7 K o ho k
    | 8, _, ho => exact pgst8 K o ho k
    | 9, _, ho => exact pgst9 K o ho k
    | 10, _, ho => exact pgst10 K o ho k
    | 11, _, ho => exact pgst11 K o ho k
    | 12, _, ho => exact pgst12 K o ho k
    | 13, _, ho => exact absurd (by decide) hni
    | 14, _, ho => exact pgst14 K o ho k
  · match k, hk with
    | 0, hk =>
      obtain rfl : 6 = i := Option.some.inj hk
      exact pgst6 K o ho
    | 1, hk =>
      obtain rfl : 13 = i := Option.some.inj hk
      exact pgst13 K o ho
    | k + 2, hk => simp at hk
  · exact hQ vals w' (GB.trans (GB.of_fr0 ((Fr.refl _ _).drew)) hF) hJ hv
def pqS : Keep := ⟨fun _ => False, fun _ => True, fun _ => True, fun _ _ _ h => h, fun _ _ _ h => h⟩
structure PqCtx (a : Act) (w5 : World) (B g ob h qb : Nat) (O : List Bool) (C : Nat) : Prop where
  hn : a.tmps.size = 116
  h5 : a.eval (.tmp 5) = .pointer (some ⟨g, 0, none⟩)
  h6 : a.eval (.tmp 6) = .pointer (some ⟨h, 0, none⟩)
  ln : (nints (outs O)).length ≤ 9223372036854775807
  lb : ∀ n ∈ nints (outs O), -9223372036854775808 ≤ n ∧ n ≤ 9223372036854775807
  c0 : ∀ W, Fr (fun _ => False) w5.drew W → W.cell? ⟨h, 0, none⟩ = some (.slice (some ⟨qb, 0, none⟩) O.length C)
noncomputable def pqOps : List Oper := (((Try.f4.body.bind (regionOps 18))).getD #[]).toList
def pqF (B g ob h qb : Nat) (O : List Bool) (C : Nat) : Nat → Fact pqS
  | 88 => Fact.is (.pointer (some ⟨g, 0, none⟩))
  | 89 => Fact.ints (nints (outs O))
  | 90 => Fact.is (.pointer (some ⟨h, 0, none⟩))
  | 91 => Fact.ints (nints (outs O))
  | 92 => Fact.is (.bool true)
  | 93 => Fact.is (.bool false)
  | 94 => Fact.is (.bool false)
  | 95 => Fact.is (.pointer (some ⟨g, 0, none⟩))
  | 96 => Fact.is (.int .i64 ((frees O).length : Int))
  | 97 => Fact.is (.pointer (some ⟨h, 0, none⟩))
  | 98 => Fact.is (.int .i64 ((frees O).length : Int))
  | 99 => Fact.is (.bool false)
  | 100 => Fact.is (.bool false)
  | 101 => Fact.is (.bool false)
  | 102 => Fact.is (.pointer (some ⟨g, 0, none⟩))
  | 103 => Fact.is (.int .i64 (O.length : Int))
  | 104 => Fact.is (.pointer (some ⟨h, 0, none⟩))
  | 105 => Fact.is (.pointer (some ⟨h, 0, none⟩))
  | 106 => Fact.is (.pointer (some ⟨h, 0, none⟩))
  | 107 => Fact.is (.slice (some ⟨qb, 0, none⟩) O.length C)
  | 108 => Fact.is (.int .i64 (O.length : Int))
  | 109 => Fact.is (.bool false)
  | 110 => Fact.is (.bool false)
  | _ => Fact.any
theorem pqst0 {Q : Exit → Act → World → Prop} {ac : Act} {w5 : World} {B g ob h qb : Nat} {O : List Bool} {C : Nat} (K : PqCtx ac w5 B g ob h qb O C) (o : Oper) (ho : pqOps[0]? = some o) (k : Nat) : PStep Try.prog pqOps Q (pqF B g ob h qb O C) ac w5.drew ((fun _ w => BlkP w B g ob O ∧ BlkR w B h qb O) k) ((fun _ w => BlkP w B g ob O ∧ BlkR w B h qb O) k) o := by
  obtain ⟨hd, hop, hg⟩ := op_of ho (show _ = some (some 88, .move (.tmp 5), none) by kernel_rfl)
  exact ph_move (Want.plain hg) 88 hd (.tmp 5) hop _ (Ev.old (by kernel_rfl) K.h5) rfl
theorem pqst1 {Q : Exit → Act → World → Prop} {ac : Act} {w5 : World} {B g ob h qb : Nat} {O : List Bool} {C : Nat} (K : PqCtx ac w5 B g ob h qb O C) (o : Oper) (ho : pqOps[1]? = some o) (k : Nat) : PStep Try.prog pqOps Q (pqF B g ob h qb O C) ac w5.drew ((fun _ w => BlkP w B g ob O ∧ BlkR w B h qb O) k) ((fun _ w => BlkP w B g ob O ∧ BlkR w B h qb O) k) o := by
  obtain ⟨hd, hop, hg⟩ := op_of ho (show _ = some (some 89, .call { callee := .value (.func 13), args := #[(.tmp 88)], argTypes := #[23] }, none) by kernel_rfl)
  exact ph_call (Want.plain hg) 89 hd 13 _ _ hop _ Try.func13 (by kernel_rfl) (by kernel_rfl) #[.pointer (some ⟨g, 0, none⟩)] (ev1 (Ev.dep (Dep.at K.hn ho (by kernel_rfl)) rfl)) (fun w' hG hJ => (list_any _ g ob O w' hJ.1).mono fun e' w'' ⟨v, he, hI, hF, _⟩ => ⟨v, he, ⟨hI, fun _ _ _ _ h => h⟩, GB.of_fr0 hF, ⟨hJ.1.fr0 hF, hJ.2.fr0 hF⟩⟩)
theorem pqst2 {Q : Exit → Act → World → Prop} {ac : Act} {w5 : World} {B g ob h qb : Nat} {O : List Bool} {C : Nat} (K : PqCtx ac w5 B g ob h qb O C) (o : Oper) (ho : pqOps[2]? = some o) (k : Nat) : PStep Try.prog pqOps Q (pqF B g ob h qb O C) ac w5.drew ((fun _ w => BlkP w B g ob O ∧ BlkR w B h qb O) k) ((fun _ w => BlkP w B g ob O ∧ BlkR w B h qb O) k) o := by
  obtain ⟨hd, hop, hg⟩ := op_of ho (show _ = some (some 90, .move (.tmp 6), none) by kernel_rfl)
  exact ph_move (Want.plain hg) 90 hd (.tmp 6) hop _ (Ev.old (by kernel_rfl) K.h6) rfl
theorem pqst3 {Q : Exit → Act → World → Prop} {ac : Act} {w5 : World} {B g ob h qb : Nat} {O : List Bool} {C : Nat} (K : PqCtx ac w5 B g ob h qb O C) (o : Oper) (ho : pqOps[3]? = some o) (k : Nat) : PStep Try.prog pqOps Q (pqF B g ob h qb O C) ac w5.drew ((fun _ w => BlkP w B g ob O ∧ BlkR w B h qb O) k) ((fun _ w => BlkP w B g ob O ∧ BlkR w B h qb O) k) o := by
  obtain ⟨hd, hop, hg⟩ := op_of ho (show _ = some (some 91, .call { callee := .value (.func 19), args := #[(.tmp 90)], argTypes := #[35] }, none) by kernel_rfl)
  exact ph_call (Want.plain hg) 91 hd 19 _ _ hop _ Try.func19 (by kernel_rfl) (by kernel_rfl) #[.pointer (some ⟨h, 0, none⟩)] (ev1 (Ev.dep (Dep.at K.hn ho (by kernel_rfl)) rfl)) (fun w' hG hJ => (refList_any _ h qb O w' hJ.2).mono fun e' w'' ⟨v, he, hI, hF, _⟩ => ⟨v, he, ⟨hI, fun _ _ _ _ h => h⟩, GB.of_fr0 hF, ⟨hJ.1.fr0 hF, hJ.2.fr0 hF⟩⟩)
theorem pqst4 {Q : Exit → Act → World → Prop} {ac : Act} {w5 : World} {B g ob h qb : Nat} {O : List Bool} {C : Nat} (K : PqCtx ac w5 B g ob h qb O C) (o : Oper) (ho : pqOps[4]? = some o) (k : Nat) : PStep Try.prog pqOps Q (pqF B g ob h qb O C) ac w5.drew ((fun _ w => BlkP w B g ob O ∧ BlkR w B h qb O) k) ((fun _ w => BlkP w B g ob O ∧ BlkR w B h qb O) k) o := by
  obtain ⟨hd, hop, hg⟩ := op_of ho (show _ = some (some 92, .call { callee := .value (.func 12), args := #[.tmp 89, .tmp 91], argTypes := #[25, 25] }, none) by kernel_rfl)
  exact ph_callV (Want.plain hg) 92 hd 12 _ _ hop _ Try.func12 (by kernel_rfl) (by kernel_rfl) (fun vals => #[vals 89, vals 91]) (fun vals w' hdp => by simp [(show Dep pqOps ac o 89 from (Dep.at K.hn ho (by kernel_rfl))).eval (vals := vals), (show Dep pqOps ac o 91 from (Dep.at K.hn ho (by kernel_rfl))).eval (vals := vals)]) (fun vals w' hG hJ hdp => (alike_any _ _ (nints (outs O)) (nints (outs O)) K.ln K.lb w' (hdp 89 (show Dep pqOps ac o 89 from (Dep.at K.hn ho (by kernel_rfl))).dep).1 (hdp 91 (show Dep pqOps ac o 91 from (Dep.at K.hn ho (by kernel_rfl))).dep).1).mono fun e' w'' ⟨he, hF⟩ => ⟨_, he, by rw [nints_dec]; rfl, GB.of_fr0 hF, ⟨hJ.1.fr0 hF, hJ.2.fr0 hF⟩⟩)
theorem pqst5 {Q : Exit → Act → World → Prop} {ac : Act} {w5 : World} {B g ob h qb : Nat} {O : List Bool} {C : Nat} (K : PqCtx ac w5 B g ob h qb O C) (o : Oper) (ho : pqOps[5]? = some o) (k : Nat) : PStep Try.prog pqOps Q (pqF B g ob h qb O C) ac w5.drew ((fun _ w => BlkP w B g ob O ∧ BlkR w B h qb O) k) ((fun _ w => BlkP w B g ob O ∧ BlkR w B h qb O) k) o := by
  obtain ⟨hd, hop, hg⟩ := op_of ho (show _ = some (some 93, .unOp .not 4 (.tmp 92), none) by kernel_rfl)
  exact ph_not (Want.plain hg) 93 hd _ (.tmp 92) hop true (Ev.dep (Dep.at K.hn ho (by kernel_rfl)) rfl) rfl
theorem pqst6 {Q : Exit → Act → World → Prop} {ac : Act} {w5 : World} {B g ob h qb : Nat} {O : List Bool} {C : Nat} (K : PqCtx ac w5 B g ob h qb O C) (o : Oper) (ho : pqOps[6]? = some o) (k : Nat) : PStep Try.prog pqOps Q (pqF B g ob h qb O C) ac w5.drew ((fun _ w => BlkP w B g ob O ∧ BlkR w B h qb O) k) ((fun _ w => BlkP w B g ob O ∧ BlkR w B h qb O) k) o := by
  obtain ⟨hd, hop, hg⟩ := op_of ho (show _ = some (some 94, .move (.tmp 93), none) by kernel_rfl)
  exact ph_move (Want.plain hg) 94 hd (.tmp 93) hop _ (Ev.dep (Dep.at K.hn ho (by kernel_rfl)) rfl) rfl
theorem pqst7 {Q : Exit → Act → World → Prop} {ac : Act} {w5 : World} {B g ob h qb : Nat} {O : List Bool} {C : Nat} (K : PqCtx ac w5 B g ob h qb O C) (o : Oper) (ho : pqOps[7]? = some o) (k : Nat) : PStep Try.prog pqOps Q (pqF B g ob h qb O C) ac w5.drew ((fun _ w => BlkP w B g ob O ∧ BlkR w B h qb O) k) ((fun _ w => BlkP w B g ob O ∧ BlkR w B h qb O) k) o := by
  obtain ⟨hd, hop, hg⟩ := op_of ho (show _ = some (some 95, .move (.tmp 5), some (6, false)) by kernel_rfl)
  exact ph_move (Want.dep 6 false 94 hg (by kernel_rfl) (Dep.at K.hn ho (by kernel_rfl)) rfl) 95 hd (.tmp 5) hop _ (Ev.old (by kernel_rfl) K.h5) rfl
theorem pqst8 {Q : Exit → Act → World → Prop} {ac : Act} {w5 : World} {B g ob h qb : Nat} {O : List Bool} {C : Nat} (K : PqCtx ac w5 B g ob h qb O C) (o : Oper) (ho : pqOps[8]? = some o) (k : Nat) : PStep Try.prog pqOps Q (pqF B g ob h qb O C) ac w5.drew ((fun _ w => BlkP w B g ob O ∧ BlkR w B h qb O) k) ((fun _ w => BlkP w B g ob O ∧ BlkR w B h qb O) k) o := by
  obtain ⟨hd, hop, hg⟩ := op_of ho (show _ = some (some 96, .call { callee := .value (.func 20), args := #[(.tmp 95)], argTypes := #[23] }, some (6, false)) by kernel_rfl)
  exact ph_call (Want.dep 6 false 94 hg (by kernel_rfl) (Dep.at K.hn ho (by kernel_rfl)) rfl) 96 hd 20 _ _ hop _ Try.func20 (by kernel_rfl) (by kernel_rfl) #[.pointer (some ⟨g, 0, none⟩)] (ev1 (Ev.dep (Dep.at K.hn ho (by kernel_rfl)) rfl)) (fun w' hG hJ => (free_any _ g ob O w' hJ.1).mono fun e' w'' ⟨he, hF⟩ => ⟨_, he, rfl, GB.of_fr0 hF, ⟨hJ.1.fr0 hF, hJ.2.fr0 hF⟩⟩)
theorem pqst9 {Q : Exit → Act → World → Prop} {ac : Act} {w5 : World} {B g ob h qb : Nat} {O : List Bool} {C : Nat} (K : PqCtx ac w5 B g ob h qb O C) (o : Oper) (ho : pqOps[9]? = some o) (k : Nat) : PStep Try.prog pqOps Q (pqF B g ob h qb O C) ac w5.drew ((fun _ w => BlkP w B g ob O ∧ BlkR w B h qb O) k) ((fun _ w => BlkP w B g ob O ∧ BlkR w B h qb O) k) o := by
  obtain ⟨hd, hop, hg⟩ := op_of ho (show _ = some (some 97, .move (.tmp 6), some (6, false)) by kernel_rfl)
  exact ph_move (Want.dep 6 false 94 hg (by kernel_rfl) (Dep.at K.hn ho (by kernel_rfl)) rfl) 97 hd (.tmp 6) hop _ (Ev.old (by kernel_rfl) K.h6) rfl
theorem pqst10 {Q : Exit → Act → World → Prop} {ac : Act} {w5 : World} {B g ob h qb : Nat} {O : List Bool} {C : Nat} (K : PqCtx ac w5 B g ob h qb O C) (o : Oper) (ho : pqOps[10]? = some o) (k : Nat) : PStep Try.prog pqOps Q (pqF B g ob h qb O C) ac w5.drew ((fun _ w => BlkP w B g ob O ∧ BlkR w B h qb O) k) ((fun _ w => BlkP w B g ob O ∧ BlkR w B h qb O) k) o := by
  obtain ⟨hd, hop, hg⟩ := op_of ho (show _ = some (some 98, .call { callee := .value (.func 21), args := #[(.tmp 97)], argTypes := #[35] }, some (6, false)) by kernel_rfl)
  exact ph_call (Want.dep 6 false 94 hg (by kernel_rfl) (Dep.at K.hn ho (by kernel_rfl)) rfl) 98 hd 21 _ _ hop _ Try.func21 (by kernel_rfl) (by kernel_rfl) #[.pointer (some ⟨h, 0, none⟩)] (ev1 (Ev.dep (Dep.at K.hn ho (by kernel_rfl)) rfl)) (fun w' hG hJ => (refFree_any _ h qb O w' hJ.2).mono fun e' w'' ⟨he, hw⟩ => ⟨_, he, rfl, by subst hw; exact GB.refl _ _, by subst hw; exact hJ⟩)
theorem pqst11 {Q : Exit → Act → World → Prop} {ac : Act} {w5 : World} {B g ob h qb : Nat} {O : List Bool} {C : Nat} (K : PqCtx ac w5 B g ob h qb O C) (o : Oper) (ho : pqOps[11]? = some o) (k : Nat) : PStep Try.prog pqOps Q (pqF B g ob h qb O C) ac w5.drew ((fun _ w => BlkP w B g ob O ∧ BlkR w B h qb O) k) ((fun _ w => BlkP w B g ob O ∧ BlkR w B h qb O) k) o := by
  obtain ⟨hd, hop, hg⟩ := op_of ho (show _ = some (some 99, .binOp .neq 3 (.tmp 96) (.tmp 98) 3, some (6, false)) by kernel_rfl)
  exact ph_bin (Want.dep 6 false 94 hg (by kernel_rfl) (Dep.at K.hn ho (by kernel_rfl)) rfl) 99 hd .neq 3 3 (.tmp 96) (.tmp 98) hop (.int .i64 ((frees O).length : Int)) (.int .i64 ((frees O).length : Int)) (.bool false) (Ev.dep (Dep.at K.hn ho (by kernel_rfl)) rfl) (Ev.dep (Dep.at K.hn ho (by kernel_rfl)) rfl) rfl (fun w' => by go_simp)
theorem pqst12 {Q : Exit → Act → World → Prop} {ac : Act} {w5 : World} {B g ob h qb : Nat} {O : List Bool} {C : Nat} (K : PqCtx ac w5 B g ob h qb O C) (o : Oper) (ho : pqOps[12]? = some o) (k : Nat) : PStep Try.prog pqOps Q (pqF B g ob h qb O C) ac w5.drew ((fun _ w => BlkP w B g ob O ∧ BlkR w B h qb O) k) ((fun _ w => BlkP w B g ob O ∧ BlkR w B h qb O) k) o := by
  obtain ⟨hd, hop, hg⟩ := op_of ho (show _ = some (some 100, .pick (.tmp 94) (.const (.bool true)) (.tmp 99), none) by kernel_rfl)
  exact ph_pick (Want.plain hg) 100 hd (.tmp 94) (.const (.bool true)) (.tmp 99) hop false (.bool false) (Ev.dep (Dep.at K.hn ho (by kernel_rfl)) rfl) (fun h => by cases h) (fun _ => (Ev.dep (Dep.at K.hn ho (by kernel_rfl)) rfl)) rfl
theorem pqst13 {Q : Exit → Act → World → Prop} {ac : Act} {w5 : World} {B g ob h qb : Nat} {O : List Bool} {C : Nat} (K : PqCtx ac w5 B g ob h qb O C) (o : Oper) (ho : pqOps[13]? = some o) (k : Nat) : PStep Try.prog pqOps Q (pqF B g ob h qb O C) ac w5.drew ((fun _ w => BlkP w B g ob O ∧ BlkR w B h qb O) k) ((fun _ w => BlkP w B g ob O ∧ BlkR w B h qb O) k) o := by
  obtain ⟨hd, hop, hg⟩ := op_of ho (show _ = some (some 101, .move (.tmp 100), none) by kernel_rfl)
  exact ph_move (Want.plain hg) 101 hd (.tmp 100) hop _ (Ev.dep (Dep.at K.hn ho (by kernel_rfl)) rfl) rfl
theorem pqst14 {Q : Exit → Act → World → Prop} {ac : Act} {w5 : World} {B g ob h qb : Nat} {O : List Bool} {C : Nat} (K : PqCtx ac w5 B g ob h qb O C) (o : Oper) (ho : pqOps[14]? = some o) (k : Nat) : PStep Try.prog pqOps Q (pqF B g ob h qb O C) ac w5.drew ((fun _ w => BlkP w B g ob O ∧ BlkR w B h qb O) k) ((fun _ w => BlkP w B g ob O ∧ BlkR w B h qb O) k) o := by
  obtain ⟨hd, hop, hg⟩ := op_of ho (show _ = some (some 102, .move (.tmp 5), some (13, false)) by kernel_rfl)
  exact ph_move (Want.dep 13 false 101 hg (by kernel_rfl) (Dep.at K.hn ho (by kernel_rfl)) rfl) 102 hd (.tmp 5) hop _ (Ev.old (by kernel_rfl) K.h5) rfl
theorem pqst15 {Q : Exit → Act → World → Prop} {ac : Act} {w5 : World} {B g ob h qb : Nat} {O : List Bool} {C : Nat} (K : PqCtx ac w5 B g ob h qb O C) (o : Oper) (ho : pqOps[15]? = some o) (k : Nat) : PStep Try.prog pqOps Q (pqF B g ob h qb O C) ac w5.drew ((fun _ w => BlkP w B g ob O ∧ BlkR w B h qb O) k) ((fun _ w => BlkP w B g ob O ∧ BlkR w B h qb O) k) o := by
  obtain ⟨hd, hop, hg⟩ := op_of ho (show _ = some (some 103, .call { callee := .value (.func 14), args := #[(.tmp 102)], argTypes := #[23] }, some (13, false)) by kernel_rfl)
  exact ph_call (Want.dep 13 false 101 hg (by kernel_rfl) (Dep.at K.hn ho (by kernel_rfl)) rfl) 103 hd 14 _ _ hop _ Try.func14 (by kernel_rfl) (by kernel_rfl) #[.pointer (some ⟨g, 0, none⟩)] (ev1 (Ev.dep (Dep.at K.hn ho (by kernel_rfl)) rfl)) (fun w' hG hJ => (all_any _ g ob O w' hJ.1).mono fun e' w'' ⟨he, hw⟩ => ⟨_, he, rfl, by subst hw; exact GB.refl _ _, by subst hw; exact hJ⟩)
theorem pqst16 {Q : Exit → Act → World → Prop} {ac : Act} {w5 : World} {B g ob h qb : Nat} {O : List Bool} {C : Nat} (K : PqCtx ac w5 B g ob h qb O C) (o : Oper) (ho : pqOps[16]? = some o) (k : Nat) : PStep Try.prog pqOps Q (pqF B g ob h qb O C) ac w5.drew ((fun _ w => BlkP w B g ob O ∧ BlkR w B h qb O) k) ((fun _ w => BlkP w B g ob O ∧ BlkR w B h qb O) k) o := by
  obtain ⟨hd, hop, hg⟩ := op_of ho (show _ = some (some 104, .move (.tmp 6), some (13, false)) by kernel_rfl)
  exact ph_move (Want.dep 13 false 101 hg (by kernel_rfl) (Dep.at K.hn ho (by kernel_rfl)) rfl) 104 hd (.tmp 6) hop _ (Ev.old (by kernel_rfl) K.h6) rfl
theorem pqst17 {Q : Exit → Act → World → Prop} {ac : Act} {w5 : World} {B g ob h qb : Nat} {O : List Bool} {C : Nat} (K : PqCtx ac w5 B g ob h qb O C) (o : Oper) (ho : pqOps[17]? = some o) (k : Nat) : PStep Try.prog pqOps Q (pqF B g ob h qb O C) ac w5.drew ((fun _ w => BlkP w B g ob O ∧ BlkR w B h qb O) k) ((fun _ w => BlkP w B g ob O ∧ BlkR w B h qb O) k) o := by
  obtain ⟨hd, hop, hg⟩ := op_of ho (show _ = some (some 105, .nilCheck (.tmp 104), some (13, false)) by kernel_rfl)
  exact ph_value (Want.dep 13 false 101 hg (by kernel_rfl) (Dep.at K.hn ho (by kernel_rfl)) rfl) 105 hd fun vals w' _ _ hdp => ⟨_, by have e1 : (frm ac (dsts pqOps) vals).eval (.tmp 104) = .pointer (some ⟨h, 0, none⟩) := (Ev.dep (F := pqF B g ob h qb O C) (Dep.at K.hn ho (by kernel_rfl)) rfl) vals w' hdp; unfold execOp; simp only [hop, e1]; go_simp, rfl⟩
theorem pqst18 {Q : Exit → Act → World → Prop} {ac : Act} {w5 : World} {B g ob h qb : Nat} {O : List Bool} {C : Nat} (K : PqCtx ac w5 B g ob h qb O C) (o : Oper) (ho : pqOps[18]? = some o) (k : Nat) : PStep Try.prog pqOps Q (pqF B g ob h qb O C) ac w5.drew ((fun _ w => BlkP w B g ob O ∧ BlkR w B h qb O) k) ((fun _ w => BlkP w B g ob O ∧ BlkR w B h qb O) k) o := by
  obtain ⟨hd, hop, hg⟩ := op_of ho (show _ = some (some 106, .fieldAddr 41 (.tmp 105) 0, some (13, false)) by kernel_rfl)
  exact ph_value (Want.dep 13 false 101 hg (by kernel_rfl) (Dep.at K.hn ho (by kernel_rfl)) rfl) 106 hd fun vals w' _ _ hdp => ⟨_, by have e1 : (frm ac (dsts pqOps) vals).eval (.tmp 105) = .pointer (some ⟨h, 0, none⟩) := (Ev.dep (F := pqF B g ob h qb O C) (Dep.at K.hn ho (by kernel_rfl)) rfl) vals w' hdp; unfold execOp; simp only [hop, e1]; go_simp, rfl⟩
theorem pqst19 {Q : Exit → Act → World → Prop} {ac : Act} {w5 : World} {B g ob h qb : Nat} {O : List Bool} {C : Nat} (K : PqCtx ac w5 B g ob h qb O C) (o : Oper) (ho : pqOps[19]? = some o) (k : Nat) : PStep Try.prog pqOps Q (pqF B g ob h qb O C) ac w5.drew ((fun _ w => BlkP w B g ob O ∧ BlkR w B h qb O) k) ((fun _ w => BlkP w B g ob O ∧ BlkR w B h qb O) k) o := by
  obtain ⟨hd, hop, hg⟩ := op_of ho (show _ = some (some 107, .load 39 (.tmp 106), some (13, false)) by kernel_rfl)
  exact ph_value (Want.dep 13 false 101 hg (by kernel_rfl) (Dep.at K.hn ho (by kernel_rfl)) rfl) 107 hd fun vals w' hG hJ hdp => ⟨_, by have e1 : (frm ac (dsts pqOps) vals).eval (.tmp 106) = .pointer (some ⟨h, 0, none⟩) := (Ev.dep (F := pqF B g ob h qb O C) (Dep.at K.hn ho (by kernel_rfl)) rfl) vals w' hdp; have c1 := K.c0 w' hG.fr; unfold execOp; simp only [hop, e1]; go_simp, rfl⟩
theorem pqst20 {Q : Exit → Act → World → Prop} {ac : Act} {w5 : World} {B g ob h qb : Nat} {O : List Bool} {C : Nat} (K : PqCtx ac w5 B g ob h qb O C) (o : Oper) (ho : pqOps[20]? = some o) (k : Nat) : PStep Try.prog pqOps Q (pqF B g ob h qb O C) ac w5.drew ((fun _ w => BlkP w B g ob O ∧ BlkR w B h qb O) k) ((fun _ w => BlkP w B g ob O ∧ BlkR w B h qb O) k) o := by
  obtain ⟨hd, hop, hg⟩ := op_of ho (show _ = some (some 108, .call { callee := .builtin .len, args := #[(.tmp 107)], argTypes := #[39] }, some (13, false)) by kernel_rfl)
  exact ph_len (Want.dep 13 false 101 hg (by kernel_rfl) (Dep.at K.hn ho (by kernel_rfl)) rfl) 108 hd 39 (.tmp 107) hop (.slice (some ⟨qb, 0, none⟩) O.length C) (.int .i64 (O.length : Int)) (Ev.dep (Dep.at K.hn ho (by kernel_rfl)) rfl) rfl (fun ρ w' h => by simp [execOp, h, resolve, invoke, builtin]; go_simp)
theorem pqst21 {Q : Exit → Act → World → Prop} {ac : Act} {w5 : World} {B g ob h qb : Nat} {O : List Bool} {C : Nat} (K : PqCtx ac w5 B g ob h qb O C) (o : Oper) (ho : pqOps[21]? = some o) (k : Nat) : PStep Try.prog pqOps Q (pqF B g ob h qb O C) ac w5.drew ((fun _ w => BlkP w B g ob O ∧ BlkR w B h qb O) k) ((fun _ w => BlkP w B g ob O ∧ BlkR w B h qb O) k) o := by
  obtain ⟨hd, hop, hg⟩ := op_of ho (show _ = some (some 109, .binOp .neq 3 (.tmp 103) (.tmp 108) 3, some (13, false)) by kernel_rfl)
  exact ph_bin (Want.dep 13 false 101 hg (by kernel_rfl) (Dep.at K.hn ho (by kernel_rfl)) rfl) 109 hd .neq 3 3 (.tmp 103) (.tmp 108) hop (.int .i64 (O.length : Int)) (.int .i64 (O.length : Int)) (.bool false) (Ev.dep (Dep.at K.hn ho (by kernel_rfl)) rfl) (Ev.dep (Dep.at K.hn ho (by kernel_rfl)) rfl) rfl (fun w' => by go_simp)
theorem pqst22 {Q : Exit → Act → World → Prop} {ac : Act} {w5 : World} {B g ob h qb : Nat} {O : List Bool} {C : Nat} (K : PqCtx ac w5 B g ob h qb O C) (o : Oper) (ho : pqOps[22]? = some o) (k : Nat) : PStep Try.prog pqOps Q (pqF B g ob h qb O C) ac w5.drew ((fun _ w => BlkP w B g ob O ∧ BlkR w B h qb O) k) ((fun _ w => BlkP w B g ob O ∧ BlkR w B h qb O) k) o := by
  obtain ⟨hd, hop, hg⟩ := op_of ho (show _ = some (some 110, .pick (.tmp 101) (.const (.bool true)) (.tmp 109), none) by kernel_rfl)
  exact ph_pick (Want.plain hg) 110 hd (.tmp 101) (.const (.bool true)) (.tmp 109) hop false (.bool false) (Ev.dep (Dep.at K.hn ho (by kernel_rfl)) rfl) (fun h => by cases h) (fun _ => (Ev.dep (Dep.at K.hn ho (by kernel_rfl)) rfl)) rfl
theorem pqLen : pqOps.length = 23 := by kernel_rfl
theorem pq_region {Q : Exit → Act → World → Prop} {id : Nat} {ac : Act} {w5 : World} {B g ob h qb : Nat} {O : List Bool} {C : Nat} (K : PqCtx ac w5 B g ob h qb O C) (h0 : (fun _ w => BlkP w B g ob O ∧ BlkR w B h qb O) 0 w5.drew)
    (hQ : ∀ (vals : Nat → Value) (w' : World), GB pqS w5 w' → (fun _ w => BlkP w B g ob O ∧ BlkR w B h qb O) 0 w' → (∀ d ∈ dsts pqOps, (pqF B g ob h qb O C d).holds (vals d) w') → Q .normal (frm ac (dsts pqOps) vals) w') : (Code.region id pqOps.toArray true).wp Try.prog Q ac w5 := by
  refine region_phase (pqF B g ob h qb O C) (fun _ w => BlkP w B g ob O ∧ BlkR w B h qb O) [] (by kernel_rfl) (by kernel_rfl) (by rw [K.hn]; kernel_rfl) (by kernel_rfl) h0 (fun i o ho hni k hk => ?_) (fun k i o hk ho => ?_) (by rw [pqLen]; decide) (fun vals w' hF hJ hv => ?_)
  · have hi : i < 23 := by rw [← pqLen]; exact (List.getElem?_eq_some_iff.1 ho).1
    match i, hi, ho with
    | 0, _, ho => exact pqst0 K o ho k
    | 1, _, ho => exact pqst1 K o ho k
    | 2, _, ho => exact pqst2 K o ho k
    | 3, _, ho => exact pqst3 K o ho k
    | 4, _, ho => exact pqst4 K o ho k
    | 5, _, ho => exact pqst5 K o ho k
    | 6, _, ho => exact pqst6 K o ho k
    | 7, _, ho => exact pqst7 K o ho k
    | 8, _, ho => exact pqst8 K o ho k
    | 9, _, ho => exact pqst9 K o ho k
    | 10, _, ho => exact pqst10 K o ho k
    | 11, _, ho => exact pqst11 K o ho k
    | 12, _, ho => exact pqst12 K o ho k
    | 13, _, ho => exact pqst13 K o ho k
    | 14, _, ho => exact pqst14 K o ho k
    | 15, _, ho => exact pqst15 K o ho k
    | 16, _, ho => exact pqst16 K o ho k
    | 17, _, ho => exact pqst17 K o ho k
    | 18, _, ho => exact pqst18 K o ho k
    | 19, _, ho => exact pqst19 K o ho k
    | 20, _, ho => exact pqst20 K o ho k
    | 21, _, ho => exact pqst21 K o ho k
    | 22, _, ho => exact pqst22 K o ho k
  · match k, hk with
    | k, hk => simp at hk
  · exact hQ vals w' (GB.trans (GB.of_fr0 ((Fr.refl _ _).drew)) hF) hJ hv
end Go.Proofs.Ytagniipldmagdaa.Blocks
