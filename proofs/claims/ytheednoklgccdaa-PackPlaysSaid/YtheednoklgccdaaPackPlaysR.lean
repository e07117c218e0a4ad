/-
  PackPlays' drawn statements (made by wip/tools/packplays.py).
-/
import Derived.Test.YtheednoklgccdaaPackAwake
import Derived.Test.YtheednoklgccdaaPhase
namespace Go.Proofs.Ytheednoklgccdaa.Pack
open Go.RowKit Base Ph

theorem RdAt.err {w : World} {g : Nat} {t : TypeId} {l : List UInt8} {e : Int} (h : RdAt w g t l e) : w.cell? ⟨g, 1, none⟩ = some (.int .i64 e) := by
  obtain ⟨sv, hr, _⟩ := h
  exact hr.cell (i := 1) (by decide)
/-- both readers, behind so many of the two calls -/
def plJ (g h : Nat) (l : List UInt8) (e : Int) (b : List UInt8) (E : Int) (l2 : List UInt8) (e2 : Int) (b2 : List UInt8) (E2 : Int) : Nat → World → Prop
  | 0 => fun w => RdAt w g 59 l e ∧ RdAt w h 43 b E
  | 1 => fun w => RdAt w g 59 l2 e2 ∧ RdAt w h 43 b E
  | 2 => fun w => RdAt w g 59 l2 e2 ∧ RdAt w h 43 b2 E2
  | _ => fun _ => False
structure PlCtx (fr fw : FuncId) (a : Act) (w5 : World) (g h : Nat) (l : List UInt8) (e : Int) (b : List UInt8) (E : Int) (l2 : List UInt8) (e2 : Int) (b2 : List UInt8) (E2 : Int) (O : List UInt8) (pb po n1 c1 i : Nat) (N : Int) : Prop where
  hn : a.tmps.size = 125
  h1 : a.eval (.tmp 1) = .slice (some ⟨pb, po, none⟩) n1 c1
  h5 : a.eval (.tmp 5) = .pointer (some ⟨g, 0, none⟩)
  h6 : a.eval (.tmp 6) = .pointer (some ⟨h, 0, none⟩)
  h7 : a.eval (.tmp 7) = .int .i64 (i : Int)
  i1 : (i : Int) < (n1 : Int)
  i2 : 0 ≤ (i : Int)
  i3 : n1 ≤ 60
  ne : g ≠ h
  cell : ∀ W, Fr (fun k => k = g ∨ k = h) w5.drew W → W.cell? ⟨pb, po + i * 2 + 1, none⟩ = some (.int .i64 N)
  cr : ∀ W, RdAt W g 59 l e → Calls Try.prog fr #[.pointer (some ⟨g, 0, none⟩), .int .i64 N] W fun e' w' => ∃ v, e' = .returned v ∧ BytesIs w' v O ∧ RdAt w' g 59 l2 e2 ∧ Fr1 g W w'
  cw : ∀ W, RdAt W h 43 b E → Calls Try.prog fw #[.pointer (some ⟨h, 0, none⟩), .int .i64 N] W fun e' w' => ∃ v, e' = .returned v ∧ BytesIs w' v O ∧ RdAt w' h 43 b2 E2 ∧ Fr1 h W w'
noncomputable def pbOps : List Oper := (((Try.f4.body.bind (regionOps 25))).getD #[]).toList
def pbF (g h : Nat) (l : List UInt8) (e : Int) (b : List UInt8) (E : Int) (l2 : List UInt8) (e2 : Int) (b2 : List UInt8) (E2 : Int) (O : List UInt8) (pb po n1 c1 i : Nat) (N : Int) : Nat → Fact (fun k => k = g ∨ k = h)
  | 85 => Fact.is (.pointer (some ⟨g, 0, none⟩))
  | 86 => Fact.is (.slice (some ⟨pb, po, none⟩) n1 c1)
  | 87 => Fact.is (.int .i64 (i : Int))
  | 88 => Fact.is (.pointer (some ⟨pb, po + i * 2, none⟩))
  | 89 => Fact.is (.pointer (some ⟨pb, po + i * 2 + 1, none⟩))
  | 90 => Fact.is (.int .i64 N)
  | 91 => Fact.bytes O
  | 92 => Fact.is (.string ⟨(O).toArray⟩)
  | 93 => Fact.is (.pointer (some ⟨h, 0, none⟩))
  | 94 => Fact.is (.slice (some ⟨pb, po, none⟩) n1 c1)
  | 95 => Fact.is (.int .i64 (i : Int))
  | 96 => Fact.is (.pointer (some ⟨pb, po + i * 2, none⟩))
  | 97 => Fact.is (.pointer (some ⟨pb, po + i * 2 + 1, none⟩))
  | 98 => Fact.is (.int .i64 N)
  | 99 => Fact.bytes O
  | 100 => Fact.is (.string ⟨(O).toArray⟩)
  | 101 => Fact.is (.bool false)
  | _ => Fact.any
theorem pbst0 {Q : Exit → Act → World → Prop} {ac : Act} {w5 : World} {g h : Nat} {l : List UInt8} {e : Int} {b : List UInt8} {E : Int} {l2 : List UInt8} {e2 : Int} {b2 : List UInt8} {E2 : Int} {O : List UInt8} {pb po n1 c1 i : Nat} {N : Int} (K : PlCtx 13 23 ac w5 g h l e b E l2 e2 b2 E2 O pb po n1 c1 i N) (o : Oper) (ho : pbOps[0]? = some o) (k : Nat) : PStep Try.prog pbOps Q (pbF g h l e b E l2 e2 b2 E2 O pb po n1 c1 i N) ac w5.drew ((plJ g h l e b E l2 e2 b2 E2) k) ((plJ g h l e b E l2 e2 b2 E2) k) o := by
  obtain ⟨hd, hop, hg⟩ := op_of ho (show _ = some (some 85, .move (.tmp 5), none) by kernel_rfl)
  exact ph_move (Want.plain hg) 85 hd (.tmp 5) hop _ (Ev.old (by kernel_rfl) K.h5) rfl
theorem pbst1 {Q : Exit → Act → World → Prop} {ac : Act} {w5 : World} {g h : Nat} {l : List UInt8} {e : Int} {b : List UInt8} {E : Int} {l2 : List UInt8} {e2 : Int} {b2 : List UInt8} {E2 : Int} {O : List UInt8} {pb po n1 c1 i : Nat} {N : Int} (K : PlCtx 13 23 ac w5 g h l e b E l2 e2 b2 E2 O pb po n1 c1 i N) (o : Oper) (ho : pbOps[1]? = some o) (k : Nat) : PStep Try.prog pbOps Q (pbF g h l e b E l2 e2 b2 E2 O pb po n1 c1 i N) ac w5.drew ((plJ g h l e b E l2 e2 b2 E2) k) ((plJ g h l e b E l2 e2 b2 E2) k) o := by
  obtain ⟨hd, hop, hg⟩ := op_of ho (show _ = some (some 86, .move (.tmp 1), none) by kernel_rfl)
  exact ph_move (Want.plain hg) 86 hd (.tmp 1) hop _ (Ev.old (by kernel_rfl) K.h1) rfl
theorem pbst2 {Q : Exit → Act → World → Prop} {ac : Act} {w5 : World} {g h : Nat} {l : List UInt8} {e : Int} {b : List UInt8} {E : Int} {l2 : List UInt8} {e2 : Int} {b2 : List UInt8} {E2 : Int} {O : List UInt8} {pb po n1 c1 i : Nat} {N : Int} (K : PlCtx 13 23 ac w5 g h l e b E l2 e2 b2 E2 O pb po n1 c1 i N) (o : Oper) (ho : pbOps[2]? = some o) (k : Nat) : PStep Try.prog pbOps Q (pbF g h l e b E l2 e2 b2 E2 O pb po n1 c1 i N) ac w5.drew ((plJ g h l e b E l2 e2 b2 E2) k) ((plJ g h l e b E l2 e2 b2 E2) k) o := by
  obtain ⟨hd, hop, hg⟩ := op_of ho (show _ = some (some 87, .move (.tmp 7), none) by kernel_rfl)
  exact ph_move (Want.plain hg) 87 hd (.tmp 7) hop _ (Ev.old (by kernel_rfl) K.h7) rfl
theorem pbst3 {Q : Exit → Act → World → Prop} {ac : Act} {w5 : World} {g h : Nat} {l : List UInt8} {e : Int} {b : List UInt8} {E : Int} {l2 : List UInt8} {e2 : Int} {b2 : List UInt8} {E2 : Int} {O : List UInt8} {pb po n1 c1 i : Nat} {N : Int} (K : PlCtx 13 23 ac w5 g h l e b E l2 e2 b2 E2 O pb po n1 c1 i N) (o : Oper) (ho : pbOps[3]? = some o) (k : Nat) : PStep Try.prog pbOps Q (pbF g h l e b E l2 e2 b2 E2 O pb po n1 c1 i N) ac w5.drew ((plJ g h l e b E l2 e2 b2 E2) k) ((plJ g h l e b E l2 e2 b2 E2) k) o := by
  obtain ⟨hd, hop, hg⟩ := op_of ho (show _ = some (some 88, .indexAddr 40 (.tmp 86) (.tmp 87), none) by kernel_rfl)
  exact ph_value (Want.plain hg) 88 hd fun vals w' _ _ hdp => ⟨_, by have e1 : (frm ac (dsts pbOps) vals).eval (.tmp 86) = .slice (some ⟨pb, po, none⟩) n1 c1 := (Ev.dep (F := pbF g h l e b E l2 e2 b2 E2 O pb po n1 c1 i N) (Dep.at K.hn ho (by kernel_rfl)) rfl) vals w' hdp; have e2 : (frm ac (dsts pbOps) vals).eval (.tmp 87) = .int .i64 (i : Int) := (Ev.dep (F := pbF g h l e b E l2 e2 b2 E2 O pb po n1 c1 i N) (Dep.at K.hn ho (by kernel_rfl)) rfl) vals w' hdp; have h1 := K.i1; have h2 := K.i2; have h3 := K.i3; unfold execOp; simp only [hop, e1, e2]; go_simp, rfl⟩
theorem pbst4 {Q : Exit → Act → World → Prop} {ac : Act} {w5 : World} {g h : Nat} {l : List UInt8} {e : Int} {b : List UInt8} {E : Int} {l2 : List UInt8} {e2 : Int} {b2 : List UInt8} {E2 : Int} {O : List UInt8} {pb po n1 c1 i : Nat} {N : Int} (K : PlCtx 13 23 ac w5 g h l e b E l2 e2 b2 E2 O pb po n1 c1 i N) (o : Oper) (ho : pbOps[4]? = some o) (k : Nat) : PStep Try.prog pbOps Q (pbF g h l e b E l2 e2 b2 E2 O pb po n1 c1 i N) ac w5.drew ((plJ g h l e b E l2 e2 b2 E2) k) ((plJ g h l e b E l2 e2 b2 E2) k) o := by
  obtain ⟨hd, hop, hg⟩ := op_of ho (show _ = some (some 89, .fieldAddr 45 (.tmp 88) 1, none) by kernel_rfl)
  exact ph_value (Want.plain hg) 89 hd fun vals w' _ _ hdp => ⟨_, by have e1 : (frm ac (dsts pbOps) vals).eval (.tmp 88) = .pointer (some ⟨pb, po + i * 2, none⟩) := (Ev.dep (F := pbF g h l e b E l2 e2 b2 E2 O pb po n1 c1 i N) (Dep.at K.hn ho (by kernel_rfl)) rfl) vals w' hdp; unfold execOp; simp only [hop, e1]; go_simp, rfl⟩
theorem pbst5 {Q : Exit → Act → World → Prop} {ac : Act} {w5 : World} {g h : Nat} {l : List UInt8} {e : Int} {b : List UInt8} {E : Int} {l2 : List UInt8} {e2 : Int} {b2 : List UInt8} {E2 : Int} {O : List UInt8} {pb po n1 c1 i : Nat} {N : Int} (K : PlCtx 13 23 ac w5 g h l e b E l2 e2 b2 E2 O pb po n1 c1 i N) (o : Oper) (ho : pbOps[5]? = some o) (k : Nat) : PStep Try.prog pbOps Q (pbF g h l e b E l2 e2 b2 E2 O pb po n1 c1 i N) ac w5.drew ((plJ g h l e b E l2 e2 b2 E2) k) ((plJ g h l e b E l2 e2 b2 E2) k) o := by
  obtain ⟨hd, hop, hg⟩ := op_of ho (show _ = some (some 90, .load 3 (.tmp 89), none) by kernel_rfl)
  exact ph_value (Want.plain hg) 90 hd fun vals w' hG hJ hdp => ⟨_, by have e1 : (frm ac (dsts pbOps) vals).eval (.tmp 89) = .pointer (some ⟨pb, po + i * 2 + 1, none⟩) := (Ev.dep (F := pbF g h l e b E l2 e2 b2 E2 O pb po n1 c1 i N) (Dep.at K.hn ho (by kernel_rfl)) rfl) vals w' hdp; have c1 := K.cell w' (GB.fr hG); unfold execOp; simp only [hop, e1]; go_simp, rfl⟩
theorem pbst6 {Q : Exit → Act → World → Prop} {ac : Act} {w5 : World} {g h : Nat} {l : List UInt8} {e : Int} {b : List UInt8} {E : Int} {l2 : List UInt8} {e2 : Int} {b2 : List UInt8} {E2 : Int} {O : List UInt8} {pb po n1 c1 i : Nat} {N : Int} (K : PlCtx 13 23 ac w5 g h l e b E l2 e2 b2 E2 O pb po n1 c1 i N) (o : Oper) (ho : pbOps[6]? = some o) : PStep Try.prog pbOps Q (pbF g h l e b E l2 e2 b2 E2 O pb po n1 c1 i N) ac w5.drew ((plJ g h l e b E l2 e2 b2 E2) 0) ((plJ g h l e b E l2 e2 b2 E2) 1) o := by
  obtain ⟨hd, hop, hg⟩ := op_of ho (show _ = some (some 91, .call { callee := .value (.func 13), args := #[(.tmp 85), (.tmp 90)], argTypes := #[27, 3] }, none) by kernel_rfl)
  exact ph_call (Want.plain hg) 91 hd 13 _ _ hop _ Try.func13 (by kernel_rfl) (by kernel_rfl) #[.pointer (some ⟨g, 0, none⟩), .int .i64 N] (ev2 (Ev.dep (Dep.at K.hn ho (by kernel_rfl)) rfl) (Ev.dep (Dep.at K.hn ho (by kernel_rfl)) rfl)) (fun w' hG hJ => (K.cr w' hJ.1).mono fun e' w'' ⟨v, he, hB, hR, hF⟩ => ⟨v, he, hB, ⟨hF.mono (fun j _ h => .inl h), fun _ _ hb => bytes_fr1 hb hF hJ.1.noU8⟩, hR, hJ.2.fr1 hF (fun h => K.ne h.symm) hJ.1.noU8⟩)
theorem pbst7 {Q : Exit → Act → World → Prop} {ac : Act} {w5 : World} {g h : Nat} {l : List UInt8} {e : Int} {b : List UInt8} {E : Int} {l2 : List UInt8} {e2 : Int} {b2 : List UInt8} {E2 : Int} {O : List UInt8} {pb po n1 c1 i : Nat} {N : Int} (K : PlCtx 13 23 ac w5 g h l e b E l2 e2 b2 E2 O pb po n1 c1 i N) (o : Oper) (ho : pbOps[7]? = some o) (k : Nat) : PStep Try.prog pbOps Q (pbF g h l e b E l2 e2 b2 E2 O pb po n1 c1 i N) ac w5.drew ((plJ g h l e b E l2 e2 b2 E2) k) ((plJ g h l e b E l2 e2 b2 E2) k) o := by
  obtain ⟨hd, hop, hg⟩ := op_of ho (show _ = some (some 92, .convert 23 9 (.tmp 91), none) by kernel_rfl)
  exact ph_convstr (Want.plain hg) 92 91 hd 23 5 9 hop Try.underlying23 Try.underlying5 Try.underlying9 (Dep.at K.hn ho (by kernel_rfl)) O rfl rfl
theorem pbst8 {Q : Exit → Act → World → Prop} {ac : Act} {w5 : World} {g h : Nat} {l : List UInt8} {e : Int} {b : List UInt8} {E : Int} {l2 : List UInt8} {e2 : Int} {b2 : List UInt8} {E2 : Int} {O : List UInt8} {pb po n1 c1 i : Nat} {N : Int} (K : PlCtx 13 23 ac w5 g h l e b E l2 e2 b2 E2 O pb po n1 c1 i N) (o : Oper) (ho : pbOps[8]? = some o) (k : Nat) : PStep Try.prog pbOps Q (pbF g h l e b E l2 e2 b2 E2 O pb po n1 c1 i N) ac w5.drew ((plJ g h l e b E l2 e2 b2 E2) k) ((plJ g h l e b E l2 e2 b2 E2) k) o := by
  obtain ⟨hd, hop, hg⟩ := op_of ho (show _ = some (some 93, .move (.tmp 6), none) by kernel_rfl)
  exact ph_move (Want.plain hg) 93 hd (.tmp 6) hop _ (Ev.old (by kernel_rfl) K.h6) rfl
theorem pbst9 {Q : Exit → Act → World → Prop} {ac : Act} {w5 : World} {g h : Nat} {l : List UInt8} {e : Int} {b : List UInt8} {E : Int} {l2 : List UInt8} {e2 : Int} {b2 : List UInt8} {E2 : Int} {O : List UInt8} {pb po n1 c1 i : Nat} {N : Int} (K : PlCtx 13 23 ac w5 g h l e b E l2 e2 b2 E2 O pb po n1 c1 i N) (o : Oper) (ho : pbOps[9]? = some o) (k : Nat) : PStep Try.prog pbOps Q (pbF g h l e b E l2 e2 b2 E2 O pb po n1 c1 i N) ac w5.drew ((plJ g h l e b E l2 e2 b2 E2) k) ((plJ g h l e b E l2 e2 b2 E2) k) o := by
  obtain ⟨hd, hop, hg⟩ := op_of ho (show _ = some (some 94, .move (.tmp 1), none) by kernel_rfl)
  exact ph_move (Want.plain hg) 94 hd (.tmp 1) hop _ (Ev.old (by kernel_rfl) K.h1) rfl
theorem pbst10 {Q : Exit → Act → World → Prop} {ac : Act} {w5 : World} {g h : Nat} {l : List UInt8} {e : Int} {b : List UInt8} {E : Int} {l2 : List UInt8} {e2 : Int} {b2 : List UInt8} {E2 : Int} {O : List UInt8} {pb po n1 c1 i : Nat} {N : Int} (K : PlCtx 13 23 ac w5 g h l e b E l2 e2 b2 E2 O pb po n1 c1 i N) (o : Oper) (ho : pbOps[10]? = some o) (k : Nat) : PStep Try.prog pbOps Q (pbF g h l e b E l2 e2 b2 E2 O pb po n1 c1 i N) ac w5.drew ((plJ g h l e b E l2 e2 b2 E2) k) ((plJ g h l e b E l2 e2 b2 E2) k) o := by
  obtain ⟨hd, hop, hg⟩ := op_of ho (show _ = some (some 95, .move (.tmp 7), none) by kernel_rfl)
  exact ph_move (Want.plain hg) 95 hd (.tmp 7) hop _ (Ev.old (by kernel_rfl) K.h7) rfl
theorem pbst11 {Q : Exit → Act → World → Prop} {ac : Act} {w5 : World} {g h : Nat} {l : List UInt8} {e : Int} {b : List UInt8} {E : Int} {l2 : List UInt8} {e2 : Int} {b2 : List UInt8} {E2 : Int} {O : List UInt8} {pb po n1 c1 i : Nat} {N : Int} (K : PlCtx 13 23 ac w5 g h l e b E l2 e2 b2 E2 O pb po n1 c1 i N) (o : Oper) (ho : pbOps[11]? = some o) (k : Nat) : PStep Try.prog pbOps Q (pbF g h l e b E l2 e2 b2 E2 O pb po n1 c1 i N) ac w5.drew ((plJ g h l e b E l2 e2 b2 E2) k) ((plJ g h l e b E l2 e2 b2 E2) k) o := by
  obtain ⟨hd, hop, hg⟩ := op_of ho (show _ = some (some 96, .indexAddr 40 (.tmp 94) (.tmp 95), none) by kernel_rfl)
  exact ph_value (Want.plain hg) 96 hd fun vals w' _ _ hdp => ⟨_, by have e1 : (frm ac (dsts pbOps) vals).eval (.tmp 94) = .slice (some ⟨pb, po, none⟩) n1 c1 := (Ev.dep (F := pbF g h l e b E l2 e2 b2 E2 O pb po n1 c1 i N) (Dep.at K.hn ho (by kernel_rfl)) rfl) vals w' hdp; have e2 : (frm ac (dsts pbOps) vals).eval (.tmp 95) = .int .i64 (i : Int) := (Ev.dep (F := pbF g h l e b E l2 e2 b2 E2 O pb po n1 c1 i N) (Dep.at K.hn ho (by kernel_rfl)) rfl) vals w' hdp; have h1 := K.i1; have h2 := K.i2; have h3 := K.i3; unfold execOp; simp only [hop, e1, e2]; go_simp, rfl⟩
theorem pbst12 {Q : Exit → Act → World → Prop} {ac : Act} {w5 : World} {g h : Nat} {l : List UInt8} {e : Int} {b : List UInt8} {E : Int} {l2 : List UInt8} {e2 : Int} {b2 : List UInt8} {E2 : Int} {O : List UInt8} {pb po n1 c1 i : Nat} {N : Int} (K : PlCtx 13 23 ac w5 g h l e b E l2 e2 b2 E2 O pb po n1 c1 i N) (o : Oper) (ho : pbOps[12]? = some o) (k : Nat) : PStep Try.prog pbOps Q (pbF g h l e b E l2 e2 b2 E2 O pb po n1 c1 i N) ac w5.drew ((plJ g h l e b E l2 e2 b2 E2) k) ((plJ g h l e b E l2 e2 b2 E2) k) o := by
  obtain ⟨hd, hop, hg⟩ := op_of ho (show _ = some (some 97, .fieldAddr 45 (.tmp 96) 1, none) by kernel_rfl)
  exact ph_value (Want.plain hg) 97 hd fun vals w' _ _ hdp => ⟨_, by have e1 : (frm ac (dsts pbOps) vals).eval (.tmp 96) = .pointer (some ⟨pb, po + i * 2, none⟩) := (Ev.dep (F := pbF g h l e b E l2 e2 b2 E2 O pb po n1 c1 i N) (Dep.at K.hn ho (by kernel_rfl)) rfl) vals w' hdp; unfold execOp; simp only [hop, e1]; go_simp, rfl⟩
theorem pbst13 {Q : Exit → Act → World → Prop} {ac : Act} {w5 : World} {g h : Nat} {l : List UInt8} {e : Int} {b : List UInt8} {E : Int} {l2 : List UInt8} {e2 : Int} {b2 : List UInt8} {E2 : Int} {O : List UInt8} {pb po n1 c1 i : Nat} {N : Int} (K : PlCtx 13 23 ac w5 g h l e b E l2 e2 b2 E2 O pb po n1 c1 i N) (o : Oper) (ho : pbOps[13]? = some o) (k : Nat) : PStep Try.prog pbOps Q (pbF g h l e b E l2 e2 b2 E2 O pb po n1 c1 i N) ac w5.drew ((plJ g h l e b E l2 e2 b2 E2) k) ((plJ g h l e b E l2 e2 b2 E2) k) o := by
  obtain ⟨hd, hop, hg⟩ := op_of ho (show _ = some (some 98, .load 3 (.tmp 97), none) by kernel_rfl)
  exact ph_value (Want.plain hg) 98 hd fun vals w' hG hJ hdp => ⟨_, by have e1 : (frm ac (dsts pbOps) vals).eval (.tmp 97) = .pointer (some ⟨pb, po + i * 2 + 1, none⟩) := (Ev.dep (F := pbF g h l e b E l2 e2 b2 E2 O pb po n1 c1 i N) (Dep.at K.hn ho (by kernel_rfl)) rfl) vals w' hdp; have c1 := K.cell w' (GB.fr hG); unfold execOp; simp only [hop, e1]; go_simp, rfl⟩
theorem pbst14 {Q : Exit → Act → World → Prop} {ac : Act} {w5 : World} {g h : Nat} {l : List UInt8} {e : Int} {b : List UInt8} {E : Int} {l2 : List UInt8} {e2 : Int} {b2 : List UInt8} {E2 : Int} {O : List UInt8} {pb po n1 c1 i : Nat} {N : Int} (K : PlCtx 13 23 ac w5 g h l e b E l2 e2 b2 E2 O pb po n1 c1 i N) (o : Oper) (ho : pbOps[14]? = some o) : PStep Try.prog pbOps Q (pbF g h l e b E l2 e2 b2 E2 O pb po n1 c1 i N) ac w5.drew ((plJ g h l e b E l2 e2 b2 E2) 1) ((plJ g h l e b E l2 e2 b2 E2) 2) o := by
  obtain ⟨hd, hop, hg⟩ := op_of ho (show _ = some (some 99, .call { callee := .value (.func 23), args := #[(.tmp 93), (.tmp 98)], argTypes := #[41, 3] }, none) by kernel_rfl)
  exact ph_call (Want.plain hg) 99 hd 23 _ _ hop _ Try.func23 (by kernel_rfl) (by kernel_rfl) #[.pointer (some ⟨h, 0, none⟩), .int .i64 N] (ev2 (Ev.dep (Dep.at K.hn ho (by kernel_rfl)) rfl) (Ev.dep (Dep.at K.hn ho (by kernel_rfl)) rfl)) (fun w' hG hJ => (K.cw w' hJ.2).mono fun e' w'' ⟨v, he, hB, hR, hF⟩ => ⟨v, he, hB, ⟨hF.mono (fun j _ h => .inr h), fun _ _ hb => bytes_fr1 hb hF hJ.2.noU8⟩, hJ.1.fr1 hF K.ne hJ.2.noU8, hR⟩)
theorem pbst15 {Q : Exit → Act → World → Prop} {ac : Act} {w5 : World} {g h : Nat} {l : List UInt8} {e : Int} {b : List UInt8} {E : Int} {l2 : List UInt8} {e2 : Int} {b2 : List UInt8} {E2 : Int} {O : List UInt8} {pb po n1 c1 i : Nat} {N : Int} (K : PlCtx 13 23 ac w5 g h l e b E l2 e2 b2 E2 O pb po n1 c1 i N) (o : Oper) (ho : pbOps[15]? = some o) (k : Nat) : PStep Try.prog pbOps Q (pbF g h l e b E l2 e2 b2 E2 O pb po n1 c1 i N) ac w5.drew ((plJ g h l e b E l2 e2 b2 E2) k) ((plJ g h l e b E l2 e2 b2 E2) k) o := by
  obtain ⟨hd, hop, hg⟩ := op_of ho (show _ = some (some 100, .convert 23 9 (.tmp 99), none) by kernel_rfl)
  exact ph_convstr (Want.plain hg) 100 99 hd 23 5 9 hop Try.underlying23 Try.underlying5 Try.underlying9 (Dep.at K.hn ho (by kernel_rfl)) O rfl rfl
theorem pbst16 {Q : Exit → Act → World → Prop} {ac : Act} {w5 : World} {g h : Nat} {l : List UInt8} {e : Int} {b : List UInt8} {E : Int} {l2 : List UInt8} {e2 : Int} {b2 : List UInt8} {E2 : Int} {O : List UInt8} {pb po n1 c1 i : Nat} {N : Int} (K : PlCtx 13 23 ac w5 g h l e b E l2 e2 b2 E2 O pb po n1 c1 i N) (o : Oper) (ho : pbOps[16]? = some o) (k : Nat) : PStep Try.prog pbOps Q (pbF g h l e b E l2 e2 b2 E2 O pb po n1 c1 i N) ac w5.drew ((plJ g h l e b E l2 e2 b2 E2) k) ((plJ g h l e b E l2 e2 b2 E2) k) o := by
  obtain ⟨hd, hop, hg⟩ := op_of ho (show _ = some (some 101, .binOp .neq 9 (.tmp 92) (.tmp 100) 9, none) by kernel_rfl)
  exact ph_bin (Want.plain hg) 101 hd .neq 9 9 (.tmp 92) (.tmp 100) hop (.string ⟨(O).toArray⟩) (.string ⟨(O).toArray⟩) (.bool false) (Ev.dep (Dep.at K.hn ho (by kernel_rfl)) rfl) (Ev.dep (Dep.at K.hn ho (by kernel_rfl)) rfl) rfl (fun w' => by go_simp)
theorem pbLen : pbOps.length = 17 := by kernel_rfl
theorem pb_region {Q : Exit → Act → World → Prop} {id : Nat} {ac : Act} {w5 : World} {g h : Nat} {l : List UInt8} {e : Int} {b : List UInt8} {E : Int} {l2 : List UInt8} {e2 : Int} {b2 : List UInt8} {E2 : Int} {O : List UInt8} {pb po n1 c1 i : Nat} {N : Int} (K : PlCtx 13 23 ac w5 g h l e b E l2 e2 b2 E2 O pb po n1 c1 i N) (h0 : (plJ g h l e b E l2 e2 b2 E2) 0 w5.drew)
    (hQ : ∀ (vals : Nat → Value) (w' : World), GB (fun k => k = g ∨ k = h) w5 w' → (plJ g h l e b E l2 e2 b2 E2) 2 w' → (∀ d ∈ dsts pbOps, (pbF g h l e b E l2 e2 b2 E2 O pb po n1 c1 i N d).holds (vals d) w') → Q .normal (frm ac (dsts pbOps) vals) w') : (Code.region id pbOps.toArray true).wp Try.prog Q ac w5 := by
  refine region_phase (pbF g h l e b E l2 e2 b2 E2 O pb po n1 c1 i N) (plJ g h l e b E l2 e2 b2 E2) [6, 14] (by kernel_rfl) (by kernel_rfl) (by rw [K.hn]; kernel_rfl) (by kernel_rfl) h0 (fun i o ho hni k hk => ?_) (fun k i o hk ho => ?_) (by rw [pbLen]; decide) (fun vals w' hF hJ hv => ?_)
  · have hi : i < 17 := by rw [← pbLen]; exact (List.getElem?_eq_some_iff.1 ho).1
    match i, hi, ho with
    | 0, _, ho => exact pbst0 K o ho k
    | 1, _, ho => exact pbst1 K o ho k
    | 2, _, ho => exact pbst2 K o ho k
    | 3, _, ho => exact pbst3 K o ho k
    | 4, _, ho => exact pbst4 K o ho k
    | 5, _, ho => exact pbst5 K o ho k
    | 6, _, ho => exact absurd (by decide) hni
    | 7, _, ho => exact pbst7 K o ho k
    | 8, _, ho => exact pbst8 K o ho k
    | 9, _, ho => exact pbst9 K o ho k
    | 10, _, ho => exact pbst10 K o ho k
    | 11, _, ho => exact pbst11 K o ho k
    | 12, _, ho => exact pbst12 K o ho k
    | 13, _, ho => exact pbst13 K o ho k
    | 14, _, ho => exact absurd (by decide) hni
    | 15, _, ho => exact pbst15 K o ho k
    | 16, _, ho => exact pbst16 K o ho k
  · match k, hk with
    | 0, hk =>
      obtain rfl : 6 = i := Option.some.inj hk
      exact pbst6 K o ho
    | 1, hk =>
      obtain rfl : 14 = i := Option.some.inj hk
      exact pbst14 K o ho
    | k + 2, hk => simp at hk
  · exact hQ vals w' (GB.trans (GB.of_fr0 ((Fr.refl _ _).drew)) hF) hJ hv
noncomputable def ptOps : List Oper := (((Try.f4.body.bind (regionOps 10))).getD #[]).toList
def ptF (g h : Nat) (l : List UInt8) (e : Int) (b : List UInt8) (E : Int) (l2 : List UInt8) (e2 : Int) (b2 : List UInt8) (E2 : Int) (O : List UInt8) (pb po n1 c1 i : Nat) (N : Int) : Nat → Fact (fun k => k = g ∨ k = h)
  | 35 => Fact.is (.pointer (some ⟨g, 0, none⟩))
  | 36 => Fact.is (.slice (some ⟨pb, po, none⟩) n1 c1)
  | 37 => Fact.is (.int .i64 (i : Int))
  | 38 => Fact.is (.pointer (some ⟨pb, po + i * 2, none⟩))
  | 39 => Fact.is (.pointer (some ⟨pb, po + i * 2 + 1, none⟩))
  | 40 => Fact.is (.int .i64 N)
  | 41 => Fact.bytes O
  | 42 => Fact.is (.string ⟨(O).toArray⟩)
  | 43 => Fact.is (.pointer (some ⟨h, 0, none⟩))
  | 44 => Fact.is (.slice (some ⟨pb, po, none⟩) n1 c1)
  | 45 => Fact.is (.int .i64 (i : Int))
  | 46 => Fact.is (.pointer (some ⟨pb, po + i * 2, none⟩))
  | 47 => Fact.is (.pointer (some ⟨pb, po + i * 2 + 1, none⟩))
  | 48 => Fact.is (.int .i64 N)
  | 49 => Fact.bytes O
  | 50 => Fact.is (.string ⟨(O).toArray⟩)
  | 51 => Fact.is (.bool false)
  | _ => Fact.any
theorem ptst0 {Q : Exit → Act → World → Prop} {ac : Act} {w5 : World} {g h : Nat} {l : List UInt8} {e : Int} {b : List UInt8} {E : Int} {l2 : List UInt8} {e2 : Int} {b2 : List UInt8} {E2 : Int} {O : List UInt8} {pb po n1 c1 i : Nat} {N : Int} (K : PlCtx 17 24 ac w5 g h l e b E l2 e2 b2 E2 O pb po n1 c1 i N) (o : Oper) (ho : ptOps[0]? = some o) (k : Nat) : PStep Try.prog ptOps Q (ptF g h l e b E l2 e2 b2 E2 O pb po n1 c1 i N) ac w5.drew ((plJ g h l e b E l2 e2 b2 E2) k) ((plJ g h l e b E l2 e2 b2 E2) k) o := by
  obtain ⟨hd, hop, hg⟩ := op_of ho (show _ = some (some 35, .move (.tmp 5), none) by kernel_rfl)
  exact ph_move (Want.plain hg) 35 hd (.tmp 5) hop _ (Ev.old (by kernel_rfl) K.h5) rfl
theorem ptst1 {Q : Exit → Act → World → Prop} {ac : Act} {w5 : World} {g h : Nat} {l : List UInt8} {e : Int} {b : List UInt8} {E : Int} {l2 : List UInt8} {e2 : Int} {b2 : List UInt8} {E2 : Int} {O : List UInt8} {pb po n1 c1 i : Nat} {N : Int} (K : PlCtx 17 24 ac w5 g h l e b E l2 e2 b2 E2 O pb po n1 c1 i N) (o : Oper) (ho : ptOps[1]? = some o) (k : Nat) : PStep Try.prog ptOps Q (ptF g h l e b E l2 e2 b2 E2 O pb po n1 c1 i N) ac w5.drew ((plJ g h l e b E l2 e2 b2 E2) k) ((plJ g h l e b E l2 e2 b2 E2) k) o := by
  obtain ⟨hd, hop, hg⟩ := op_of ho (show _ = some (some 36, .move (.tmp 1), none) by kernel_rfl)
  exact ph_move (Want.plain hg) 36 hd (.tmp 1) hop _ (Ev.old (by kernel_rfl) K.h1) rfl
theorem ptst2 {Q : Exit → Act → World → Prop} {ac : Act} {w5 : World} {g h : Nat} {l : List UInt8} {e : Int} {b : List UInt8} {E : Int} {l2 : List UInt8} {e2 : Int} {b2 : List UInt8} {E2 : Int} {O : List UInt8} {pb po n1 c1 i : Nat} {N : Int} (K : PlCtx 17 24 ac w5 g h l e b E l2 e2 b2 E2 O pb po n1 c1 i N) (o : Oper) (ho : ptOps[2]? = some o) (k : Nat) : PStep Try.prog ptOps Q (ptF g h l e b E l2 e2 b2 E2 O pb po n1 c1 i N) ac w5.drew ((plJ g h l e b E l2 e2 b2 E2) k) ((plJ g h l e b E l2 e2 b2 E2) k) o := by
  obtain ⟨hd, hop, hg⟩ := op_of ho (show _ = some (some 37, .move (.tmp 7), none) by kernel_rfl)
  exact ph_move (Want.plain hg) 37 hd (.tmp 7) hop _ (Ev.old (by kernel_rfl) K.h7) rfl
theorem ptst3 {Q : Exit → Act → World → Prop} {ac : Act} {w5 : World} {g h : Nat} {l : List UInt8} {e : Int} {b : List UInt8} {E : Int} {l2 : List UInt8} {e2 : Int} {b2 : List UInt8} {E2 : Int} {O : List UInt8} {pb po n1 c1 i : Nat} {N : Int} (K : PlCtx 17 24 ac w5 g h l e b E l2 e2 b2 E2 O pb po n1 c1 i N) (o : Oper) (ho : ptOps[3]? = some o) (k : Nat) : PStep Try.prog ptOps Q (ptF g h l e b E l2 e2 b2 E2 O pb po n1 c1 i N) ac w5.drew ((plJ g h l e b E l2 e2 b2 E2) k) ((plJ g h l e b E l2 e2 b2 E2) k) o := by
  obtain ⟨hd, hop, hg⟩ := op_of ho (show _ = some (some 38, .indexAddr 40 (.tmp 36) (.tmp 37), none) by kernel_rfl)
  exact ph_value (Want.plain hg) 38 hd fun vals w' _ _ hdp => ⟨_, by have e1 : (frm ac (dsts ptOps) vals).eval (.tmp 36) = .slice (some ⟨pb, po, none⟩) n1 c1 := (Ev.dep (F := ptF g h l e b E l2 e2 b2 E2 O pb po n1 c1 i N) (Dep.at K.hn ho (by kernel_rfl)) rfl) vals w' hdp; have e2 : (frm ac (dsts ptOps) vals).eval (.tmp 37) = .int .i64 (i : Int) := (Ev.dep (F := ptF g h l e b E l2 e2 b2 E2 O pb po n1 c1 i N) (Dep.at K.hn ho (by kernel_rfl)) rfl) vals w' hdp; have h1 := K.i1; have h2 := K.i2; have h3 := K.i3; unfold execOp; simp only [hop, e1, e2]; go_simp, rfl⟩
theorem ptst4 {Q : Exit → Act → World → Prop} {ac : Act} {w5 : World} {g h : Nat} {l : List UInt8} {e : Int} {b : List UInt8} {E : Int} {l2 : List UInt8} {e2 : Int} {b2 : List UInt8} {E2 : Int} {O : List UInt8} {pb po n1 c1 i : Nat} {N : Int} (K : PlCtx 17 24 ac w5 g h l e b E l2 e2 b2 E2 O pb po n1 c1 i N) (o : Oper) (ho : ptOps[4]? = some o) (k : Nat) : PStep Try.prog ptOps Q (ptF g h l e b E l2 e2 b2 E2 O pb po n1 c1 i N) ac w5.drew ((plJ g h l e b E l2 e2 b2 E2) k) ((plJ g h l e b E l2 e2 b2 E2) k) o := by
  obtain ⟨hd, hop, hg⟩ := op_of ho (show _ = some (some 39, .fieldAddr 45 (.tmp 38) 1, none) by kernel_rfl)
  exact ph_value (Want.plain hg) 39 hd fun vals w' _ _ hdp => ⟨_, by have e1 : (frm ac (dsts ptOps) vals).eval (.tmp 38) = .pointer (some ⟨pb, po + i * 2, none⟩) := (Ev.dep (F := ptF g h l e b E l2 e2 b2 E2 O pb po n1 c1 i N) (Dep.at K.hn ho (by kernel_rfl)) rfl) vals w' hdp; unfold execOp; simp only [hop, e1]; go_simp, rfl⟩
theorem ptst5 {Q : Exit → Act → World → Prop} {ac : Act} {w5 : World} {g h : Nat} {l : List UInt8} {e : Int} {b : List UInt8} {E : Int} {l2 : List UInt8} {e2 : Int} {b2 : List UInt8} {E2 : Int} {O : List UInt8} {pb po n1 c1 i : Nat} {N : Int} (K : PlCtx 17 24 ac w5 g h l e b E l2 e2 b2 E2 O pb po n1 c1 i N) (o : Oper) (ho : ptOps[5]? = some o) (k : Nat) : PStep Try.prog ptOps Q (ptF g h l e b E l2 e2 b2 E2 O pb po n1 c1 i N) ac w5.drew ((plJ g h l e b E l2 e2 b2 E2) k) ((plJ g h l e b E l2 e2 b2 E2) k) o := by
  obtain ⟨hd, hop, hg⟩ := op_of ho (show _ = some (some 40, .load 3 (.tmp 39), none) by kernel_rfl)
  exact ph_value (Want.plain hg) 40 hd fun vals w' hG hJ hdp => ⟨_, by have e1 : (frm ac (dsts ptOps) vals).eval (.tmp 39) = .pointer (some ⟨pb, po + i * 2 + 1, none⟩) := (Ev.dep (F := ptF g h l e b E l2 e2 b2 E2 O pb po n1 c1 i N) (Dep.at K.hn ho (by kernel_rfl)) rfl) vals w' hdp; have c1 := K.cell w' (GB.fr hG); unfold execOp; simp only [hop, e1]; go_simp, rfl⟩
theorem ptst6 {Q : Exit → Act → World → Prop} {ac : Act} {w5 : World} {g h : Nat} {l : List UInt8} {e : Int} {b : List UInt8} {E : Int} {l2 : List UInt8} {e2 : Int} {b2 : List UInt8} {E2 : Int} {O : List UInt8} {pb po n1 c1 i : Nat} {N : Int} (K : PlCtx 17 24 ac w5 g h l e b E l2 e2 b2 E2 O pb po n1 c1 i N) (o : Oper) (ho : ptOps[6]? = some o) : PStep Try.prog ptOps Q (ptF g h l e b E l2 e2 b2 E2 O pb po n1 c1 i N) ac w5.drew ((plJ g h l e b E l2 e2 b2 E2) 0) ((plJ g h l e b E l2 e2 b2 E2) 1) o := by
  obtain ⟨hd, hop, hg⟩ := op_of ho (show _ = some (some 41, .call { callee := .value (.func 17), args := #[(.tmp 35), (.tmp 40)], argTypes := #[27, 3] }, none) by kernel_rfl)
  exact ph_call (Want.plain hg) 41 hd 17 _ _ hop _ Try.func17 (by kernel_rfl) (by kernel_rfl) #[.pointer (some ⟨g, 0, none⟩), .int .i64 N] (ev2 (Ev.dep (Dep.at K.hn ho (by kernel_rfl)) rfl) (Ev.dep (Dep.at K.hn ho (by kernel_rfl)) rfl)) (fun w' hG hJ => (K.cr w' hJ.1).mono fun e' w'' ⟨v, he, hB, hR, hF⟩ => ⟨v, he, hB, ⟨hF.mono (fun j _ h => .inl h), fun _ _ hb => bytes_fr1 hb hF hJ.1.noU8⟩, hR, hJ.2.fr1 hF (fun h => K.ne h.symm) hJ.1.noU8⟩)
theorem ptst7 {Q : Exit → Act → World → Prop} {ac : Act} {w5 : World} {g h : Nat} {l : List UInt8} {e : Int} {b : List UInt8} {E : Int} {l2 : List UInt8} {e2 : Int} {b2 : List UInt8} {E2 : Int} {O : List UInt8} {pb po n1 c1 i : Nat} {N : Int} (K : PlCtx 17 24 ac w5 g h l e b E l2 e2 b2 E2 O pb po n1 c1 i N) (o : Oper) (ho : ptOps[7]? = some o) (k : Nat) : PStep Try.prog ptOps Q (ptF g h l e b E l2 e2 b2 E2 O pb po n1 c1 i N) ac w5.drew ((plJ g h l e b E l2 e2 b2 E2) k) ((plJ g h l e b E l2 e2 b2 E2) k) o := by
  obtain ⟨hd, hop, hg⟩ := op_of ho (show _ = some (some 42, .convert 23 9 (.tmp 41), none) by kernel_rfl)
  exact ph_convstr (Want.plain hg) 42 41 hd 23 5 9 hop Try.underlying23 Try.underlying5 Try.underlying9 (Dep.at K.hn ho (by kernel_rfl)) O rfl rfl
theorem ptst8 {Q : Exit → Act → World → Prop} {ac : Act} {w5 : World} {g h : Nat} {l : List UInt8} {e : Int} {b : List UInt8} {E : Int} {l2 : List UInt8} {e2 : Int} {b2 : List UInt8} {E2 : Int} {O : List UInt8} {pb po n1 c1 i : Nat} {N : Int} (K : PlCtx 17 24 ac w5 g h l e b E l2 e2 b2 E2 O pb po n1 c1 i N) (o : Oper) (ho : ptOps[8]? = some o) (k : Nat) : PStep Try.prog ptOps Q (ptF g h l e b E l2 e2 b2 E2 O pb po n1 c1 i N) ac w5.drew ((plJ g h l e b E l2 e2 b2 E2) k) ((plJ g h l e b E l2 e2 b2 E2) k) o := by
  obtain ⟨hd, hop, hg⟩ := op_of ho (show _ = some (some 43, .move (.tmp 6), none) by kernel_rfl)
  exact ph_move (Want.plain hg) 43 hd (.tmp 6) hop _ (Ev.old (by kernel_rfl) K.h6) rfl
theorem ptst9 {Q : Exit → Act → World → Prop} {ac : Act} {w5 : World} {g h : Nat} {l : List UInt8} {e : Int} {b : List UInt8} {E : Int} {l2 : List UInt8} {e2 : Int} {b2 : List UInt8} {E2 : Int} {O : List UInt8} {pb po n1 c1 i : Nat} {N : Int} (K : PlCtx 17 24 ac w5 g h l e b E l2 e2 b2 E2 O pb po n1 c1 i N) (o : Oper) (ho : ptOps[9]? = some o) (k : Nat) : PStep Try.prog ptOps Q (ptF g h l e b E l2 e2 b2 E2 O pb po n1 c1 i N) ac w5.drew ((plJ g h l e b E l2 e2 b2 E2) k) ((plJ g h l e b E l2 e2 b2 E2) k) o := by
  obtain ⟨hd, hop, hg⟩ := op_of ho (show _ = some (some 44, .move (.tmp 1), none) by kernel_rfl)
  exact ph_move (Want.plain hg) 44 hd (.tmp 1) hop _ (Ev.old (by kernel_rfl) K.h1) rfl
theorem ptst10 {Q : Exit → Act → World → Prop} {ac : Act} {w5 : World} {g h : Nat} {l : List UInt8} {e : Int} {b : List UInt8} {E : Int} {l2 : List UInt8} {e2 : Int} {b2 : List UInt8} {E2 : Int} {O : List UInt8} {pb po n1 c1 i : Nat} {N : Int} (K : PlCtx 17 24 ac w5 g h l e b E l2 e2 b2 E2 O pb po n1 c1 i N) (o : Oper) (ho : ptOps[10]? = some o) (k : Nat) : PStep Try.prog ptOps Q (ptF g h l e b E l2 e2 b2 E2 O pb po n1 c1 i N) ac w5.drew ((plJ g h l e b E l2 e2 b2 E2) k) ((plJ g h l e b E l2 e2 b2 E2) k) o := by
  obtain ⟨hd, hop, hg⟩ := op_of ho (show _ = some (some 45, .move (.tmp 7), none) by kernel_rfl)
  exact ph_move (Want.plain hg) 45 hd (.tmp 7) hop _ (Ev.old (by kernel_rfl) K.h7) rfl
theorem ptst11 {Q : Exit → Act → World → Prop} {ac : Act} {w5 : World} {g h : Nat} {l : List UInt8} {e : Int} {b : List UInt8} {E : Int} {l2 : List UInt8} {e2 : Int} {b2 : List UInt8} {E2 : Int} {O : List UInt8} {pb po n1 c1 i : Nat} {N : Int} (K : PlCtx 17 24 ac w5 g h l e b E l2 e2 b2 E2 O pb po n1 c1 i N) (o : Oper) (ho : ptOps[11]? = some o) (k : Nat) : PStep Try.prog ptOps Q (ptF g h l e b E l2 e2 b2 E2 O pb po n1 c1 i N) ac w5.drew ((plJ g h l e b E l2 e2 b2 E2) k) ((plJ g h l e b E l2 e2 b2 E2) k) o := by
  obtain ⟨hd, hop, hg⟩ := op_of ho (show _ = some (some 46, .indexAddr 40 (.tmp 44) (.tmp 45), none) by kernel_rfl)
  exact ph_value (Want.plain hg) 46 hd fun vals w' _ _ hdp => ⟨_, by have e1 : (frm ac (dsts ptOps) vals).eval (.tmp 44) = .slice (some ⟨pb, po, none⟩) n1 c1 := (Ev.dep (F := ptF g h l e b E l2 e2 b2 E2 O pb po n1 c1 i N) (Dep.at K.hn ho (by kernel_rfl)) rfl) vals w' hdp; have e2 : (frm ac (dsts ptOps) vals).eval (.tmp 45) = .int .i64 (i : Int) := (Ev.dep (F := ptF g h l e b E l2 e2 b2 E2 O pb po n1 c1 i N) (Dep.at K.hn ho (by kernel_rfl)) rfl) vals w' hdp; have h1 := K.i1; have h2 := K.i2; have h3 := K.i3; unfold execOp; simp only [hop, e1, e2]; go_simp, rfl⟩
theorem ptst12 {Q : Exit → Act → World → Prop} {ac : Act} {w5 : World} {g h : Nat} {l : List UInt8} {e : Int} {b : List UInt8} {E : Int} {l2 : List UInt8} {e2 : Int} {b2 : List UInt8} {E2 : Int} {O : List UInt8} {pb po n1 c1 i : Nat} {N : Int} (K : PlCtx 17 24 ac w5 g h l e b E l2 e2 b2 E2 O pb po n1 c1 i N) (o : Oper) (ho : ptOps[12]? = some o) (k : Nat) : PStep Try.prog ptOps Q (ptF g h l e b E l2 e2 b2 E2 O pb po n1 c1 i N) ac w5.drew ((plJ g h l e b E l2 e2 b2 E2) k) ((plJ g h l e b E l2 e2 b2 E2) k) o := by
  obtain ⟨hd, hop, hg⟩ := op_of ho (show _ = some (some 47, .fieldAddr 45 (.tmp 46) 1, none) by kernel_rfl)
  exact ph_value (Want.plain hg) 47 hd fun vals w' _ _ hdp => ⟨_, by have e1 : (frm ac (dsts ptOps) vals).eval (.tmp 46) = .pointer (some ⟨pb, po + i * 2, none⟩) := (Ev.dep (F := ptF g h l e b E l2 e2 b2 E2 O pb po n1 c1 i N) (Dep.at K.hn ho (by kernel_rfl)) rfl) vals w' hdp; unfold execOp; simp only [hop, e1]; go_simp, rfl⟩
theorem ptst13 {Q : Exit → Act → World → Prop} {ac : Act} {w5 : World} {g h : Nat} {l : List UInt8} {e : Int} {b : List UInt8} {E : Int} {l2 : List UInt8} {e2 : Int} {b2 : List UInt8} {E2 : Int} {O : List UInt8} {pb po n1 c1 i : Nat} {N : Int} (K : PlCtx 17 24 ac w5 g h l e b E l2 e2 b2 E2 O pb po n1 c1 i N) (o : Oper) (ho : ptOps[13]? = some o) (k : Nat) : PStep Try.prog ptOps Q (ptF g h l e b E l2 e2 b2 E2 O pb po n1 c1 i N) ac w5.drew ((plJ g h l e b E l2 e2 b2 E2) k) ((plJ g h l e b E l2 e2 b2 E2) k) o := by
  obtain ⟨hd, hop, hg⟩ := op_of ho (show _ = some (some 48, .load 3 (.tmp 47), none) by kernel_rfl)
  exact ph_value (Want.plain hg) 48 hd fun vals w' hG hJ hdp => ⟨_, by have e1 : (frm ac (dsts ptOps) vals).eval (.tmp 47) = .pointer (some ⟨pb, po + i * 2 + 1, none⟩) := (Ev.dep (F := ptF g h l e b E l2 e2 b2 E2 O pb po n1 c1 i N) (Dep.at K.hn ho (by kernel_rfl)) rfl) vals w' hdp; have c1 := K.cell w' (GB.fr hG); unfold execOp; simp only [hop, e1]; go_simp, rfl⟩
theorem ptst14 {Q : Exit → Act → World → Prop} {ac : Act} {w5 : World} {g h : Nat} {l : List UInt8} {e : Int} {b : List UInt8} {E : Int} {l2 : List UInt8} {e2 : Int} {b2 : List UInt8} {E2 : Int} {O : List UInt8} {pb po n1 c1 i : Nat} {N : Int} (K : PlCtx 17 24 ac w5 g h l e b E l2 e2 b2 E2 O pb po n1 c1 i N) (o : Oper) (ho : ptOps[14]? = some o) : PStep Try.prog ptOps Q (ptF g h l e b E l2 e2 b2 E2 O pb po n1 c1 i N) ac w5.drew ((plJ g h l e b E l2 e2 b2 E2) 1) ((plJ g h l e b E l2 e2 b2 E2) 2) o := by
  obtain ⟨hd, hop, hg⟩ := op_of ho (show _ = some (some 49, .call { callee := .value (.func 24), args := #[(.tmp 43), (.tmp 48)], argTypes := #[41, 3] }, none) by kernel_rfl)
  exact ph_call (Want.plain hg) 49 hd 24 _ _ hop _ Try.func24 (by kernel_rfl) (by kernel_rfl) #[.pointer (some ⟨h, 0, none⟩), .int .i64 N] (ev2 (Ev.dep (Dep.at K.hn ho (by kernel_rfl)) rfl) (Ev.dep (Dep.at K.hn ho (by kernel_rfl)) rfl)) (fun w' hG hJ => (K.cw w' hJ.2).mono fun e' w'' ⟨v, he, hB, hR, hF⟩ => ⟨v, he, hB, ⟨hF.mono (fun j _ h => .inr h), fun _ _ hb => bytes_fr1 hb hF hJ.2.noU8⟩, hJ.1.fr1 hF K.ne hJ.2.noU8, hR⟩)
theorem ptst15 {Q : Exit → Act → World → Prop} {ac : Act} {w5 : World} {g h : Nat} {l : List UInt8} {e : Int} {b : List UInt8} {E : Int} {l2 : List UInt8} {e2 : Int} {b2 : List UInt8} {E2 : Int} {O : List UInt8} {pb po n1 c1 i : Nat} {N : Int} (K : PlCtx 17 24 ac w5 g h l e b E l2 e2 b2 E2 O pb po n1 c1 i N) (o : Oper) (ho : ptOps[15]? = some o) (k : Nat) : PStep Try.prog ptOps Q (ptF g h l e b E l2 e2 b2 E2 O pb po n1 c1 i N) ac w5.drew ((plJ g h l e b E l2 e2 b2 E2) k) ((plJ g h l e b E l2 e2 b2 E2) k) o := by
  obtain ⟨hd, hop, hg⟩ := op_of ho (show _ = some (some 50, .convert 23 9 (.tmp 49), none) by kernel_rfl)
  exact ph_convstr (Want.plain hg) 50 49 hd 23 5 9 hop Try.underlying23 Try.underlying5 Try.underlying9 (Dep.at K.hn ho (by kernel_rfl)) O rfl rfl
theorem ptst16 {Q : Exit → Act → World → Prop} {ac : Act} {w5 : World} {g h : Nat} {l : List UInt8} {e : Int} {b : List UInt8} {E : Int} {l2 : List UInt8} {e2 : Int} {b2 : List UInt8} {E2 : Int} {O : List UInt8} {pb po n1 c1 i : Nat} {N : Int} (K : PlCtx 17 24 ac w5 g h l e b E l2 e2 b2 E2 O pb po n1 c1 i N) (o : Oper) (ho : ptOps[16]? = some o) (k : Nat) : PStep Try.prog ptOps Q (ptF g h l e b E l2 e2 b2 E2 O pb po n1 c1 i N) ac w5.drew ((plJ g h l e b E l2 e2 b2 E2) k) ((plJ g h l e b E l2 e2 b2 E2) k) o := by
  obtain ⟨hd, hop, hg⟩ := op_of ho (show _ = some (some 51, .binOp .neq 9 (.tmp 42) (.tmp 50) 9, none) by kernel_rfl)
  exact ph_bin (Want.plain hg) 51 hd .neq 9 9 (.tmp 42) (.tmp 50) hop (.string ⟨(O).toArray⟩) (.string ⟨(O).toArray⟩) (.bool false) (Ev.dep (Dep.at K.hn ho (by kernel_rfl)) rfl) (Ev.dep (Dep.at K.hn ho (by kernel_rfl)) rfl) rfl (fun w' => by go_simp)
theorem ptLen : ptOps.length = 17 := by kernel_rfl
theorem pt_region {Q : Exit → Act → World → Prop} {id : Nat} {ac : Act} {w5 : World} {g h : Nat} {l : List UInt8} {e : Int} {b : List UInt8} {E : Int} {l2 : List UInt8} {e2 : Int} {b2 : List UInt8} {E2 : Int} {O : List UInt8} {pb po n1 c1 i : Nat} {N : Int} (K : PlCtx 17 24 ac w5 g h l e b E l2 e2 b2 E2 O pb po n1 c1 i N) (h0 : (plJ g h l e b E l2 e2 b2 E2) 0 w5.drew)
    (hQ : ∀ (vals : Nat → Value) (w' : World), GB (fun k => k = g ∨ k = h) w5 w' → (plJ g h l e b E l2 e2 b2 E2) 2 w' → (∀ d ∈ dsts ptOps, (ptF g h l e b E l2 e2 b2 E2 O pb po n1 c1 i N d).holds (vals d) w') → Q .normal (frm ac (dsts ptOps) vals) w') : (Code.region id ptOps.toArray true).wp Try.prog Q ac w5 := by
  refine region_phase (ptF g h l e b E l2 e2 b2 E2 O pb po n1 c1 i N) (plJ g h l e b E l2 e2 b2 E2) [6, 14] (by kernel_rfl) (by kernel_rfl) (by rw [K.hn]; kernel_rfl) (by kernel_rfl) h0 (fun i o ho hni k hk => ?_) (fun k i o hk ho => ?_) (by rw [ptLen]; decide) (fun vals w' hF hJ hv => ?_)
  · have hi : i < 17 := by rw [← ptLen]; exact (List.getElem?_eq_some_iff.1 ho).1
    match i, hi, ho with
    | 0, _, ho => exact ptst0 K o ho k
    | 1, _, ho => exact ptst1 K o ho k
    | 2, _, ho => exact ptst2 K o ho k
    | 3, _, ho => exact ptst3 K o ho k
    | 4, _, ho => exact ptst4 K o ho k
    | 5, _, ho => exact ptst5 K o ho k
    | 6, _, ho => exact absurd (by decide) hni
    | 7, _, ho => exact ptst7 K o ho k
    | 8, _, ho => exact ptst8 K o ho k
    | 9, _, ho => exact ptst9 K o ho k
    | 10, _, ho => exact ptst10 K o ho k
    | 11, _, ho => exact ptst11 K o ho k
    | 12, _, ho => exact ptst12 K o ho k
    | 13, _, ho => exact ptst13 K o ho k
    | 14, _, ho => exact absurd (by decide) hni
    | 15, _, ho => exact ptst15 K o ho k
    | 16, _, ho => exact ptst16 K o ho k
  · match k, hk with
    | 0, hk =>
      obtain rfl : 6 = i := Option.some.inj hk
      exact ptst6 K o ho
    | 1, hk =>
      obtain rfl : 14 = i := Option.some.inj hk
      exact ptst14 K o ho
    | k + 2, hk => simp at hk
  · exact hQ vals w' (GB.trans (GB.of_fr0 ((Fr.refl _ _).drew)) hF) hJ hv
structure PzCtx (a : Act) (g h : Nat) (l : List UInt8) (e : Int) (b : List UInt8) : Prop where
  hn : a.tmps.size = 125
  h5 : a.eval (.tmp 5) = .pointer (some ⟨g, 0, none⟩)
  h6 : a.eval (.tmp 6) = .pointer (some ⟨h, 0, none⟩)
  h8 : a.eval (.tmp 8) = .int .i64 (l.length : Int)
noncomputable def pzOps : List Oper := (((Try.f4.body.bind (regionOps 30))).getD #[]).toList
def pzF (g h : Nat) (l : List UInt8) (e : Int) (b : List UInt8) : Nat → Fact (fun k => k = g ∨ k = h)
  | 112 => Fact.is (.pointer (some ⟨g, 0, none⟩))
  | 113 => Fact.is (.int .i64 e)
  | 114 => Fact.is (.pointer (some ⟨h, 0, none⟩))
  | 115 => Fact.is (.pointer (some ⟨h, 0, none⟩))
  | 116 => Fact.is (.pointer (some ⟨h, 1, none⟩))
  | 117 => Fact.is (.int .i64 e)
  | 118 => Fact.is (.bool false)
  | 119 => Fact.is (.bool false)
  | 120 => Fact.is (.pointer (some ⟨g, 0, none⟩))
  | 121 => Fact.is (.int .i64 (l.length : Int))
  | 122 => Fact.is (.int .i64 (l.length : Int))
  | 123 => Fact.is (.bool false)
  | 124 => Fact.is (.bool false)
  | _ => Fact.any
theorem pzst0 {Q : Exit → Act → World → Prop} {ac : Act} {w5 : World} {g h : Nat} {l : List UInt8} {e : Int} {b : List UInt8} (K : PzCtx ac g h l e b) (o : Oper) (ho : pzOps[0]? = some o) (k : Nat) : PStep Try.prog pzOps Q (pzF g h l e b) ac w5.drew ((fun _ w => RdAt w g 59 l e ∧ RdAt w h 43 b e) k) ((fun _ w => RdAt w g 59 l e ∧ RdAt w h 43 b e) k) o := by
  obtain ⟨hd, hop, hg⟩ := op_of ho (show _ = some (some 112, .move (.tmp 5), none) by kernel_rfl)
  exact ph_move (Want.plain hg) 112 hd (.tmp 5) hop _ (Ev.old (by kernel_rfl) K.h5) rfl
theorem pzst1 {Q : Exit → Act → World → Prop} {ac : Act} {w5 : World} {g h : Nat} {l : List UInt8} {e : Int} {b : List UInt8} (K : PzCtx ac g h l e b) (o : Oper) (ho : pzOps[1]? = some o) (k : Nat) : PStep Try.prog pzOps Q (pzF g h l e b) ac w5.drew ((fun _ w => RdAt w g 59 l e ∧ RdAt w h 43 b e) k) ((fun _ w => RdAt w g 59 l e ∧ RdAt w h 43 b e) k) o := by
  obtain ⟨hd, hop, hg⟩ := op_of ho (show _ = some (some 113, .call { callee := .value (.func 14), args := #[(.tmp 112)], argTypes := #[27] }, none) by kernel_rfl)
  exact ph_call (Want.plain hg) 113 hd 14 _ _ hop _ Try.func14 (by kernel_rfl) (by kernel_rfl) #[.pointer (some ⟨g, 0, none⟩)] (ev1 (Ev.dep (Dep.at K.hn ho (by kernel_rfl)) rfl)) (fun w' hG hJ => (err_any g l e w' hJ.1).mono fun e' w'' ⟨he, hw⟩ => ⟨_, he, rfl, by subst hw; exact GB.refl _ _, by subst hw; exact hJ⟩)
theorem pzst2 {Q : Exit → Act → World → Prop} {ac : Act} {w5 : World} {g h : Nat} {l : List UInt8} {e : Int} {b : List UInt8} (K : PzCtx ac g h l e b) (o : Oper) (ho : pzOps[2]? = some o) (k : Nat) : PStep Try.prog pzOps Q (pzF g h l e b) ac w5.drew ((fun _ w => RdAt w g 59 l e ∧ RdAt w h 43 b e) k) ((fun _ w => RdAt w g 59 l e ∧ RdAt w h 43 b e) k) o := by
  obtain ⟨hd, hop, hg⟩ := op_of ho (show _ = some (some 114, .move (.tmp 6), none) by kernel_rfl)
  exact ph_move (Want.plain hg) 114 hd (.tmp 6) hop _ (Ev.old (by kernel_rfl) K.h6) rfl
theorem pzst3 {Q : Exit → Act → World → Prop} {ac : Act} {w5 : World} {g h : Nat} {l : List UInt8} {e : Int} {b : List UInt8} (K : PzCtx ac g h l e b) (o : Oper) (ho : pzOps[3]? = some o) (k : Nat) : PStep Try.prog pzOps Q (pzF g h l e b) ac w5.drew ((fun _ w => RdAt w g 59 l e ∧ RdAt w h 43 b e) k) ((fun _ w => RdAt w g 59 l e ∧ RdAt w h 43 b e) k) o := by
  obtain ⟨hd, hop, hg⟩ := op_of ho (show _ = some (some 115, .nilCheck (.tmp 114), none) by kernel_rfl)
  exact ph_value (Want.plain hg) 115 hd fun vals w' _ _ hdp => ⟨_, by have e1 : (frm ac (dsts pzOps) vals).eval (.tmp 114) = .pointer (some ⟨h, 0, none⟩) := (Ev.dep (F := pzF g h l e b) (Dep.at K.hn ho (by kernel_rfl)) rfl) vals w' hdp; unfold execOp; simp only [hop, e1]; go_simp, rfl⟩
theorem pzst4 {Q : Exit → Act → World → Prop} {ac : Act} {w5 : World} {g h : Nat} {l : List UInt8} {e : Int} {b : List UInt8} (K : PzCtx ac g h l e b) (o : Oper) (ho : pzOps[4]? = some o) (k : Nat) : PStep Try.prog pzOps Q (pzF g h l e b) ac w5.drew ((fun _ w => RdAt w g 59 l e ∧ RdAt w h 43 b e) k) ((fun _ w => RdAt w g 59 l e ∧ RdAt w h 43 b e) k) o := by
  obtain ⟨hd, hop, hg⟩ := op_of ho (show _ = some (some 116, .fieldAddr 43 (.tmp 115) 1, none) by kernel_rfl)
  exact ph_value (Want.plain hg) 116 hd fun vals w' _ _ hdp => ⟨_, by have e1 : (frm ac (dsts pzOps) vals).eval (.tmp 115) = .pointer (some ⟨h, 0, none⟩) := (Ev.dep (F := pzF g h l e b) (Dep.at K.hn ho (by kernel_rfl)) rfl) vals w' hdp; unfold execOp; simp only [hop, e1]; go_simp, rfl⟩
theorem pzst5 {Q : Exit → Act → World → Prop} {ac : Act} {w5 : World} {g h : Nat} {l : List UInt8} {e : Int} {b : List UInt8} (K : PzCtx ac g h l e b) (o : Oper) (ho : pzOps[5]? = some o) (k : Nat) : PStep Try.prog pzOps Q (pzF g h l e b) ac w5.drew ((fun _ w => RdAt w g 59 l e ∧ RdAt w h 43 b e) k) ((fun _ w => RdAt w g 59 l e ∧ RdAt w h 43 b e) k) o := by
  obtain ⟨hd, hop, hg⟩ := op_of ho (show _ = some (some 117, .load 31 (.tmp 116), none) by kernel_rfl)
  exact ph_value (Want.plain hg) 117 hd fun vals w' hG hJ hdp => ⟨_, by have e1 : (frm ac (dsts pzOps) vals).eval (.tmp 116) = .pointer (some ⟨h, 1, none⟩) := (Ev.dep (F := pzF g h l e b) (Dep.at K.hn ho (by kernel_rfl)) rfl) vals w' hdp; have c1 := hJ.2.err; unfold execOp; simp only [hop, e1]; go_simp, rfl⟩
theorem pzst6 {Q : Exit → Act → World → Prop} {ac : Act} {w5 : World} {g h : Nat} {l : List UInt8} {e : Int} {b : List UInt8} (K : PzCtx ac g h l e b) (o : Oper) (ho : pzOps[6]? = some o) (k : Nat) : PStep Try.prog pzOps Q (pzF g h l e b) ac w5.drew ((fun _ w => RdAt w g 59 l e ∧ RdAt w h 43 b e) k) ((fun _ w => RdAt w g 59 l e ∧ RdAt w h 43 b e) k) o := by
  obtain ⟨hd, hop, hg⟩ := op_of ho (show _ = some (some 118, .binOp .neq 31 (.tmp 113) (.tmp 117) 31, none) by kernel_rfl)
  exact ph_bin (Want.plain hg) 118 hd .neq 31 31 (.tmp 113) (.tmp 117) hop (.int .i64 e) (.int .i64 e) (.bool false) (Ev.dep (Dep.at K.hn ho (by kernel_rfl)) rfl) (Ev.dep (Dep.at K.hn ho (by kernel_rfl)) rfl) rfl (fun w' => by go_simp)
theorem pzst7 {Q : Exit → Act → World → Prop} {ac : Act} {w5 : World} {g h : Nat} {l : List UInt8} {e : Int} {b : List UInt8} (K : PzCtx ac g h l e b) (o : Oper) (ho : pzOps[7]? = some o) (k : Nat) : PStep Try.prog pzOps Q (pzF g h l e b) ac w5.drew ((fun _ w => RdAt w g 59 l e ∧ RdAt w h 43 b e) k) ((fun _ w => RdAt w g 59 l e ∧ RdAt w h 43 b e) k) o := by
  obtain ⟨hd, hop, hg⟩ := op_of ho (show _ = some (some 119, .move (.tmp 118), none) by kernel_rfl)
  exact ph_move (Want.plain hg) 119 hd (.tmp 118) hop _ (Ev.dep (Dep.at K.hn ho (by kernel_rfl)) rfl) rfl
theorem pzst8 {Q : Exit → Act → World → Prop} {ac : Act} {w5 : World} {g h : Nat} {l : List UInt8} {e : Int} {b : List UInt8} (K : PzCtx ac g h l e b) (o : Oper) (ho : pzOps[8]? = some o) (k : Nat) : PStep Try.prog pzOps Q (pzF g h l e b) ac w5.drew ((fun _ w => RdAt w g 59 l e ∧ RdAt w h 43 b e) k) ((fun _ w => RdAt w g 59 l e ∧ RdAt w h 43 b e) k) o := by
  obtain ⟨hd, hop, hg⟩ := op_of ho (show _ = some (some 120, .move (.tmp 5), some (7, false)) by kernel_rfl)
  exact ph_move (Want.dep 7 false 119 hg (by kernel_rfl) (Dep.at K.hn ho (by kernel_rfl)) rfl) 120 hd (.tmp 5) hop _ (Ev.old (by kernel_rfl) K.h5) rfl
theorem pzst9 {Q : Exit → Act → World → Prop} {ac : Act} {w5 : World} {g h : Nat} {l : List UInt8} {e : Int} {b : List UInt8} (K : PzCtx ac g h l e b) (o : Oper) (ho : pzOps[9]? = some o) (k : Nat) : PStep Try.prog pzOps Q (pzF g h l e b) ac w5.drew ((fun _ w => RdAt w g 59 l e ∧ RdAt w h 43 b e) k) ((fun _ w => RdAt w g 59 l e ∧ RdAt w h 43 b e) k) o := by
  obtain ⟨hd, hop, hg⟩ := op_of ho (show _ = some (some 121, .call { callee := .value (.func 16), args := #[(.tmp 120)], argTypes := #[27] }, some (7, false)) by kernel_rfl)
  exact ph_call (Want.dep 7 false 119 hg (by kernel_rfl) (Dep.at K.hn ho (by kernel_rfl)) rfl) 121 hd 16 _ _ hop _ Try.func16 (by kernel_rfl) (by kernel_rfl) #[.pointer (some ⟨g, 0, none⟩)] (ev1 (Ev.dep (Dep.at K.hn ho (by kernel_rfl)) rfl)) (fun w' hG hJ => (left_any g l e w' hJ.1).mono fun e' w'' ⟨he, hw⟩ => ⟨_, he, rfl, by subst hw; exact GB.refl _ _, by subst hw; exact hJ⟩)
theorem pzst10 {Q : Exit → Act → World → Prop} {ac : Act} {w5 : World} {g h : Nat} {l : List UInt8} {e : Int} {b : List UInt8} (K : PzCtx ac g h l e b) (o : Oper) (ho : pzOps[10]? = some o) (k : Nat) : PStep Try.prog pzOps Q (pzF g h l e b) ac w5.drew ((fun _ w => RdAt w g 59 l e ∧ RdAt w h 43 b e) k) ((fun _ w => RdAt w g 59 l e ∧ RdAt w h 43 b e) k) o := by
  obtain ⟨hd, hop, hg⟩ := op_of ho (show _ = some (some 122, .move (.tmp 8), some (7, false)) by kernel_rfl)
  exact ph_move (Want.dep 7 false 119 hg (by kernel_rfl) (Dep.at K.hn ho (by kernel_rfl)) rfl) 122 hd (.tmp 8) hop _ (Ev.old (by kernel_rfl) K.h8) rfl
theorem pzst11 {Q : Exit → Act → World → Prop} {ac : Act} {w5 : World} {g h : Nat} {l : List UInt8} {e : Int} {b : List UInt8} (K : PzCtx ac g h l e b) (o : Oper) (ho : pzOps[11]? = some o) (k : Nat) : PStep Try.prog pzOps Q (pzF g h l e b) ac w5.drew ((fun _ w => RdAt w g 59 l e ∧ RdAt w h 43 b e) k) ((fun _ w => RdAt w g 59 l e ∧ RdAt w h 43 b e) k) o := by
  obtain ⟨hd, hop, hg⟩ := op_of ho (show _ = some (some 123, .binOp .neq 3 (.tmp 121) (.tmp 122) 3, some (7, false)) by kernel_rfl)
  exact ph_bin (Want.dep 7 false 119 hg (by kernel_rfl) (Dep.at K.hn ho (by kernel_rfl)) rfl) 123 hd .neq 3 3 (.tmp 121) (.tmp 122) hop (.int .i64 (l.length : Int)) (.int .i64 (l.length : Int)) (.bool false) (Ev.dep (Dep.at K.hn ho (by kernel_rfl)) rfl) (Ev.dep (Dep.at K.hn ho (by kernel_rfl)) rfl) rfl (fun w' => by go_simp)
theorem pzst12 {Q : Exit → Act → World → Prop} {ac : Act} {w5 : World} {g h : Nat} {l : List UInt8} {e : Int} {b : List UInt8} (K : PzCtx ac g h l e b) (o : Oper) (ho : pzOps[12]? = some o) (k : Nat) : PStep Try.prog pzOps Q (pzF g h l e b) ac w5.drew ((fun _ w => RdAt w g 59 l e ∧ RdAt w h 43 b e) k) ((fun _ w => RdAt w g 59 l e ∧ RdAt w h 43 b e) k) o := by
  obtain ⟨hd, hop, hg⟩ := op_of ho (show _ = some (some 124, .pick (.tmp 119) (.const (.bool true)) (.tmp 123), none) by kernel_rfl)
  exact ph_pick (Want.plain hg) 124 hd (.tmp 119) (.const (.bool true)) (.tmp 123) hop false (.bool false) (Ev.dep (Dep.at K.hn ho (by kernel_rfl)) rfl) (fun h => by cases h) (fun _ => (Ev.dep (Dep.at K.hn ho (by kernel_rfl)) rfl)) rfl
theorem pzLen : pzOps.length = 13 := by kernel_rfl
theorem pz_region {Q : Exit → Act → World → Prop} {id : Nat} {ac : Act} {w5 : World} {g h : Nat} {l : List UInt8} {e : Int} {b : List UInt8} (K : PzCtx ac g h l e b) (h0 : (fun _ w => RdAt w g 59 l e ∧ RdAt w h 43 b e) 0 w5.drew)
    (hQ : ∀ (vals : Nat → Value) (w' : World), GB (fun k => k = g ∨ k = h) w5 w' → (fun _ w => RdAt w g 59 l e ∧ RdAt w h 43 b e) 0 w' → (∀ d ∈ dsts pzOps, (pzF g h l e b d).holds (vals d) w') → Q .normal (frm ac (dsts pzOps) vals) w') : (Code.region id pzOps.toArray true).wp Try.prog Q ac w5 := by
  refine region_phase (pzF g h l e b) (fun _ w => RdAt w g 59 l e ∧ RdAt w h 43 b e) [] (by kernel_rfl) (by kernel_rfl) (by rw [K.hn]; kernel_rfl) (by kernel_rfl) h0 (fun i o ho hni k hk => ?_) (fun k i o hk ho => ?_) (by rw [pzLen]; decide) (fun vals w' hF hJ hv => ?_)
  · have hi : i < 13 := by rw [← pzLen]; exact (List.getElem?_eq_some_iff.1 ho).1
    match i, hi, ho with
    | 0, _, ho => exact pzst0 K o ho k
    | 1, _, ho => exact pzst1 K o ho k
    | 2, _, ho => exact pzst2 K o ho k
    | 3, _, ho => exact pzst3 K o ho k
    | 4, _, ho => exact pzst4 K o ho k
    | 5, _, ho => exact pzst5 K o ho k
    | 6, _, ho => exact pzst6 K o ho k
    | 7, _, ho => exact pzst7 K o ho k
    | 8, _, ho => exact pzst8 K o ho k
    | 9, _, ho => exact pzst9 K o ho k
    | 10, _, ho => exact pzst10 K o ho k
    | 11, _, ho => exact pzst11 K o ho k
    | 12, _, ho => exact pzst12 K o ho k
  · match k, hk with
    | k, hk => simp at hk
  · exact hQ vals w' (GB.trans (GB.of_fr0 ((Fr.refl _ _).drew)) hF) hJ hv
end Go.Proofs.Ytheednoklgccdaa.Pack
