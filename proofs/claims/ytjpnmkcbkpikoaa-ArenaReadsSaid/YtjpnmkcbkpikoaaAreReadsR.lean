/-
  ArenaReads' drawn statement (made by wip/tools/arenareads.py).
-/
import Derived.Test.YtjpnmkcbkpikoaaAreAwake
import Derived.Test.YtjpnmkcbkpikoaaPhase
namespace Go.Proofs.Ytjpnmkcbkpikoaa.Arena
open Go.RowKit Base Ph

structure RrCtx (a : Act) (B1 g1 pb1 cb1 : Nat) (L1 : List Int) (B2 g2 pb2 cb2 : Nat) (L2 : List Int) (bs : List UInt8) (ec ed : Int) : Prop where
  hn : a.tmps.size = 146
  h13 : a.eval (.tmp 13) = .pointer (some ⟨g1, 0, none⟩)
  h15 : a.eval (.tmp 15) = .pointer (some ⟨g2, 0, none⟩)
  h17 : a.eval (.tmp 17) = .int .i64 ec
  h18 : a.eval (.tmp 18) = .int .i64 ed
  h19 : a.eval (.tmp 19) = .int .i64 ed
  h20 : a.eval (.tmp 20) = .int .i64 ec
noncomputable def rrOps : List Oper := (((Try.f6.body.bind (regionOps 11))).getD #[]).toList
def rrF (B1 g1 pb1 cb1 : Nat) (L1 : List Int) (B2 g2 pb2 cb2 : Nat) (L2 : List Int) (bs : List UInt8) (ec ed : Int) : Nat → Fact (fun _ => False)
  | 83 => Fact.is (.int .i64 ec)
  | 84 => Fact.is (.int .i64 ec)
  | 85 => Fact.is (.bool false)
  | 86 => Fact.is (.bool false)
  | 87 => Fact.is (.int .i64 ed)
  | 88 => Fact.is (.int .i64 ed)
  | 89 => Fact.is (.bool false)
  | 90 => Fact.is (.bool false)
  | 91 => Fact.is (.bool false)
  | 92 => Fact.is (.pointer (some ⟨g1, 0, none⟩))
  | 93 => Fact.bytes bs
  | 94 => Fact.is (.string ⟨(bs).toArray⟩)
  | 95 => Fact.is (.pointer (some ⟨g2, 0, none⟩))
  | 96 => Fact.bytes bs
  | 97 => Fact.is (.string ⟨(bs).toArray⟩)
  | 98 => Fact.is (.bool false)
  | 99 => Fact.is (.bool false)
  | _ => Fact.any
theorem rrst0 {Q : Exit → Act → World → Prop} {ac : Act} {w5 : World} {B1 g1 pb1 cb1 : Nat} {L1 : List Int} {B2 g2 pb2 cb2 : Nat} {L2 : List Int} {bs : List UInt8} {ec ed : Int} (K : RrCtx ac B1 g1 pb1 cb1 L1 B2 g2 pb2 cb2 L2 bs ec ed) (o : Oper) (ho : rrOps[0]? = some o) (k : Nat) : PStep Try.prog rrOps Q (rrF B1 g1 pb1 cb1 L1 B2 g2 pb2 cb2 L2 bs ec ed) ac w5.drew ((fun _ w => AreP w B1 g1 pb1 cb1 L1 bs ∧ AreP w B2 g2 pb2 cb2 L2 bs) k) ((fun _ w => AreP w B1 g1 pb1 cb1 L1 bs ∧ AreP w B2 g2 pb2 cb2 L2 bs) k) o := by
  obtain ⟨hd, hop, hg⟩ := op_of ho (show _ = some (some 83, .move (.tmp 17), none) by kernel_rfl)
  exact ph_move (Want.plain hg) 83 hd (.tmp 17) hop _ (Ev.old (by kernel_rfl) K.h17) rfl
theorem rrst1 {Q : Exit → Act → World → Prop} {ac : Act} {w5 : World} {B1 g1 pb1 cb1 : Nat} {L1 : List Int} {B2 g2 pb2 cb2 : Nat} {L2 : List Int} {bs : List UInt8} {ec ed : Int} (K : RrCtx ac B1 g1 pb1 cb1 L1 B2 g2 pb2 cb2 L2 bs ec ed) (o : Oper) (ho : rrOps[1]? = some o) (k : Nat) : PStep Try.prog rrOps Q (rrF B1 g1 pb1 cb1 L1 B2 g2 pb2 cb2 L2 bs ec ed) ac w5.drew ((fun _ w => AreP w B1 g1 pb1 cb1 L1 bs ∧ AreP w B2 g2 pb2 cb2 L2 bs) k) ((fun _ w => AreP w B1 g1 pb1 cb1 L1 bs ∧ AreP w B2 g2 pb2 cb2 L2 bs) k) o := by
  obtain ⟨hd, hop, hg⟩ := op_of ho (show _ = some (some 84, .move (.tmp 20), none) by kernel_rfl)
  exact ph_move (Want.plain hg) 84 hd (.tmp 20) hop _ (Ev.old (by kernel_rfl) K.h20) rfl
theorem rrst2 {Q : Exit → Act → World → Prop} {ac : Act} {w5 : World} {B1 g1 pb1 cb1 : Nat} {L1 : List Int} {B2 g2 pb2 cb2 : Nat} {L2 : List Int} {bs : List UInt8} {ec ed : Int} (K : RrCtx ac B1 g1 pb1 cb1 L1 B2 g2 pb2 cb2 L2 bs ec ed) (o : Oper) (ho : rrOps[2]? = some o) (k : Nat) : PStep Try.prog rrOps Q (rrF B1 g1 pb1 cb1 L1 B2 g2 pb2 cb2 L2 bs ec ed) ac w5.drew ((fun _ w => AreP w B1 g1 pb1 cb1 L1 bs ∧ AreP w B2 g2 pb2 cb2 L2 bs) k) ((fun _ w => AreP w B1 g1 pb1 cb1 L1 bs ∧ AreP w B2 g2 pb2 cb2 L2 bs) k) o := by
  obtain ⟨hd, hop, hg⟩ := op_of ho (show _ = some (some 85, .binOp .neq 24 (.tmp 83) (.tmp 84) 24, none) by kernel_rfl)
  exact ph_bin (Want.plain hg) 85 hd .neq 24 24 (.tmp 83) (.tmp 84) hop (.int .i64 ec) (.int .i64 ec) (.bool false) (Ev.dep (Dep.at K.hn ho (by kernel_rfl)) rfl) (Ev.dep (Dep.at K.hn ho (by kernel_rfl)) rfl) rfl (fun w' => by go_simp)
theorem rrst3 {Q : Exit → Act → World → Prop} {ac : Act} {w5 : World} {B1 g1 pb1 cb1 : Nat} {L1 : List Int} {B2 g2 pb2 cb2 : Nat} {L2 : List Int} {bs : List UInt8} {ec ed : Int} (K : RrCtx ac B1 g1 pb1 cb1 L1 B2 g2 pb2 cb2 L2 bs ec ed) (o : Oper) (ho : rrOps[3]? = some o) (k : Nat) : PStep Try.prog rrOps Q (rrF B1 g1 pb1 cb1 L1 B2 g2 pb2 cb2 L2 bs ec ed) ac w5.drew ((fun _ w => AreP w B1 g1 pb1 cb1 L1 bs ∧ AreP w B2 g2 pb2 cb2 L2 bs) k) ((fun _ w => AreP w B1 g1 pb1 cb1 L1 bs ∧ AreP w B2 g2 pb2 cb2 L2 bs) k) o := by
  obtain ⟨hd, hop, hg⟩ := op_of ho (show _ = some (some 86, .move (.tmp 85), none) by kernel_rfl)
  exact ph_move (Want.plain hg) 86 hd (.tmp 85) hop _ (Ev.dep (Dep.at K.hn ho (by kernel_rfl)) rfl) rfl
theorem rrst4 {Q : Exit → Act → World → Prop} {ac : Act} {w5 : World} {B1 g1 pb1 cb1 : Nat} {L1 : List Int} {B2 g2 pb2 cb2 : Nat} {L2 : List Int} {bs : List UInt8} {ec ed : Int} (K : RrCtx ac B1 g1 pb1 cb1 L1 B2 g2 pb2 cb2 L2 bs ec ed) (o : Oper) (ho : rrOps[4]? = some o) (k : Nat) : PStep Try.prog rrOps Q (rrF B1 g1 pb1 cb1 L1 B2 g2 pb2 cb2 L2 bs ec ed) ac w5.drew ((fun _ w => AreP w B1 g1 pb1 cb1 L1 bs ∧ AreP w B2 g2 pb2 cb2 L2 bs) k) ((fun _ w => AreP w B1 g1 pb1 cb1 L1 bs ∧ AreP w B2 g2 pb2 cb2 L2 bs) k) o := by
  obtain ⟨hd, hop, hg⟩ := op_of ho (show _ = some (some 87, .move (.tmp 18), some (3, false)) by kernel_rfl)
  exact ph_move (Want.dep 3 false 86 hg (by kernel_rfl) (Dep.at K.hn ho (by kernel_rfl)) rfl) 87 hd (.tmp 18) hop _ (Ev.old (by kernel_rfl) K.h18) rfl
theorem rrst5 {Q : Exit → Act → World → Prop} {ac : Act} {w5 : World} {B1 g1 pb1 cb1 : Nat} {L1 : List Int} {B2 g2 pb2 cb2 : Nat} {L2 : List Int} {bs : List UInt8} {ec ed : Int} (K : RrCtx ac B1 g1 pb1 cb1 L1 B2 g2 pb2 cb2 L2 bs ec ed) (o : Oper) (ho : rrOps[5]? = some o) (k : Nat) : PStep Try.prog rrOps Q (rrF B1 g1 pb1 cb1 L1 B2 g2 pb2 cb2 L2 bs ec ed) ac w5.drew ((fun _ w => AreP w B1 g1 pb1 cb1 L1 bs ∧ AreP w B2 g2 pb2 cb2 L2 bs) k) ((fun _ w => AreP w B1 g1 pb1 cb1 L1 bs ∧ AreP w B2 g2 pb2 cb2 L2 bs) k) o := by
  obtain ⟨hd, hop, hg⟩ := op_of ho (show _ = some (some 88, .move (.tmp 19), some (3, false)) by kernel_rfl)
  exact ph_move (Want.dep 3 false 86 hg (by kernel_rfl) (Dep.at K.hn ho (by kernel_rfl)) rfl) 88 hd (.tmp 19) hop _ (Ev.old (by kernel_rfl) K.h19) rfl
theorem rrst6 {Q : Exit → Act → World → Prop} {ac : Act} {w5 : World} {B1 g1 pb1 cb1 : Nat} {L1 : List Int} {B2 g2 pb2 cb2 : Nat} {L2 : List Int} {bs : List UInt8} {ec ed : Int} (K : RrCtx ac B1 g1 pb1 cb1 L1 B2 g2 pb2 cb2 L2 bs ec ed) (o : Oper) (ho : rrOps[6]? = some o) (k : Nat) : PStep Try.prog rrOps Q (rrF B1 g1 pb1 cb1 L1 B2 g2 pb2 cb2 L2 bs ec ed) ac w5.drew ((fun _ w => AreP w B1 g1 pb1 cb1 L1 bs ∧ AreP w B2 g2 pb2 cb2 L2 bs) k) ((fun _ w => AreP w B1 g1 pb1 cb1 L1 bs ∧ AreP w B2 g2 pb2 cb2 L2 bs) k) o := by
  obtain ⟨hd, hop, hg⟩ := op_of ho (show _ = some (some 89, .binOp .neq 24 (.tmp 87) (.tmp 88) 24, some (3, false)) by kernel_rfl)
  exact ph_bin (Want.dep 3 false 86 hg (by kernel_rfl) (Dep.at K.hn ho (by kernel_rfl)) rfl) 89 hd .neq 24 24 (.tmp 87) (.tmp 88) hop (.int .i64 ed) (.int .i64 ed) (.bool false) (Ev.dep (Dep.at K.hn ho (by kernel_rfl)) rfl) (Ev.dep (Dep.at K.hn ho (by kernel_rfl)) rfl) rfl (fun w' => by go_simp)
theorem rrst7 {Q : Exit → Act → World → Prop} {ac : Act} {w5 : World} {B1 g1 pb1 cb1 : Nat} {L1 : List Int} {B2 g2 pb2 cb2 : Nat} {L2 : List Int} {bs : List UInt8} {ec ed : Int} (K : RrCtx ac B1 g1 pb1 cb1 L1 B2 g2 pb2 cb2 L2 bs ec ed) (o : Oper) (ho : rrOps[7]? = some o) (k : Nat) : PStep Try.prog rrOps Q (rrF B1 g1 pb1 cb1 L1 B2 g2 pb2 cb2 L2 bs ec ed) ac w5.drew ((fun _ w => AreP w B1 g1 pb1 cb1 L1 bs ∧ AreP w B2 g2 pb2 cb2 L2 bs) k) ((fun _ w => AreP w B1 g1 pb1 cb1 L1 bs ∧ AreP w B2 g2 pb2 cb2 L2 bs) k) o := by
  obtain ⟨hd, hop, hg⟩ := op_of ho (show _ = some (some 90, .pick (.tmp 86) (.const (.bool true)) (.tmp 89), none) by kernel_rfl)
  exact ph_pick (Want.plain hg) 90 hd (.tmp 86) (.const (.bool true)) (.tmp 89) hop false (.bool false) (Ev.dep (Dep.at K.hn ho (by kernel_rfl)) rfl) (fun h => by cases h) (fun _ => (Ev.dep (Dep.at K.hn ho (by kernel_rfl)) rfl)) rfl
theorem rrst8 {Q : Exit → Act → World → Prop} {ac : Act} {w5 : World} {B1 g1 pb1 cb1 : Nat} {L1 : List Int} {B2 g2 pb2 cb2 : Nat} {L2 : List Int} {bs : List UInt8} {ec ed : Int} (K : RrCtx ac B1 g1 pb1 cb1 L1 B2 g2 pb2 cb2 L2 bs ec ed) (o : Oper) (ho : rrOps[8]? = some o) (k : Nat) : PStep Try.prog rrOps Q (rrF B1 g1 pb1 cb1 L1 B2 g2 pb2 cb2 L2 bs ec ed) ac w5.drew ((fun _ w => AreP w B1 g1 pb1 cb1 L1 bs ∧ AreP w B2 g2 pb2 cb2 L2 bs) k) ((fun _ w => AreP w B1 g1 pb1 cb1 L1 bs ∧ AreP w B2 g2 pb2 cb2 L2 bs) k) o := by
  obtain ⟨hd, hop, hg⟩ := op_of ho (show _ = some (some 91, .move (.tmp 90), none) by kernel_rfl)
  exact ph_move (Want.plain hg) 91 hd (.tmp 90) hop _ (Ev.dep (Dep.at K.hn ho (by kernel_rfl)) rfl) rfl
theorem rrst9 {Q : Exit → Act → World → Prop} {ac : Act} {w5 : World} {B1 g1 pb1 cb1 : Nat} {L1 : List Int} {B2 g2 pb2 cb2 : Nat} {L2 : List Int} {bs : List UInt8} {ec ed : Int} (K : RrCtx ac B1 g1 pb1 cb1 L1 B2 g2 pb2 cb2 L2 bs ec ed) (o : Oper) (ho : rrOps[9]? = some o) (k : Nat) : PStep Try.prog rrOps Q (rrF B1 g1 pb1 cb1 L1 B2 g2 pb2 cb2 L2 bs ec ed) ac w5.drew ((fun _ w => AreP w B1 g1 pb1 cb1 L1 bs ∧ AreP w B2 g2 pb2 cb2 L2 bs) k) ((fun _ w => AreP w B1 g1 pb1 cb1 L1 bs ∧ AreP w B2 g2 pb2 cb2 L2 bs) k) o := by
  obtain ⟨hd, hop, hg⟩ := op_of ho (show _ = some (some 92, .move (.tmp 13), some (8, false)) by kernel_rfl)
  exact ph_move (Want.dep 8 false 91 hg (by kernel_rfl) (Dep.at K.hn ho (by kernel_rfl)) rfl) 92 hd (.tmp 13) hop _ (Ev.old (by kernel_rfl) K.h13) rfl
theorem rrst10 {Q : Exit → Act → World → Prop} {ac : Act} {w5 : World} {B1 g1 pb1 cb1 : Nat} {L1 : List Int} {B2 g2 pb2 cb2 : Nat} {L2 : List Int} {bs : List UInt8} {ec ed : Int} (K : RrCtx ac B1 g1 pb1 cb1 L1 B2 g2 pb2 cb2 L2 bs ec ed) (o : Oper) (ho : rrOps[10]? = some o) (k : Nat) : PStep Try.prog rrOps Q (rrF B1 g1 pb1 cb1 L1 B2 g2 pb2 cb2 L2 bs ec ed) ac w5.drew ((fun _ w => AreP w B1 g1 pb1 cb1 L1 bs ∧ AreP w B2 g2 pb2 cb2 L2 bs) k) ((fun _ w => AreP w B1 g1 pb1 cb1 L1 bs ∧ AreP w B2 g2 pb2 cb2 L2 bs) k) o := by
  obtain ⟨hd, hop, hg⟩ := op_of ho (show _ = some (some 93, .call { callee := .value (.func 13), args := #[(.tmp 92)], argTypes := #[23] }, some (8, false)) by kernel_rfl)
  exact ph_call (Want.dep 8 false 91 hg (by kernel_rfl) (Dep.at K.hn ho (by kernel_rfl)) rfl) 93 hd 13 _ _ hop _ Try.func13 (by kernel_rfl) (by kernel_rfl) #[.pointer (some ⟨g1, 0, none⟩)] (ev1 (Ev.dep (Dep.at K.hn ho (by kernel_rfl)) rfl)) (fun w' hG hJ => (all_any B1 g1 pb1 cb1 L1 bs w' hJ.1).mono fun e' w'' ⟨v, he, hb, hF⟩ => ⟨v, he, hb, GB.of_fr0 hF, hJ.1.fr0 hF, hJ.2.fr0 hF⟩)
theorem rrst11 {Q : Exit → Act → World → Prop} {ac : Act} {w5 : World} {B1 g1 pb1 cb1 : Nat} {L1 : List Int} {B2 g2 pb2 cb2 : Nat} {L2 : List Int} {bs : List UInt8} {ec ed : Int} (K : RrCtx ac B1 g1 pb1 cb1 L1 B2 g2 pb2 cb2 L2 bs ec ed) (o : Oper) (ho : rrOps[11]? = some o) (k : Nat) : PStep Try.prog rrOps Q (rrF B1 g1 pb1 cb1 L1 B2 g2 pb2 cb2 L2 bs ec ed) ac w5.drew ((fun _ w => AreP w B1 g1 pb1 cb1 L1 bs ∧ AreP w B2 g2 pb2 cb2 L2 bs) k) ((fun _ w => AreP w B1 g1 pb1 cb1 L1 bs ∧ AreP w B2 g2 pb2 cb2 L2 bs) k) o := by
  obtain ⟨hd, hop, hg⟩ := op_of ho (show _ = some (some 94, .convert 29 9 (.tmp 93), some (8, false)) by kernel_rfl)
  exact ph_convstr (Want.dep 8 false 91 hg (by kernel_rfl) (Dep.at K.hn ho (by kernel_rfl)) rfl) 94 93 hd 29 5 9 hop Try.underlying29 Try.underlying5 Try.underlying9 (Dep.at K.hn ho (by kernel_rfl)) bs rfl rfl
theorem rrst12 {Q : Exit → Act → World → Prop} {ac : Act} {w5 : World} {B1 g1 pb1 cb1 : Nat} {L1 : List Int} {B2 g2 pb2 cb2 : Nat} {L2 : List Int} {bs : List UInt8} {ec ed : Int} (K : RrCtx ac B1 g1 pb1 cb1 L1 B2 g2 pb2 cb2 L2 bs ec ed) (o : Oper) (ho : rrOps[12]? = some o) (k : Nat) : PStep Try.prog rrOps Q (rrF B1 g1 pb1 cb1 L1 B2 g2 pb2 cb2 L2 bs ec ed) ac w5.drew ((fun _ w => AreP w B1 g1 pb1 cb1 L1 bs ∧ AreP w B2 g2 pb2 cb2 L2 bs) k) ((fun _ w => AreP w B1 g1 pb1 cb1 L1 bs ∧ AreP w B2 g2 pb2 cb2 L2 bs) k) o := by
  obtain ⟨hd, hop, hg⟩ := op_of ho (show _ = some (some 95, .move (.tmp 15), some (8, false)) by kernel_rfl)
  exact ph_move (Want.dep 8 false 91 hg (by kernel_rfl) (Dep.at K.hn ho (by kernel_rfl)) rfl) 95 hd (.tmp 15) hop _ (Ev.old (by kernel_rfl) K.h15) rfl
theorem rrst13 {Q : Exit → Act → World → Prop} {ac : Act} {w5 : World} {B1 g1 pb1 cb1 : Nat} {L1 : List Int} {B2 g2 pb2 cb2 : Nat} {L2 : List Int} {bs : List UInt8} {ec ed : Int} (K : RrCtx ac B1 g1 pb1 cb1 L1 B2 g2 pb2 cb2 L2 bs ec ed) (o : Oper) (ho : rrOps[13]? = some o) (k : Nat) : PStep Try.prog rrOps Q (rrF B1 g1 pb1 cb1 L1 B2 g2 pb2 cb2 L2 bs ec ed) ac w5.drew ((fun _ w => AreP w B1 g1 pb1 cb1 L1 bs ∧ AreP w B2 g2 pb2 cb2 L2 bs) k) ((fun _ w => AreP w B1 g1 pb1 cb1 L1 bs ∧ AreP w B2 g2 pb2 cb2 L2 bs) k) o := by
  obtain ⟨hd, hop, hg⟩ := op_of ho (show _ = some (some 96, .call { callee := .value (.func 13), args := #[(.tmp 95)], argTypes := #[23] }, some (8, false)) by kernel_rfl)
  exact ph_call (Want.dep 8 false 91 hg (by kernel_rfl) (Dep.at K.hn ho (by kernel_rfl)) rfl) 96 hd 13 _ _ hop _ Try.func13 (by kernel_rfl) (by kernel_rfl) #[.pointer (some ⟨g2, 0, none⟩)] (ev1 (Ev.dep (Dep.at K.hn ho (by kernel_rfl)) rfl)) (fun w' hG hJ => (all_any B2 g2 pb2 cb2 L2 bs w' hJ.2).mono fun e' w'' ⟨v, he, hb, hF⟩ => ⟨v, he, hb, GB.of_fr0 hF, hJ.1.fr0 hF, hJ.2.fr0 hF⟩)
theorem rrst14 {Q : Exit → Act → World → Prop} {ac : Act} {w5 : World} {B1 g1 pb1 cb1 : Nat} {L1 : List Int} {B2 g2 pb2 cb2 : Nat} {L2 : List Int} {bs : List UInt8} {ec ed : Int} (K : RrCtx ac B1 g1 pb1 cb1 L1 B2 g2 pb2 cb2 L2 bs ec ed) (o : Oper) (ho : rrOps[14]? = some o) (k : Nat) : PStep Try.prog rrOps Q (rrF B1 g1 pb1 cb1 L1 B2 g2 pb2 cb2 L2 bs ec ed) ac w5.drew ((fun _ w => AreP w B1 g1 pb1 cb1 L1 bs ∧ AreP w B2 g2 pb2 cb2 L2 bs) k) ((fun _ w => AreP w B1 g1 pb1 cb1 L1 bs ∧ AreP w B2 g2 pb2 cb2 L2 bs) k) o := by
  obtain ⟨hd, hop, hg⟩ := op_of ho (show _ = some (some 97, .convert 29 9 (.tmp 96), some (8, false)) by kernel_rfl)
  exact ph_convstr (Want.dep 8 false 91 hg (by kernel_rfl) (Dep.at K.hn ho (by kernel_rfl)) rfl) 97 96 hd 29 5 9 hop Try.underlying29 Try.underlying5 Try.underlying9 (Dep.at K.hn ho (by kernel_rfl)) bs rfl rfl
theorem rrst15 {Q : Exit → Act → World → Prop} {ac : Act} {w5 : World} {B1 g1 pb1 cb1 : Nat} {L1 : List Int} {B2 g2 pb2 cb2 : Nat} {L2 : List Int} {bs : List UInt8} {ec ed : Int} (K : RrCtx ac B1 g1 pb1 cb1 L1 B2 g2 pb2 cb2 L2 bs ec ed) (o : Oper) (ho : rrOps[15]? = some o) (k : Nat) : PStep Try.prog rrOps Q (rrF B1 g1 pb1 cb1 L1 B2 g2 pb2 cb2 L2 bs ec ed) ac w5.drew ((fun _ w => AreP w B1 g1 pb1 cb1 L1 bs ∧ AreP w B2 g2 pb2 cb2 L2 bs) k) ((fun _ w => AreP w B1 g1 pb1 cb1 L1 bs ∧ AreP w B2 g2 pb2 cb2 L2 bs) k) o := by
  obtain ⟨hd, hop, hg⟩ := op_of ho (show _ = some (some 98, .binOp .neq 9 (.tmp 94) (.tmp 97) 9, some (8, false)) by kernel_rfl)
  exact ph_bin (Want.dep 8 false 91 hg (by kernel_rfl) (Dep.at K.hn ho (by kernel_rfl)) rfl) 98 hd .neq 9 9 (.tmp 94) (.tmp 97) hop (.string ⟨(bs).toArray⟩) (.string ⟨(bs).toArray⟩) (.bool false) (Ev.dep (Dep.at K.hn ho (by kernel_rfl)) rfl) (Ev.dep (Dep.at K.hn ho (by kernel_rfl)) rfl) rfl (fun w' => by go_simp)
theorem rrst16 {Q : Exit → Act → World → Prop} {ac : Act} {w5 : World} {B1 g1 pb1 cb1 : Nat} {L1 : List Int} {B2 g2 pb2 cb2 : Nat} {L2 : List Int} {bs : List UInt8} {ec ed : Int} (K : RrCtx ac B1 g1 pb1 cb1 L1 B2 g2 pb2 cb2 L2 bs ec ed) (o : Oper) (ho : rrOps[16]? = some o) (k : Nat) : PStep Try.prog rrOps Q (rrF B1 g1 pb1 cb1 L1 B2 g2 pb2 cb2 L2 bs ec ed) ac w5.drew ((fun _ w => AreP w B1 g1 pb1 cb1 L1 bs ∧ AreP w B2 g2 pb2 cb2 L2 bs) k) ((fun _ w => AreP w B1 g1 pb1 cb1 L1 bs ∧ AreP w B2 g2 pb2 cb2 L2 bs) k) o := by
  obtain ⟨hd, hop, hg⟩ := op_of ho (show _ = some (some 99, .pick (.tmp 91) (.const (.bool true)) (.tmp 98), none) by kernel_rfl)
  exact ph_pick (Want.plain hg) 99 hd (.tmp 91) (.const (.bool true)) (.tmp 98) hop false (.bool false) (Ev.dep (Dep.at K.hn ho (by kernel_rfl)) rfl) (fun h => by cases h) (fun _ => (Ev.dep (Dep.at K.hn ho (by kernel_rfl)) rfl)) rfl
theorem rrLen : rrOps.length = 17 := by kernel_rfl
theorem rr_region {Q : Exit → Act → World → Prop} {id : Nat} {ac : Act} {w5 : World} {B1 g1 pb1 cb1 : Nat} {L1 : List Int} {B2 g2 pb2 cb2 : Nat} {L2 : List Int} {bs : List UInt8} {ec ed : Int} (K : RrCtx ac B1 g1 pb1 cb1 L1 B2 g2 pb2 cb2 L2 bs ec ed) (h0 : (fun _ w => AreP w B1 g1 pb1 cb1 L1 bs ∧ AreP w B2 g2 pb2 cb2 L2 bs) 0 w5.drew)
    (hQ : ∀ (vals : Nat → Value) (w' : World), GB (fun _ => False) w5 w' → (fun _ w => AreP w B1 g1 pb1 cb1 L1 bs ∧ AreP w B2 g2 pb2 cb2 L2 bs) 0 w' → (∀ d ∈ dsts rrOps, (rrF B1 g1 pb1 cb1 L1 B2 g2 pb2 cb2 L2 bs ec ed d).holds (vals d) w') → Q .normal (frm ac (dsts rrOps) vals) w') : (Code.region id rrOps.toArray true).wp Try.prog Q ac w5 := by
  refine region_phase (rrF B1 g1 pb1 cb1 L1 B2 g2 pb2 cb2 L2 bs ec ed) (fun _ w => AreP w B1 g1 pb1 cb1 L1 bs ∧ AreP w B2 g2 pb2 cb2 L2 bs) [] (by kernel_rfl) (by kernel_rfl) (by rw [K.hn]; kernel_rfl) (by kernel_rfl) h0 (fun i o ho hni k hk => ?_) (fun k i o hk ho => ?_) (by rw [rrLen]; decide) (fun vals w' hF hJ hv => ?_)
  · have hi : i < 17 := by rw [← rrLen]; exact (List.getElem?_eq_some_iff.1 ho).1
    match i, hi, ho with
    | 0, _, ho => exact rrst0 K o ho k
    | 1, _, ho => exact rrst1 K o ho k
    | 2, _, ho => exact rrst2 K o ho k
    | 3, _, ho => exact rrst3 K o ho k
    | 4, _, ho => exact rrst4 K o ho k
    | 5, _, ho => exact rrst5 K o ho k
    | 6, _, ho => exact rrst6 K o ho k
    | 7, _, ho => exact rrst7 K o ho k
    | 8, _, ho => exact rrst8 K o ho k
    | 9, _, ho => exact rrst9 K o ho k
    | 10, _, ho => exact rrst10 K o ho k
    | 11, _, ho => exact rrst11 K o ho k
    | 12, _, ho => exact rrst12 K o ho k
    | 13, _, ho => exact rrst13 K o ho k
    | 14, _, ho => exact rrst14 K o ho k
    | 15, _, ho => exact rrst15 K o ho k
    | 16, _, ho => exact rrst16 K o ho k
  · match k, hk with
    | k, hk => simp at hk
  · exact hQ vals w' (GB.trans (GB.of_fr0 ((Fr.refl _ _).drew)) hF) hJ hv
end Go.Proofs.Ytjpnmkcbkpikoaa.Arena
