/-
  PackOrder's drawn statements (made by wip/tools/packorder.py).
-/
import Derived.Test.YtheednoklgccdaaPackOrderS
import Derived.Test.YtheednoklgccdaaPhase
namespace Go.Proofs.Ytheednoklgccdaa.Pack
open Go.RowKit Base Ph

structure PaCtx (a : Act) (x y : Nat) : Prop where
  hn : a.tmps.size = 61
  h0 : a.eval (.tmp 0) = .int .u64 (x : Int)
  h1 : a.eval (.tmp 1) = .int .u64 (y : Int)
  hx : x < 18446744073709551616
  hy : y < 18446744073709551616
noncomputable def paOps : List Oper := (((Try.f7.body.bind (regionOps 3))).getD #[]).toList
def paF (x y : Nat) : Nat → Fact (fun _ => False)
  | 5 => Fact.is (.string ⟨((be 8 (x))).toArray⟩)
  | 6 => Fact.is (.string ⟨((be 8 (y))).toArray⟩)
  | 9 => Fact.is (.int .u64 (x : Int))
  | 10 => Fact.bytes (be 8 (x))
  | 11 => Fact.is (.string ⟨((be 8 (x))).toArray⟩)
  | 12 => Fact.is (.int .u64 (y : Int))
  | 13 => Fact.bytes (be 8 (y))
  | 14 => Fact.is (.string ⟨((be 8 (y))).toArray⟩)
  | _ => Fact.any
theorem past0 {Q : Exit → Act → World → Prop} {ac : Act} {w5 : World} {x y : Nat} (K : PaCtx ac x y) (o : Oper) (ho : paOps[0]? = some o) (k : Nat) : PStep Try.prog paOps Q (paF x y) ac w5.drew ((fun _ _ => True) k) ((fun _ _ => True) k) o := by
  obtain ⟨hd, hop, hg⟩ := op_of ho (show _ = some (some 9, .move (.tmp 0), none) by kernel_rfl)
  exact ph_move (Want.plain hg) 9 hd (.tmp 0) hop _ (Ev.old (by kernel_rfl) K.h0) rfl
theorem past1 {Q : Exit → Act → World → Prop} {ac : Act} {w5 : World} {x y : Nat} (K : PaCtx ac x y) (o : Oper) (ho : paOps[1]? = some o) (k : Nat) : PStep Try.prog paOps Q (paF x y) ac w5.drew ((fun _ _ => True) k) ((fun _ _ => True) k) o := by
  obtain ⟨hd, hop, hg⟩ := op_of ho (show _ = some (some 10, .call { callee := .value (.func 19), args := #[(.const (.slice none 0 0)), (.tmp 9)], argTypes := #[23, 33] }, none) by kernel_rfl)
  exact ph_call (Want.plain hg) 10 hd 19 _ _ hop _ Try.func19 (by kernel_rfl) (by kernel_rfl) #[.slice none 0 0, .int .u64 (x : Int)] (ev2 (Ev.const _) (Ev.dep (Dep.at K.hn ho (by kernel_rfl)) rfl)) (fun w' hG hJ => (u64_any (.slice none 0 0) [] (x) K.hx (by decide) w' (BytesIs.nil w')).mono fun e w'' ⟨v, he, hB, hF⟩ => ⟨v, he, hB, GB.of_fr0 hF, trivial⟩)
theorem past2 {Q : Exit → Act → World → Prop} {ac : Act} {w5 : World} {x y : Nat} (K : PaCtx ac x y) (o : Oper) (ho : paOps[2]? = some o) (k : Nat) : PStep Try.prog paOps Q (paF x y) ac w5.drew ((fun _ _ => True) k) ((fun _ _ => True) k) o := by
  obtain ⟨hd, hop, hg⟩ := op_of ho (show _ = some (some 11, .convert 23 9 (.tmp 10), none) by kernel_rfl)
  exact ph_convstr (Want.plain hg) 11 10 hd 23 5 9 hop Try.underlying23 Try.underlying5 Try.underlying9 (Dep.at K.hn ho (by kernel_rfl)) (be 8 (x)) rfl rfl
theorem past3 {Q : Exit → Act → World → Prop} {ac : Act} {w5 : World} {x y : Nat} (K : PaCtx ac x y) (o : Oper) (ho : paOps[3]? = some o) (k : Nat) : PStep Try.prog paOps Q (paF x y) ac w5.drew ((fun _ _ => True) k) ((fun _ _ => True) k) o := by
  obtain ⟨hd, hop, hg⟩ := op_of ho (show _ = some (some 12, .move (.tmp 1), none) by kernel_rfl)
  exact ph_move (Want.plain hg) 12 hd (.tmp 1) hop _ (Ev.old (by kernel_rfl) K.h1) rfl
theorem past4 {Q : Exit → Act → World → Prop} {ac : Act} {w5 : World} {x y : Nat} (K : PaCtx ac x y) (o : Oper) (ho : paOps[4]? = some o) (k : Nat) : PStep Try.prog paOps Q (paF x y) ac w5.drew ((fun _ _ => True) k) ((fun _ _ => True) k) o := by
  obtain ⟨hd, hop, hg⟩ := op_of ho (show _ = some (some 13, .call { callee := .value (.func 19), args := #[(.const (.slice none 0 0)), (.tmp 12)], argTypes := #[23, 33] }, none) by kernel_rfl)
  exact ph_call (Want.plain hg) 13 hd 19 _ _ hop _ Try.func19 (by kernel_rfl) (by kernel_rfl) #[.slice none 0 0, .int .u64 (y : Int)] (ev2 (Ev.const _) (Ev.dep (Dep.at K.hn ho (by kernel_rfl)) rfl)) (fun w' hG hJ => (u64_any (.slice none 0 0) [] (y) K.hy (by decide) w' (BytesIs.nil w')).mono fun e w'' ⟨v, he, hB, hF⟩ => ⟨v, he, hB, GB.of_fr0 hF, trivial⟩)
theorem past5 {Q : Exit → Act → World → Prop} {ac : Act} {w5 : World} {x y : Nat} (K : PaCtx ac x y) (o : Oper) (ho : paOps[5]? = some o) (k : Nat) : PStep Try.prog paOps Q (paF x y) ac w5.drew ((fun _ _ => True) k) ((fun _ _ => True) k) o := by
  obtain ⟨hd, hop, hg⟩ := op_of ho (show _ = some (some 14, .convert 23 9 (.tmp 13), none) by kernel_rfl)
  exact ph_convstr (Want.plain hg) 14 13 hd 23 5 9 hop Try.underlying23 Try.underlying5 Try.underlying9 (Dep.at K.hn ho (by kernel_rfl)) (be 8 (y)) rfl rfl
theorem past6 {Q : Exit → Act → World → Prop} {ac : Act} {w5 : World} {x y : Nat} (K : PaCtx ac x y) (o : Oper) (ho : paOps[6]? = some o) (k : Nat) : PStep Try.prog paOps Q (paF x y) ac w5.drew ((fun _ _ => True) k) ((fun _ _ => True) k) o := by
  obtain ⟨hd, hop, hg⟩ := op_of ho (show _ = some (some 5, .assign (.tmp 11), none) by kernel_rfl)
  exact ph_assign (Want.plain hg) 5 hd (.tmp 11) hop _ (Ev.dep (Dep.at K.hn ho (by kernel_rfl)) rfl) rfl
theorem past7 {Q : Exit → Act → World → Prop} {ac : Act} {w5 : World} {x y : Nat} (K : PaCtx ac x y) (o : Oper) (ho : paOps[7]? = some o) (k : Nat) : PStep Try.prog paOps Q (paF x y) ac w5.drew ((fun _ _ => True) k) ((fun _ _ => True) k) o := by
  obtain ⟨hd, hop, hg⟩ := op_of ho (show _ = some (some 6, .assign (.tmp 14), none) by kernel_rfl)
  exact ph_assign (Want.plain hg) 6 hd (.tmp 14) hop _ (Ev.dep (Dep.at K.hn ho (by kernel_rfl)) rfl) rfl
theorem paLen : paOps.length = 8 := by kernel_rfl
theorem pa_region {Q : Exit → Act → World → Prop} {id : Nat} {ac : Act} {w5 : World} {x y : Nat} (K : PaCtx ac x y) (h0 : (fun _ _ => True) 0 w5.drew)
    (hQ : ∀ (vals : Nat → Value) (w' : World), GB (fun _ => False) w5 w' → (fun _ _ => True) 0 w' → (∀ d ∈ dsts paOps, (paF x y d).holds (vals d) w') → Q .normal (frm ac (dsts paOps) vals) w') : (Code.region id paOps.toArray true).wp Try.prog Q ac w5 := by
  refine region_phase (paF x y) (fun _ _ => True) [] (by kernel_rfl) (by kernel_rfl) (by rw [K.hn]; kernel_rfl) (by kernel_rfl) h0 (fun i o ho hni k hk => ?_) (fun k i o hk ho => ?_) (by rw [paLen]; decide) (fun vals w' hF hJ hv => ?_)
  · have hi : i < 8 := by rw [← paLen]; exact (List.getElem?_eq_some_iff.1 ho).1
    match i, hi, ho with
    | 0, _, ho => exact past0 K o ho k
    | 1, _, ho => exact past1 K o ho k
    | 2, _, ho => exact past2 K o ho k
    | 3, _, ho => exact past3 K o ho k
    | 4, _, ho => exact past4 K o ho k
    | 5, _, ho => exact past5 K o ho k
    | 6, _, ho => exact past6 K o ho k
    | 7, _, ho => exact past7 K o ho k
  · match k, hk with
    | k, hk => simp at hk
  · exact hQ vals w' (GB.trans (GB.of_fr0 ((Fr.refl _ _).drew)) hF) hJ hv
structure PoCtx (a : Act) (x y : Nat) : Prop where
  hn : a.tmps.size = 61
  h0 : a.eval (.tmp 0) = .int .u64 (x : Int)
  h1 : a.eval (.tmp 1) = .int .u64 (y : Int)
  h5 : a.eval (.tmp 5) = .string ⟨(be 8 x).toArray⟩
  h6 : a.eval (.tmp 6) = .string ⟨(be 8 y).toArray⟩
  hx : x < 18446744073709551616
  hy : y < 18446744073709551616
  eqs : ∀ (t : TypeId) (p q : Operand) (a b : ByteArray), eqGuard .eql t p q (.string a) (.string b) = pure ()
  s4 : ∀ wx : World, (Instr.sliceAt 9 (.string ⟨(be 8 x).toArray⟩) (some (.int .i64 4)) none none).run Try.prog wx = .ok (.string ⟨((be 8 x).drop 4).toArray⟩) wx
  s6 : ∀ wx : World, (Instr.sliceAt 9 (.string ⟨(be 8 x).toArray⟩) (some (.int .i64 6)) none none).run Try.prog wx = .ok (.string ⟨((be 8 x).drop 6).toArray⟩) wx
  s7 : ∀ wx : World, (Instr.sliceAt 9 (.string ⟨(be 8 x).toArray⟩) (some (.int .i64 7)) none none).run Try.prog wx = .ok (.string ⟨((be 8 x).drop 7).toArray⟩) wx
  d4 : (be 8 x).drop 4 = be 4 (x % 4294967296)
  d2 : (be 8 x).drop 6 = be 2 (x % 65536)
  d1 : (be 8 x).drop 7 = be 1 (x % 256)
noncomputable def poOps : List Oper := (((Try.f7.body.bind (regionOps 6))).getD #[]).toList
def poF (x y : Nat) : Nat → Fact (fun _ => False)
  | 4 => Fact.is (.bool true)
  | 18 => Fact.is (.string ⟨(be 8 x).toArray⟩)
  | 19 => Fact.is (.string ⟨(be 8 y).toArray⟩)
  | 20 => Fact.is (.bool (decide (x < y)))
  | 21 => Fact.is (.int .u64 (x : Int))
  | 22 => Fact.is (.int .u64 (y : Int))
  | 23 => Fact.is (.bool (decide (x < y)))
  | 24 => Fact.is (.bool true)
  | 25 => Fact.is (.bool true)
  | 26 => Fact.is (.string ⟨(be 8 x).toArray⟩)
  | 27 => Fact.is (.string ⟨(be 8 y).toArray⟩)
  | 28 => Fact.is (.bool (decide (x = y)))
  | 29 => Fact.is (.int .u64 (x : Int))
  | 30 => Fact.is (.int .u64 (y : Int))
  | 31 => Fact.is (.bool (decide (x = y)))
  | 32 => Fact.is (.bool true)
  | 33 => Fact.is (.bool true)
  | 34 => Fact.is (.bool true)
  | 35 => Fact.is (.int .u64 (x : Int))
  | 36 => Fact.is (.int .u32 ((x % 4294967296 : Nat) : Int))
  | 37 => Fact.bytes (be 4 (x % 4294967296))
  | 38 => Fact.is (.string ⟨((be 4 (x % 4294967296))).toArray⟩)
  | 39 => Fact.is (.string ⟨(be 8 x).toArray⟩)
  | 40 => Fact.is (.string ⟨((be 8 x).drop 4).toArray⟩)
  | 41 => Fact.is (.bool true)
  | 42 => Fact.is (.bool true)
  | 43 => Fact.is (.bool true)
  | 44 => Fact.is (.int .u64 (x : Int))
  | 45 => Fact.is (.int .u16 ((x % 65536 : Nat) : Int))
  | 46 => Fact.bytes (be 2 (x % 65536))
  | 47 => Fact.is (.string ⟨((be 2 (x % 65536))).toArray⟩)
  | 48 => Fact.is (.string ⟨(be 8 x).toArray⟩)
  | 49 => Fact.is (.string ⟨((be 8 x).drop 6).toArray⟩)
  | 50 => Fact.is (.bool true)
  | 51 => Fact.is (.bool true)
  | 52 => Fact.is (.bool true)
  | 53 => Fact.is (.int .u64 (x : Int))
  | 54 => Fact.is (.int .u8 ((x % 256 : Nat) : Int))
  | 55 => Fact.bytes (be 1 (x % 256))
  | 56 => Fact.is (.string ⟨((be 1 (x % 256))).toArray⟩)
  | 57 => Fact.is (.string ⟨(be 8 x).toArray⟩)
  | 58 => Fact.is (.string ⟨((be 8 x).drop 7).toArray⟩)
  | 59 => Fact.is (.bool true)
  | 60 => Fact.is (.bool true)
  | _ => Fact.any
theorem post0 {Q : Exit → Act → World → Prop} {ac : Act} {w5 : World} {x y : Nat} (K : PoCtx ac x y) (o : Oper) (ho : poOps[0]? = some o) (k : Nat) : PStep Try.prog poOps Q (poF x y) ac w5.drew ((fun _ _ => True) k) ((fun _ _ => True) k) o := by
  obtain ⟨hd, hop, hg⟩ := op_of ho (show _ = some (some 18, .move (.tmp 5), none) by kernel_rfl)
  exact ph_move (Want.plain hg) 18 hd (.tmp 5) hop _ (Ev.old (by kernel_rfl) K.h5) rfl
theorem post1 {Q : Exit → Act → World → Prop} {ac : Act} {w5 : World} {x y : Nat} (K : PoCtx ac x y) (o : Oper) (ho : poOps[1]? = some o) (k : Nat) : PStep Try.prog poOps Q (poF x y) ac w5.drew ((fun _ _ => True) k) ((fun _ _ => True) k) o := by
  obtain ⟨hd, hop, hg⟩ := op_of ho (show _ = some (some 19, .move (.tmp 6), none) by kernel_rfl)
  exact ph_move (Want.plain hg) 19 hd (.tmp 6) hop _ (Ev.old (by kernel_rfl) K.h6) rfl
theorem post2 {Q : Exit → Act → World → Prop} {ac : Act} {w5 : World} {x y : Nat} (K : PoCtx ac x y) (o : Oper) (ho : poOps[2]? = some o) (k : Nat) : PStep Try.prog poOps Q (poF x y) ac w5.drew ((fun _ _ => True) k) ((fun _ _ => True) k) o := by
  obtain ⟨hd, hop, hg⟩ := op_of ho (show _ = some (some 20, .binOp .lss 9 (.tmp 18) (.tmp 19) 9, none) by kernel_rfl)
  exact ph_bin (Want.plain hg) 20 hd .lss 9 9 (.tmp 18) (.tmp 19) hop (.string ⟨(be 8 x).toArray⟩) (.string ⟨(be 8 y).toArray⟩) (.bool (decide (x < y))) (Ev.dep (Dep.at K.hn ho (by kernel_rfl)) rfl) (Ev.dep (Dep.at K.hn ho (by kernel_rfl)) rfl) rfl (fun w' => by have h := be_less x y K.hx K.hy; simp only [eqGuard_lss, binOp_string_lss, str_list, h, Sem.run_bind, Sem.run_pure, Result.andThen_ok])
theorem post3 {Q : Exit → Act → World → Prop} {ac : Act} {w5 : World} {x y : Nat} (K : PoCtx ac x y) (o : Oper) (ho : poOps[3]? = some o) (k : Nat) : PStep Try.prog poOps Q (poF x y) ac w5.drew ((fun _ _ => True) k) ((fun _ _ => True) k) o := by
  obtain ⟨hd, hop, hg⟩ := op_of ho (show _ = some (some 21, .move (.tmp 0), none) by kernel_rfl)
  exact ph_move (Want.plain hg) 21 hd (.tmp 0) hop _ (Ev.old (by kernel_rfl) K.h0) rfl
theorem post4 {Q : Exit → Act → World → Prop} {ac : Act} {w5 : World} {x y : Nat} (K : PoCtx ac x y) (o : Oper) (ho : poOps[4]? = some o) (k : Nat) : PStep Try.prog poOps Q (poF x y) ac w5.drew ((fun _ _ => True) k) ((fun _ _ => True) k) o := by
  obtain ⟨hd, hop, hg⟩ := op_of ho (show _ = some (some 22, .move (.tmp 1), none) by kernel_rfl)
  exact ph_move (Want.plain hg) 22 hd (.tmp 1) hop _ (Ev.old (by kernel_rfl) K.h1) rfl
theorem post5 {Q : Exit → Act → World → Prop} {ac : Act} {w5 : World} {x y : Nat} (K : PoCtx ac x y) (o : Oper) (ho : poOps[5]? = some o) (k : Nat) : PStep Try.prog poOps Q (poF x y) ac w5.drew ((fun _ _ => True) k) ((fun _ _ => True) k) o := by
  obtain ⟨hd, hop, hg⟩ := op_of ho (show _ = some (some 23, .binOp .lss 33 (.tmp 21) (.tmp 22) 33, none) by kernel_rfl)
  exact ph_bin (Want.plain hg) 23 hd .lss 33 33 (.tmp 21) (.tmp 22) hop (.int .u64 (x : Int)) (.int .u64 (y : Int)) (.bool (decide (x < y))) (Ev.dep (Dep.at K.hn ho (by kernel_rfl)) rfl) (Ev.dep (Dep.at K.hn ho (by kernel_rfl)) rfl) rfl (fun w' => by go_simp; try simp)
theorem post6 {Q : Exit → Act → World → Prop} {ac : Act} {w5 : World} {x y : Nat} (K : PoCtx ac x y) (o : Oper) (ho : poOps[6]? = some o) (k : Nat) : PStep Try.prog poOps Q (poF x y) ac w5.drew ((fun _ _ => True) k) ((fun _ _ => True) k) o := by
  obtain ⟨hd, hop, hg⟩ := op_of ho (show _ = some (some 24, .binOp .eql 4 (.tmp 20) (.tmp 23) 4, none) by kernel_rfl)
  exact ph_bin (Want.plain hg) 24 hd .eql 4 4 (.tmp 20) (.tmp 23) hop (.bool (decide (x < y))) (.bool (decide (x < y))) (.bool true) (Ev.dep (Dep.at K.hn ho (by kernel_rfl)) rfl) (Ev.dep (Dep.at K.hn ho (by kernel_rfl)) rfl) rfl (fun w' => by cases decide (x < y) <;> cases decide (x = y) <;> (go_simp; done))
theorem post7 {Q : Exit → Act → World → Prop} {ac : Act} {w5 : World} {x y : Nat} (K : PoCtx ac x y) (o : Oper) (ho : poOps[7]? = some o) (k : Nat) : PStep Try.prog poOps Q (poF x y) ac w5.drew ((fun _ _ => True) k) ((fun _ _ => True) k) o := by
  obtain ⟨hd, hop, hg⟩ := op_of ho (show _ = some (some 25, .move (.tmp 24), none) by kernel_rfl)
  exact ph_move (Want.plain hg) 25 hd (.tmp 24) hop _ (Ev.dep (Dep.at K.hn ho (by kernel_rfl)) rfl) rfl
theorem post8 {Q : Exit → Act → World → Prop} {ac : Act} {w5 : World} {x y : Nat} (K : PoCtx ac x y) (o : Oper) (ho : poOps[8]? = some o) (k : Nat) : PStep Try.prog poOps Q (poF x y) ac w5.drew ((fun _ _ => True) k) ((fun _ _ => True) k) o := by
  obtain ⟨hd, hop, hg⟩ := op_of ho (show _ = some (some 26, .move (.tmp 5), some (7, true)) by kernel_rfl)
  exact ph_move (Want.dep 7 true 25 hg (by kernel_rfl) (Dep.at K.hn ho (by kernel_rfl)) rfl) 26 hd (.tmp 5) hop _ (Ev.old (by kernel_rfl) K.h5) rfl
theorem post9 {Q : Exit → Act → World → Prop} {ac : Act} {w5 : World} {x y : Nat} (K : PoCtx ac x y) (o : Oper) (ho : poOps[9]? = some o) (k : Nat) : PStep Try.prog poOps Q (poF x y) ac w5.drew ((fun _ _ => True) k) ((fun _ _ => True) k) o := by
  obtain ⟨hd, hop, hg⟩ := op_of ho (show _ = some (some 27, .move (.tmp 6), some (7, true)) by kernel_rfl)
  exact ph_move (Want.dep 7 true 25 hg (by kernel_rfl) (Dep.at K.hn ho (by kernel_rfl)) rfl) 27 hd (.tmp 6) hop _ (Ev.old (by kernel_rfl) K.h6) rfl
theorem post10 {Q : Exit → Act → World → Prop} {ac : Act} {w5 : World} {x y : Nat} (K : PoCtx ac x y) (o : Oper) (ho : poOps[10]? = some o) (k : Nat) : PStep Try.prog poOps Q (poF x y) ac w5.drew ((fun _ _ => True) k) ((fun _ _ => True) k) o := by
  obtain ⟨hd, hop, hg⟩ := op_of ho (show _ = some (some 28, .binOp .eql 9 (.tmp 26) (.tmp 27) 9, some (7, true)) by kernel_rfl)
  exact ph_bin (Want.dep 7 true 25 hg (by kernel_rfl) (Dep.at K.hn ho (by kernel_rfl)) rfl) 28 hd .eql 9 9 (.tmp 26) (.tmp 27) hop (.string ⟨(be 8 x).toArray⟩) (.string ⟨(be 8 y).toArray⟩) (.bool (decide (x = y))) (Ev.dep (Dep.at K.hn ho (by kernel_rfl)) rfl) (Ev.dep (Dep.at K.hn ho (by kernel_rfl)) rfl) rfl (fun w' => by have h := be_eq x y K.hx K.hy; simp only [K.eqs, binOp_string_eql, str_list, h, Sem.run_bind, Sem.run_pure, Result.andThen_ok])
theorem post11 {Q : Exit → Act → World → Prop} {ac : Act} {w5 : World} {x y : Nat} (K : PoCtx ac x y) (o : Oper) (ho : poOps[11]? = some o) (k : Nat) : PStep Try.prog poOps Q (poF x y) ac w5.drew ((fun _ _ => True) k) ((fun _ _ => True) k) o := by
  obtain ⟨hd, hop, hg⟩ := op_of ho (show _ = some (some 29, .move (.tmp 0), some (7, true)) by kernel_rfl)
  exact ph_move (Want.dep 7 true 25 hg (by kernel_rfl) (Dep.at K.hn ho (by kernel_rfl)) rfl) 29 hd (.tmp 0) hop _ (Ev.old (by kernel_rfl) K.h0) rfl
theorem post12 {Q : Exit → Act → World → Prop} {ac : Act} {w5 : World} {x y : Nat} (K : PoCtx ac x y) (o : Oper) (ho : poOps[12]? = some o) (k : Nat) : PStep Try.prog poOps Q (poF x y) ac w5.drew ((fun _ _ => True) k) ((fun _ _ => True) k) o := by
  obtain ⟨hd, hop, hg⟩ := op_of ho (show _ = some (some 30, .move (.tmp 1), some (7, true)) by kernel_rfl)
  exact ph_move (Want.dep 7 true 25 hg (by kernel_rfl) (Dep.at K.hn ho (by kernel_rfl)) rfl) 30 hd (.tmp 1) hop _ (Ev.old (by kernel_rfl) K.h1) rfl
theorem post13 {Q : Exit → Act → World → Prop} {ac : Act} {w5 : World} {x y : Nat} (K : PoCtx ac x y) (o : Oper) (ho : poOps[13]? = some o) (k : Nat) : PStep Try.prog poOps Q (poF x y) ac w5.drew ((fun _ _ => True) k) ((fun _ _ => True) k) o := by
  obtain ⟨hd, hop, hg⟩ := op_of ho (show _ = some (some 31, .binOp .eql 33 (.tmp 29) (.tmp 30) 33, some (7, true)) by kernel_rfl)
  exact ph_bin (Want.dep 7 true 25 hg (by kernel_rfl) (Dep.at K.hn ho (by kernel_rfl)) rfl) 31 hd .eql 33 33 (.tmp 29) (.tmp 30) hop (.int .u64 (x : Int)) (.int .u64 (y : Int)) (.bool (decide (x = y))) (Ev.dep (Dep.at K.hn ho (by kernel_rfl)) rfl) (Ev.dep (Dep.at K.hn ho (by kernel_rfl)) rfl) rfl (fun w' => by go_simp; rw [Bool.eq_iff_iff]; simp; omega)
theorem post14 {Q : Exit → Act → World → Prop} {ac : Act} {w5 : World} {x y : Nat} (K : PoCtx ac x y) (o : Oper) (ho : poOps[14]? = some o) (k : Nat) : PStep Try.prog poOps Q (poF x y) ac w5.drew ((fun _ _ => True) k) ((fun _ _ => True) k) o := by
  obtain ⟨hd, hop, hg⟩ := op_of ho (show _ = some (some 32, .binOp .eql 4 (.tmp 28) (.tmp 31) 4, some (7, true)) by kernel_rfl)
  exact ph_bin (Want.dep 7 true 25 hg (by kernel_rfl) (Dep.at K.hn ho (by kernel_rfl)) rfl) 32 hd .eql 4 4 (.tmp 28) (.tmp 31) hop (.bool (decide (x = y))) (.bool (decide (x = y))) (.bool true) (Ev.dep (Dep.at K.hn ho (by kernel_rfl)) rfl) (Ev.dep (Dep.at K.hn ho (by kernel_rfl)) rfl) rfl (fun w' => by cases decide (x < y) <;> cases decide (x = y) <;> (go_simp; done))
theorem post15 {Q : Exit → Act → World → Prop} {ac : Act} {w5 : World} {x y : Nat} (K : PoCtx ac x y) (o : Oper) (ho : poOps[15]? = some o) (k : Nat) : PStep Try.prog poOps Q (poF x y) ac w5.drew ((fun _ _ => True) k) ((fun _ _ => True) k) o := by
  obtain ⟨hd, hop, hg⟩ := op_of ho (show _ = some (some 33, .pick (.tmp 25) (.tmp 32) (.const (.bool false)), none) by kernel_rfl)
  exact ph_pick (Want.plain hg) 33 hd (.tmp 25) (.tmp 32) (.const (.bool false)) hop true (.bool true) (Ev.dep (Dep.at K.hn ho (by kernel_rfl)) rfl) (fun _ => (Ev.dep (Dep.at K.hn ho (by kernel_rfl)) rfl)) (fun h => by cases h) rfl
theorem post16 {Q : Exit → Act → World → Prop} {ac : Act} {w5 : World} {x y : Nat} (K : PoCtx ac x y) (o : Oper) (ho : poOps[16]? = some o) (k : Nat) : PStep Try.prog poOps Q (poF x y) ac w5.drew ((fun _ _ => True) k) ((fun _ _ => True) k) o := by
  obtain ⟨hd, hop, hg⟩ := op_of ho (show _ = some (some 34, .move (.tmp 33), none) by kernel_rfl)
  exact ph_move (Want.plain hg) 34 hd (.tmp 33) hop _ (Ev.dep (Dep.at K.hn ho (by kernel_rfl)) rfl) rfl
theorem post17 {Q : Exit → Act → World → Prop} {ac : Act} {w5 : World} {x y : Nat} (K : PoCtx ac x y) (o : Oper) (ho : poOps[17]? = some o) (k : Nat) : PStep Try.prog poOps Q (poF x y) ac w5.drew ((fun _ _ => True) k) ((fun _ _ => True) k) o := by
  obtain ⟨hd, hop, hg⟩ := op_of ho (show _ = some (some 35, .move (.tmp 0), some (16, true)) by kernel_rfl)
  exact ph_move (Want.dep 16 true 34 hg (by kernel_rfl) (Dep.at K.hn ho (by kernel_rfl)) rfl) 35 hd (.tmp 0) hop _ (Ev.old (by kernel_rfl) K.h0) rfl
theorem post18 {Q : Exit → Act → World → Prop} {ac : Act} {w5 : World} {x y : Nat} (K : PoCtx ac x y) (o : Oper) (ho : poOps[18]? = some o) (k : Nat) : PStep Try.prog poOps Q (poF x y) ac w5.drew ((fun _ _ => True) k) ((fun _ _ => True) k) o := by
  obtain ⟨hd, hop, hg⟩ := op_of ho (show _ = some (some 36, .convert 33 36 (.tmp 35), some (16, true)) by kernel_rfl)
  exact ph_conv (Want.dep 16 true 34 hg (by kernel_rfl) (Dep.at K.hn ho (by kernel_rfl)) rfl) 36 hd 33 36 (.tmp 35) hop (.int .u64 (x : Int)) (.int .u32 ((x % 4294967296 : Nat) : Int)) (Ev.dep (Dep.at K.hn ho (by kernel_rfl)) rfl) rfl (fun w' hG => by have h := K.hx; go_simp; rw [IntKind.wrap_u32])
theorem post19 {Q : Exit → Act → World → Prop} {ac : Act} {w5 : World} {x y : Nat} (K : PoCtx ac x y) (o : Oper) (ho : poOps[19]? = some o) (k : Nat) : PStep Try.prog poOps Q (poF x y) ac w5.drew ((fun _ _ => True) k) ((fun _ _ => True) k) o := by
  obtain ⟨hd, hop, hg⟩ := op_of ho (show _ = some (some 37, .call { callee := .value (.func 20), args := #[(.const (.slice none 0 0)), (.tmp 36)], argTypes := #[23, 36] }, some (16, true)) by kernel_rfl)
  exact ph_call (Want.dep 16 true 34 hg (by kernel_rfl) (Dep.at K.hn ho (by kernel_rfl)) rfl) 37 hd 20 _ _ hop _ Try.func20 (by kernel_rfl) (by kernel_rfl) #[.slice none 0 0, .int .u32 ((x % 4294967296 : Nat) : Int)] (ev2 (Ev.const _) (Ev.dep (Dep.at K.hn ho (by kernel_rfl)) rfl)) (fun w' hG hJ => (u32_any (.slice none 0 0) [] (x % 4294967296) (Nat.mod_lt _ (by decide)) (by decide) w' (BytesIs.nil w')).mono fun e w'' ⟨v, he, hB, hF⟩ => ⟨v, he, hB, GB.of_fr0 hF, trivial⟩)
theorem post20 {Q : Exit → Act → World → Prop} {ac : Act} {w5 : World} {x y : Nat} (K : PoCtx ac x y) (o : Oper) (ho : poOps[20]? = some o) (k : Nat) : PStep Try.prog poOps Q (poF x y) ac w5.drew ((fun _ _ => True) k) ((fun _ _ => True) k) o := by
  obtain ⟨hd, hop, hg⟩ := op_of ho (show _ = some (some 38, .convert 23 9 (.tmp 37), some (16, true)) by kernel_rfl)
  exact ph_convstr (Want.dep 16 true 34 hg (by kernel_rfl) (Dep.at K.hn ho (by kernel_rfl)) rfl) 38 37 hd 23 5 9 hop Try.underlying23 Try.underlying5 Try.underlying9 (Dep.at K.hn ho (by kernel_rfl)) (be 4 (x % 4294967296)) rfl rfl
theorem post21 {Q : Exit → Act → World → Prop} {ac : Act} {w5 : World} {x y : Nat} (K : PoCtx ac x y) (o : Oper) (ho : poOps[21]? = some o) (k : Nat) : PStep Try.prog poOps Q (poF x y) ac w5.drew ((fun _ _ => True) k) ((fun _ _ => True) k) o := by
  obtain ⟨hd, hop, hg⟩ := op_of ho (show _ = some (some 39, .move (.tmp 5), some (16, true)) by kernel_rfl)
  exact ph_move (Want.dep 16 true 34 hg (by kernel_rfl) (Dep.at K.hn ho (by kernel_rfl)) rfl) 39 hd (.tmp 5) hop _ (Ev.old (by kernel_rfl) K.h5) rfl
theorem post22 {Q : Exit → Act → World → Prop} {ac : Act} {w5 : World} {x y : Nat} (K : PoCtx ac x y) (o : Oper) (ho : poOps[22]? = some o) (k : Nat) : PStep Try.prog poOps Q (poF x y) ac w5.drew ((fun _ _ => True) k) ((fun _ _ => True) k) o := by
  obtain ⟨hd, hop, hg⟩ := op_of ho (show _ = some (some 40, .slice 9 (.tmp 39) (some (.const (.int .i64 4))) none none, some (16, true)) by kernel_rfl)
  exact ph_value (Want.dep 16 true 34 hg (by kernel_rfl) (Dep.at K.hn ho (by kernel_rfl)) rfl) 40 hd fun vals w' _ _ hdp => ⟨_, by have e1 : (frm ac (dsts poOps) vals).eval (.tmp 39) = .string ⟨(be 8 x).toArray⟩ := (Ev.dep (F := poF x y) (Dep.at K.hn ho (by kernel_rfl)) rfl) vals w' hdp; have e2 := K.s4 w'; unfold execOp; have ec : (frm ac (dsts poOps) vals).eval (.const (.int .i64 4)) = .int .i64 4 := rfl; simp only [hop, Option.map_some, Option.map_none, e1, ec, e2, Sem.run_bind, Sem.run_pure, Result.andThen_ok], rfl⟩
theorem post23 {Q : Exit → Act → World → Prop} {ac : Act} {w5 : World} {x y : Nat} (K : PoCtx ac x y) (o : Oper) (ho : poOps[23]? = some o) (k : Nat) : PStep Try.prog poOps Q (poF x y) ac w5.drew ((fun _ _ => True) k) ((fun _ _ => True) k) o := by
  obtain ⟨hd, hop, hg⟩ := op_of ho (show _ = some (some 41, .binOp .eql 9 (.tmp 38) (.tmp 40) 9, some (16, true)) by kernel_rfl)
  exact ph_bin (Want.dep 16 true 34 hg (by kernel_rfl) (Dep.at K.hn ho (by kernel_rfl)) rfl) 41 hd .eql 9 9 (.tmp 38) (.tmp 40) hop (.string ⟨((be 4 (x % 4294967296))).toArray⟩) (.string ⟨((be 8 x).drop 4).toArray⟩) (.bool true) (Ev.dep (Dep.at K.hn ho (by kernel_rfl)) rfl) (Ev.dep (Dep.at K.hn ho (by kernel_rfl)) rfl) rfl (fun w' => by simp only [K.eqs, binOp_string_eql, Sem.run_bind, Sem.run_pure, Result.andThen_ok, K.d4]; simp)
theorem post24 {Q : Exit → Act → World → Prop} {ac : Act} {w5 : World} {x y : Nat} (K : PoCtx ac x y) (o : Oper) (ho : poOps[24]? = some o) (k : Nat) : PStep Try.prog poOps Q (poF x y) ac w5.drew ((fun _ _ => True) k) ((fun _ _ => True) k) o := by
  obtain ⟨hd, hop, hg⟩ := op_of ho (show _ = some (some 42, .pick (.tmp 34) (.tmp 41) (.const (.bool false)), none) by kernel_rfl)
  exact ph_pick (Want.plain hg) 42 hd (.tmp 34) (.tmp 41) (.const (.bool false)) hop true (.bool true) (Ev.dep (Dep.at K.hn ho (by kernel_rfl)) rfl) (fun _ => (Ev.dep (Dep.at K.hn ho (by kernel_rfl)) rfl)) (fun h => by cases h) rfl
theorem post25 {Q : Exit → Act → World → Prop} {ac : Act} {w5 : World} {x y : Nat} (K : PoCtx ac x y) (o : Oper) (ho : poOps[25]? = some o) (k : Nat) : PStep Try.prog poOps Q (poF x y) ac w5.drew ((fun _ _ => True) k) ((fun _ _ => True) k) o := by
  obtain ⟨hd, hop, hg⟩ := op_of ho (show _ = some (some 43, .move (.tmp 42), none) by kernel_rfl)
  exact ph_move (Want.plain hg) 43 hd (.tmp 42) hop _ (Ev.dep (Dep.at K.hn ho (by kernel_rfl)) rfl) rfl
theorem post26 {Q : Exit → Act → World → Prop} {ac : Act} {w5 : World} {x y : Nat} (K : PoCtx ac x y) (o : Oper) (ho : poOps[26]? = some o) (k : Nat) : PStep Try.prog poOps Q (poF x y) ac w5.drew ((fun _ _ => True) k) ((fun _ _ => True) k) o := by
  obtain ⟨hd, hop, hg⟩ := op_of ho (show _ = some (some 44, .move (.tmp 0), some (25, true)) by kernel_rfl)
  exact ph_move (Want.dep 25 true 43 hg (by kernel_rfl) (Dep.at K.hn ho (by kernel_rfl)) rfl) 44 hd (.tmp 0) hop _ (Ev.old (by kernel_rfl) K.h0) rfl
theorem post27 {Q : Exit → Act → World → Prop} {ac : Act} {w5 : World} {x y : Nat} (K : PoCtx ac x y) (o : Oper) (ho : poOps[27]? = some o) (k : Nat) : PStep Try.prog poOps Q (poF x y) ac w5.drew ((fun _ _ => True) k) ((fun _ _ => True) k) o := by
  obtain ⟨hd, hop, hg⟩ := op_of ho (show _ = some (some 45, .convert 33 47 (.tmp 44), some (25, true)) by kernel_rfl)
  exact ph_conv (Want.dep 25 true 43 hg (by kernel_rfl) (Dep.at K.hn ho (by kernel_rfl)) rfl) 45 hd 33 47 (.tmp 44) hop (.int .u64 (x : Int)) (.int .u16 ((x % 65536 : Nat) : Int)) (Ev.dep (Dep.at K.hn ho (by kernel_rfl)) rfl) rfl (fun w' hG => by have h := K.hx; go_simp; rw [IntKind.wrap_u16])
theorem post28 {Q : Exit → Act → World → Prop} {ac : Act} {w5 : World} {x y : Nat} (K : PoCtx ac x y) (o : Oper) (ho : poOps[28]? = some o) (k : Nat) : PStep Try.prog poOps Q (poF x y) ac w5.drew ((fun _ _ => True) k) ((fun _ _ => True) k) o := by
  obtain ⟨hd, hop, hg⟩ := op_of ho (show _ = some (some 46, .call { callee := .value (.func 25), args := #[(.const (.slice none 0 0)), (.tmp 45)], argTypes := #[23, 47] }, some (25, true)) by kernel_rfl)
  exact ph_call (Want.dep 25 true 43 hg (by kernel_rfl) (Dep.at K.hn ho (by kernel_rfl)) rfl) 46 hd 25 _ _ hop _ Try.func25 (by kernel_rfl) (by kernel_rfl) #[.slice none 0 0, .int .u16 ((x % 65536 : Nat) : Int)] (ev2 (Ev.const _) (Ev.dep (Dep.at K.hn ho (by kernel_rfl)) rfl)) (fun w' hG hJ => (u16_any (.slice none 0 0) [] (x % 65536) (Nat.mod_lt _ (by decide)) (by decide) w' (BytesIs.nil w')).mono fun e w'' ⟨v, he, hB, hF⟩ => ⟨v, he, hB, GB.of_fr0 hF, trivial⟩)
theorem post29 {Q : Exit → Act → World → Prop} {ac : Act} {w5 : World} {x y : Nat} (K : PoCtx ac x y) (o : Oper) (ho : poOps[29]? = some o) (k : Nat) : PStep Try.prog poOps Q (poF x y) ac w5.drew ((fun _ _ => True) k) ((fun _ _ => True) k) o := by
  obtain ⟨hd, hop, hg⟩ := op_of ho (show _ = some (some 47, .convert 23 9 (.tmp 46), some (25, true)) by kernel_rfl)
  exact ph_convstr (Want.dep 25 true 43 hg (by kernel_rfl) (Dep.at K.hn ho (by kernel_rfl)) rfl) 47 46 hd 23 5 9 hop Try.underlying23 Try.underlying5 Try.underlying9 (Dep.at K.hn ho (by kernel_rfl)) (be 2 (x % 65536)) rfl rfl
theorem post30 {Q : Exit → Act → World → Prop} {ac : Act} {w5 : World} {x y : Nat} (K : PoCtx ac x y) (o : Oper) (ho : poOps[30]? = some o) (k : Nat) : PStep Try.prog poOps Q (poF x y) ac w5.drew ((fun _ _ => True) k) ((fun _ _ => True) k) o := by
  obtain ⟨hd, hop, hg⟩ := op_of ho (show _ = some (some 48, .move (.tmp 5), some (25, true)) by kernel_rfl)
  exact ph_move (Want.dep 25 true 43 hg (by kernel_rfl) (Dep.at K.hn ho (by kernel_rfl)) rfl) 48 hd (.tmp 5) hop _ (Ev.old (by kernel_rfl) K.h5) rfl
theorem post31 {Q : Exit → Act → World → Prop} {ac : Act} {w5 : World} {x y : Nat} (K : PoCtx ac x y) (o : Oper) (ho : poOps[31]? = some o) (k : Nat) : PStep Try.prog poOps Q (poF x y) ac w5.drew ((fun _ _ => True) k) ((fun _ _ => True) k) o := by
  obtain ⟨hd, hop, hg⟩ := op_of ho (show _ = some (some 49, .slice 9 (.tmp 48) (some (.const (.int .i64 6))) none none, some (25, true)) by kernel_rfl)
  exact ph_value (Want.dep 25 true 43 hg (by kernel_rfl) (Dep.at K.hn ho (by kernel_rfl)) rfl) 49 hd fun vals w' _ _ hdp => ⟨_, by have e1 : (frm ac (dsts poOps) vals).eval (.tmp 48) = .string ⟨(be 8 x).toArray⟩ := (Ev.dep (F := poF x y) (Dep.at K.hn ho (by kernel_rfl)) rfl) vals w' hdp; have e2 := K.s6 w'; unfold execOp; have ec : (frm ac (dsts poOps) vals).eval (.const (.int .i64 6)) = .int .i64 6 := rfl; simp only [hop, Option.map_some, Option.map_none, e1, ec, e2, Sem.run_bind, Sem.run_pure, Result.andThen_ok], rfl⟩
theorem post32 {Q : Exit → Act → World → Prop} {ac : Act} {w5 : World} {x y : Nat} (K : PoCtx ac x y) (o : Oper) (ho : poOps[32]? = some o) (k : Nat) : PStep Try.prog poOps Q (poF x y) ac w5.drew ((fun _ _ => True) k) ((fun _ _ => True) k) o := by
  obtain ⟨hd, hop, hg⟩ := op_of ho (show _ = some (some 50, .binOp .eql 9 (.tmp 47) (.tmp 49) 9, some (25, true)) by kernel_rfl)
  exact ph_bin (Want.dep 25 true 43 hg (by kernel_rfl) (Dep.at K.hn ho (by kernel_rfl)) rfl) 50 hd .eql 9 9 (.tmp 47) (.tmp 49) hop (.string ⟨((be 2 (x % 65536))).toArray⟩) (.string ⟨((be 8 x).drop 6).toArray⟩) (.bool true) (Ev.dep (Dep.at K.hn ho (by kernel_rfl)) rfl) (Ev.dep (Dep.at K.hn ho (by kernel_rfl)) rfl) rfl (fun w' => by simp only [K.eqs, binOp_string_eql, Sem.run_bind, Sem.run_pure, Result.andThen_ok, K.d2]; simp)
theorem post33 {Q : Exit → Act → World → Prop} {ac : Act} {w5 : World} {x y : Nat} (K : PoCtx ac x y) (o : Oper) (ho : poOps[33]? = some o) (k : Nat) : PStep Try.prog poOps Q (poF x y) ac w5.drew ((fun _ _ => True) k) ((fun _ _ => True) k) o := by
  obtain ⟨hd, hop, hg⟩ := op_of ho (show _ = some (some 51, .pick (.tmp 43) (.tmp 50) (.const (.bool false)), none) by kernel_rfl)
  exact ph_pick (Want.plain hg) 51 hd (.tmp 43) (.tmp 50) (.const (.bool false)) hop true (.bool true) (Ev.dep (Dep.at K.hn ho (by kernel_rfl)) rfl) (fun _ => (Ev.dep (Dep.at K.hn ho (by kernel_rfl)) rfl)) (fun h => by cases h) rfl
theorem post34 {Q : Exit → Act → World → Prop} {ac : Act} {w5 : World} {x y : Nat} (K : PoCtx ac x y) (o : Oper) (ho : poOps[34]? = some o) (k : Nat) : PStep Try.prog poOps Q (poF x y) ac w5.drew ((fun _ _ => True) k) ((fun _ _ => True) k) o := by
  obtain ⟨hd, hop, hg⟩ := op_of ho (show _ = some (some 52, .move (.tmp 51), none) by kernel_rfl)
  exact ph_move (Want.plain hg) 52 hd (.tmp 51) hop _ (Ev.dep (Dep.at K.hn ho (by kernel_rfl)) rfl) rfl
theorem post35 {Q : Exit → Act → World → Prop} {ac : Act} {w5 : World} {x y : Nat} (K : PoCtx ac x y) (o : Oper) (ho : poOps[35]? = some o) (k : Nat) : PStep Try.prog poOps Q (poF x y) ac w5.drew ((fun _ _ => True) k) ((fun _ _ => True) k) o := by
  obtain ⟨hd, hop, hg⟩ := op_of ho (show _ = some (some 53, .move (.tmp 0), some (34, true)) by kernel_rfl)
  exact ph_move (Want.dep 34 true 52 hg (by kernel_rfl) (Dep.at K.hn ho (by kernel_rfl)) rfl) 53 hd (.tmp 0) hop _ (Ev.old (by kernel_rfl) K.h0) rfl
theorem post36 {Q : Exit → Act → World → Prop} {ac : Act} {w5 : World} {x y : Nat} (K : PoCtx ac x y) (o : Oper) (ho : poOps[36]? = some o) (k : Nat) : PStep Try.prog poOps Q (poF x y) ac w5.drew ((fun _ _ => True) k) ((fun _ _ => True) k) o := by
  obtain ⟨hd, hop, hg⟩ := op_of ho (show _ = some (some 54, .convert 33 5 (.tmp 53), some (34, true)) by kernel_rfl)
  exact ph_conv (Want.dep 34 true 52 hg (by kernel_rfl) (Dep.at K.hn ho (by kernel_rfl)) rfl) 54 hd 33 5 (.tmp 53) hop (.int .u64 (x : Int)) (.int .u8 ((x % 256 : Nat) : Int)) (Ev.dep (Dep.at K.hn ho (by kernel_rfl)) rfl) rfl (fun w' hG => by have h := K.hx; go_simp; rw [IntKind.wrap_u8])
theorem post37 {Q : Exit → Act → World → Prop} {ac : Act} {w5 : World} {x y : Nat} (K : PoCtx ac x y) (o : Oper) (ho : poOps[37]? = some o) (k : Nat) : PStep Try.prog poOps Q (poF x y) ac w5.drew ((fun _ _ => True) k) ((fun _ _ => True) k) o := by
  obtain ⟨hd, hop, hg⟩ := op_of ho (show _ = some (some 55, .call { callee := .value (.func 10), args := #[(.const (.slice none 0 0)), (.tmp 54)], argTypes := #[23, 5] }, some (34, true)) by kernel_rfl)
  exact ph_call (Want.dep 34 true 52 hg (by kernel_rfl) (Dep.at K.hn ho (by kernel_rfl)) rfl) 55 hd 10 _ _ hop _ Try.func10 (by kernel_rfl) (by kernel_rfl) #[.slice none 0 0, .int .u8 ((x % 256 : Nat) : Int)] (ev2 (Ev.const _) (Ev.dep (Dep.at K.hn ho (by kernel_rfl)) rfl)) (fun w' hG hJ => (u8_any (.slice none 0 0) [] (x % 256) (Nat.mod_lt _ (by decide)) (by decide) w' (BytesIs.nil w')).mono fun e w'' ⟨v, he, hB, hF⟩ => ⟨v, he, hB, GB.of_fr0 hF, trivial⟩)
theorem post38 {Q : Exit → Act → World → Prop} {ac : Act} {w5 : World} {x y : Nat} (K : PoCtx ac x y) (o : Oper) (ho : poOps[38]? = some o) (k : Nat) : PStep Try.prog poOps Q (poF x y) ac w5.drew ((fun _ _ => True) k) ((fun _ _ => True) k) o := by
  obtain ⟨hd, hop, hg⟩ := op_of ho (show _ = some (some 56, .convert 23 9 (.tmp 55), some (34, true)) by kernel_rfl)
  exact ph_convstr (Want.dep 34 true 52 hg (by kernel_rfl) (Dep.at K.hn ho (by kernel_rfl)) rfl) 56 55 hd 23 5 9 hop Try.underlying23 Try.underlying5 Try.underlying9 (Dep.at K.hn ho (by kernel_rfl)) (be 1 (x % 256)) rfl rfl
theorem post39 {Q : Exit → Act → World → Prop} {ac : Act} {w5 : World} {x y : Nat} (K : PoCtx ac x y) (o : Oper) (ho : poOps[39]? = some o) (k : Nat) : PStep Try.prog poOps Q (poF x y) ac w5.drew ((fun _ _ => True) k) ((fun _ _ => True) k) o := by
  obtain ⟨hd, hop, hg⟩ := op_of ho (show _ = some (some 57, .move (.tmp 5), some (34, true)) by kernel_rfl)
  exact ph_move (Want.dep 34 true 52 hg (by kernel_rfl) (Dep.at K.hn ho (by kernel_rfl)) rfl) 57 hd (.tmp 5) hop _ (Ev.old (by kernel_rfl) K.h5) rfl
theorem post40 {Q : Exit → Act → World → Prop} {ac : Act} {w5 : World} {x y : Nat} (K : PoCtx ac x y) (o : Oper) (ho : poOps[40]? = some o) (k : Nat) : PStep Try.prog poOps Q (poF x y) ac w5.drew ((fun _ _ => True) k) ((fun _ _ => True) k) o := by
  obtain ⟨hd, hop, hg⟩ := op_of ho (show _ = some (some 58, .slice 9 (.tmp 57) (some (.const (.int .i64 7))) none none, some (34, true)) by kernel_rfl)
  exact ph_value (Want.dep 34 true 52 hg (by kernel_rfl) (Dep.at K.hn ho (by kernel_rfl)) rfl) 58 hd fun vals w' _ _ hdp => ⟨_, by have e1 : (frm ac (dsts poOps) vals).eval (.tmp 57) = .string ⟨(be 8 x).toArray⟩ := (Ev.dep (F := poF x y) (Dep.at K.hn ho (by kernel_rfl)) rfl) vals w' hdp; have e2 := K.s7 w'; unfold execOp; have ec : (frm ac (dsts poOps) vals).eval (.const (.int .i64 7)) = .int .i64 7 := rfl; simp only [hop, Option.map_some, Option.map_none, e1, ec, e2, Sem.run_bind, Sem.run_pure, Result.andThen_ok], rfl⟩
theorem post41 {Q : Exit → Act → World → Prop} {ac : Act} {w5 : World} {x y : Nat} (K : PoCtx ac x y) (o : Oper) (ho : poOps[41]? = some o) (k : Nat) : PStep Try.prog poOps Q (poF x y) ac w5.drew ((fun _ _ => True) k) ((fun _ _ => True) k) o := by
  obtain ⟨hd, hop, hg⟩ := op_of ho (show _ = some (some 59, .binOp .eql 9 (.tmp 56) (.tmp 58) 9, some (34, true)) by kernel_rfl)
  exact ph_bin (Want.dep 34 true 52 hg (by kernel_rfl) (Dep.at K.hn ho (by kernel_rfl)) rfl) 59 hd .eql 9 9 (.tmp 56) (.tmp 58) hop (.string ⟨((be 1 (x % 256))).toArray⟩) (.string ⟨((be 8 x).drop 7).toArray⟩) (.bool true) (Ev.dep (Dep.at K.hn ho (by kernel_rfl)) rfl) (Ev.dep (Dep.at K.hn ho (by kernel_rfl)) rfl) rfl (fun w' => by simp only [K.eqs, binOp_string_eql, Sem.run_bind, Sem.run_pure, Result.andThen_ok, K.d1]; simp)
theorem post42 {Q : Exit → Act → World → Prop} {ac : Act} {w5 : World} {x y : Nat} (K : PoCtx ac x y) (o : Oper) (ho : poOps[42]? = some o) (k : Nat) : PStep Try.prog poOps Q (poF x y) ac w5.drew ((fun _ _ => True) k) ((fun _ _ => True) k) o := by
  obtain ⟨hd, hop, hg⟩ := op_of ho (show _ = some (some 60, .pick (.tmp 52) (.tmp 59) (.const (.bool false)), none) by kernel_rfl)
  exact ph_pick (Want.plain hg) 60 hd (.tmp 52) (.tmp 59) (.const (.bool false)) hop true (.bool true) (Ev.dep (Dep.at K.hn ho (by kernel_rfl)) rfl) (fun _ => (Ev.dep (Dep.at K.hn ho (by kernel_rfl)) rfl)) (fun h => by cases h) rfl
theorem post43 {Q : Exit → Act → World → Prop} {ac : Act} {w5 : World} {x y : Nat} (K : PoCtx ac x y) (o : Oper) (ho : poOps[43]? = some o) (k : Nat) : PStep Try.prog poOps Q (poF x y) ac w5.drew ((fun _ _ => True) k) ((fun _ _ => True) k) o := by
  obtain ⟨hd, hop, hg⟩ := op_of ho (show _ = some (some 4, .assign (.tmp 60), none) by kernel_rfl)
  exact ph_assign (Want.plain hg) 4 hd (.tmp 60) hop _ (Ev.dep (Dep.at K.hn ho (by kernel_rfl)) rfl) rfl
theorem poLen : poOps.length = 44 := by kernel_rfl
theorem po_region {Q : Exit → Act → World → Prop} {id : Nat} {ac : Act} {w5 : World} {x y : Nat} (K : PoCtx ac x y) (h0 : (fun _ _ => True) 0 w5.drew)
    (hQ : ∀ (a' : Act) (w' : World), GB (fun _ => False) w5 w' → (fun _ _ => True) 0 w' → a'.defers = ac.defers → a'.eval (.tmp 4) = .bool true → Q .normal a' w') : (Code.region id poOps.toArray true).wp Try.prog Q ac w5 := by
  refine region_phase (poF x y) (fun _ _ => True) [] (by kernel_rfl) (by kernel_rfl) (by rw [K.hn]; kernel_rfl) (by kernel_rfl) h0 (fun i o ho hni k hk => ?_) (fun k i o hk ho => ?_) (by rw [poLen]; decide) (fun vals w' hF hJ hv => ?_)
  · have hi : i < 44 := by rw [← poLen]; exact (List.getElem?_eq_some_iff.1 ho).1
    match i, hi, ho with
    | 0, _, ho => exact post0 K o ho k
    | 1, _, ho => exact post1 K o ho k
    | 2, _, ho => exact post2 K o ho k
    | 3, _, ho => exact post3 K o ho k
    | 4, _, ho => exact post4 K o ho k
    | 5, _, ho => exact post5 K o ho k
    | 6, _, ho => exact post6 K o ho k
    | 7, _, ho => exact post7 K o ho k
    | 8, _, ho => exact post8 K o ho k
    | 9, _, ho => exact post9 K o ho k
    | 10, _, ho => exact post10 K o ho k
    | 11, _, ho => exact post11 K o ho k
    | 12, _, ho => exact post12 K o ho k
    | 13, _, ho => exact post13 K o ho k
    | 14, _, ho => exact post14 K o ho k
    | 15, _, ho => exact post15 K o ho k
    | 16, _, ho => exact post16 K o ho k
    | 17, _, ho => exact post17 K o ho k
    | 18, _, ho => exact post18 K o ho k
    | 19, _, ho => exact post19 K o ho k
    | 20, _, ho => exact post20 K o ho k
    | 21, _, ho => exact post21 K o ho k
    | 22, _, ho => exact post22 K o ho k
    | 23, _, ho => exact post23 K o ho k
    | 24, _, ho => exact post24 K o ho k
    | 25, _, ho => exact post25 K o ho k
    | 26, _, ho => exact post26 K o ho k
    | 27, _, ho => exact post27 K o ho k
    | 28, _, ho => exact post28 K o ho k
    | 29, _, ho => exact post29 K o ho k
    | 30, _, ho => exact post30 K o ho k
    | 31, _, ho => exact post31 K o ho k
    | 32, _, ho => exact post32 K o ho k
    | 33, _, ho => exact post33 K o ho k
    | 34, _, ho => exact post34 K o ho k
    | 35, _, ho => exact post35 K o ho k
    | 36, _, ho => exact post36 K o ho k
    | 37, _, ho => exact post37 K o ho k
    | 38, _, ho => exact post38 K o ho k
    | 39, _, ho => exact post39 K o ho k
    | 40, _, ho => exact post40 K o ho k
    | 41, _, ho => exact post41 K o ho k
    | 42, _, ho => exact post42 K o ho k
    | 43, _, ho => exact post43 K o ho k
  · match k, hk with
    | k, hk => simp at hk
  · refine hQ _ w' (GB.trans (GB.of_fr0 ((Fr.refl _ _).drew)) hF) hJ rfl  ?_
    · have hm : (4 : Nat) ∈ dsts poOps := List.contains_iff_mem.1 (by kernel_rfl)
      rw [frm_eval ac _ vals 4 hm (by rw [K.hn]; decide)]
      exact hv 4 hm
end Go.Proofs.Ytheednoklgccdaa.Pack
