/-
  HoldPlays' drawn statements (made by wip/tools/holdplays.py).
-/
import Derived.Test.YtkdpdbjefehmpaaHoldTwoNew
import Derived.Test.YtkdpdbjefehmpaaHoldAlike
import Derived.Test.YtkdpdbjefehmpaaPhaseW
namespace Go.Proofs.Ytkdpdbjefehmpaa.Hold
open Go.RowKit Base Go.Maps Arena Pw
open Blocks (BlkR whole whole_le frees nints nvals tout took terr give gave gerr)

theorem ids_dec {l : List Int} : decide (l = l) = true := by simp
def hdS (w0 : World) (Ex : Nat → Prop) : Keep := ⟨fun k => w0.heap.size ≤ k ∧ ¬ Ex k, fun _ => True, fun _ => True, fun _ _ _ h => h, fun _ _ _ h => h⟩
/-- both sides, behind so many of the two calls -/
def hdJ (w0 : World) (Ex : Nat → Prop) (c : Cs) (s t : Vs) (i : Nat) (N : Int) : Nat → World → Prop
  | 0 => fun w => Two 2 2 w0 w Ex c s t
  | 1 => fun w => Two 2 2 w0 w Ex c (s.drop i N) t
  | 2 => fun w => Two 2 2 w0 w Ex c (s.drop i N) (t.drop i N)
  | _ => fun _ => False
structure HdCtx (a : Act) (w5 : World) (w0 : World) (Ex : Nat → Prop) (c : Cs) (s t : Vs) (i : Nat) (N ec : Int) (pb po n1 c1 j : Nat) : Prop where
  hn : a.tmps.size = 256
  h2 : a.eval (.tmp 2) = .slice (some ⟨pb, po, none⟩) n1 c1
  h18 : a.eval (.tmp 18) = .int .i64 (j : Int)
  h19 : a.eval (.tmp 19) = .pointer (some ⟨c.G i, 0, none⟩)
  h20 : a.eval (.tmp 20) = .pointer (some ⟨c.V i, 0, none⟩)
  i1 : (j : Int) < (n1 : Int)
  i2 : 0 ≤ (j : Int)
  i3 : n1 ≤ 100
  i0 : i < 2
  hp : t.p i ≤ 1000000
  hN : -9223372036854775808 ≤ N ∧ N ≤ 9223372036854775807
  e1 : err N (s.es i) = ec
  e2 : err N (t.es i) = ec
  cell : ∀ W, Fr (fun k => w0.heap.size ≤ k ∧ ¬ Ex k) w5.drew W → W.cell? ⟨pb, po + j * 4 + 2, none⟩ = some (.int .i64 N)
noncomputable def hdOps : List Oper := (((Try.f4.body.bind (regionOps 36))).getD #[]).toList
def hdF (w0 : World) (Ex : Nat → Prop) (c : Cs) (s t : Vs) (i : Nat) (N ec : Int) (pb po n1 c1 j : Nat) : Nat → Fact (hdS w0 Ex)
  | 206 => Fact.is (.pointer (some ⟨c.G i, 0, none⟩))
  | 207 => Fact.is (.slice (some ⟨pb, po, none⟩) n1 c1)
  | 208 => Fact.is (.int .i64 (j : Int))
  | 209 => Fact.is (.pointer (some ⟨pb, po + j * 4, none⟩))
  | 210 => Fact.is (.pointer (some ⟨pb, po + j * 4 + 2, none⟩))
  | 211 => Fact.is (.int .i64 N)
  | 212 => Fact.is (.int .i64 ec)
  | 213 => Fact.is (.pointer (some ⟨c.V i, 0, none⟩))
  | 214 => Fact.is (.slice (some ⟨pb, po, none⟩) n1 c1)
  | 215 => Fact.is (.int .i64 (j : Int))
  | 216 => Fact.is (.pointer (some ⟨pb, po + j * 4, none⟩))
  | 217 => Fact.is (.pointer (some ⟨pb, po + j * 4 + 2, none⟩))
  | 218 => Fact.is (.int .i64 N)
  | 219 => Fact.is (.int .i64 ec)
  | 220 => Fact.is (.bool false)
  | _ => Fact.any
theorem hdst0 {Q : Exit → Act → World → Prop} {ac : Act} {w5 : World} {w0 : World} {Ex : Nat → Prop} {c : Cs} {s t : Vs} {i : Nat} {N ec : Int} {pb po n1 c1 j : Nat} (K : HdCtx ac w5 w0 Ex c s t i N ec pb po n1 c1 j) (o : Oper) (ho : hdOps[0]? = some o) (k : Nat) : PStep Try.prog hdOps Q (hdF w0 Ex c s t i N ec pb po n1 c1 j) ac w5.drew ((hdJ w0 Ex c s t i N) k) ((hdJ w0 Ex c s t i N) k) o := by
  obtain ⟨hd, hop, hg⟩ := op_of ho (show _ = some (some 206, .move (.tmp 19), none) by kernel_rfl)
  exact ph_move (Want.plain hg) 206 hd (.tmp 19) hop _ (Ev.old (by kernel_rfl) K.h19) rfl
theorem hdst1 {Q : Exit → Act → World → Prop} {ac : Act} {w5 : World} {w0 : World} {Ex : Nat → Prop} {c : Cs} {s t : Vs} {i : Nat} {N ec : Int} {pb po n1 c1 j : Nat} (K : HdCtx ac w5 w0 Ex c s t i N ec pb po n1 c1 j) (o : Oper) (ho : hdOps[1]? = some o) (k : Nat) : PStep Try.prog hdOps Q (hdF w0 Ex c s t i N ec pb po n1 c1 j) ac w5.drew ((hdJ w0 Ex c s t i N) k) ((hdJ w0 Ex c s t i N) k) o := by
  obtain ⟨hd, hop, hg⟩ := op_of ho (show _ = some (some 207, .move (.tmp 2), none) by kernel_rfl)
  exact ph_move (Want.plain hg) 207 hd (.tmp 2) hop _ (Ev.old (by kernel_rfl) K.h2) rfl
theorem hdst2 {Q : Exit → Act → World → Prop} {ac : Act} {w5 : World} {w0 : World} {Ex : Nat → Prop} {c : Cs} {s t : Vs} {i : Nat} {N ec : Int} {pb po n1 c1 j : Nat} (K : HdCtx ac w5 w0 Ex c s t i N ec pb po n1 c1 j) (o : Oper) (ho : hdOps[2]? = some o) (k : Nat) : PStep Try.prog hdOps Q (hdF w0 Ex c s t i N ec pb po n1 c1 j) ac w5.drew ((hdJ w0 Ex c s t i N) k) ((hdJ w0 Ex c s t i N) k) o := by
  obtain ⟨hd, hop, hg⟩ := op_of ho (show _ = some (some 208, .move (.tmp 18), none) by kernel_rfl)
  exact ph_move (Want.plain hg) 208 hd (.tmp 18) hop _ (Ev.old (by kernel_rfl) K.h18) rfl
theorem hdst3 {Q : Exit → Act → World → Prop} {ac : Act} {w5 : World} {w0 : World} {Ex : Nat → Prop} {c : Cs} {s t : Vs} {i : Nat} {N ec : Int} {pb po n1 c1 j : Nat} (K : HdCtx ac w5 w0 Ex c s t i N ec pb po n1 c1 j) (o : Oper) (ho : hdOps[3]? = some o) (k : Nat) : PStep Try.prog hdOps Q (hdF w0 Ex c s t i N ec pb po n1 c1 j) ac w5.drew ((hdJ w0 Ex c s t i N) k) ((hdJ w0 Ex c s t i N) k) o := by
  obtain ⟨hd, hop, hg⟩ := op_of ho (show _ = some (some 209, .indexAddr 41 (.tmp 207) (.tmp 208), none) by kernel_rfl)
  exact ph_value (Want.plain hg) 209 hd fun vals w' _ _ hdp => ⟨_, by have e1 : (frm ac (dsts hdOps) vals).eval (.tmp 207) = .slice (some ⟨pb, po, none⟩) n1 c1 := (Ev.dep (F := hdF w0 Ex c s t i N ec pb po n1 c1 j) (Dep.at K.hn ho (by kernel_rfl)) rfl) vals w' hdp; have e2 : (frm ac (dsts hdOps) vals).eval (.tmp 208) = .int .i64 (j : Int) := (Ev.dep (F := hdF w0 Ex c s t i N ec pb po n1 c1 j) (Dep.at K.hn ho (by kernel_rfl)) rfl) vals w' hdp; have h1 := K.i1; have h2 := K.i2; have h3 := K.i3; unfold execOp; simp only [hop, e1, e2]; go_simp, rfl⟩
theorem hdst4 {Q : Exit → Act → World → Prop} {ac : Act} {w5 : World} {w0 : World} {Ex : Nat → Prop} {c : Cs} {s t : Vs} {i : Nat} {N ec : Int} {pb po n1 c1 j : Nat} (K : HdCtx ac w5 w0 Ex c s t i N ec pb po n1 c1 j) (o : Oper) (ho : hdOps[4]? = some o) (k : Nat) : PStep Try.prog hdOps Q (hdF w0 Ex c s t i N ec pb po n1 c1 j) ac w5.drew ((hdJ w0 Ex c s t i N) k) ((hdJ w0 Ex c s t i N) k) o := by
  obtain ⟨hd, hop, hg⟩ := op_of ho (show _ = some (some 210, .fieldAddr 51 (.tmp 209) 2, none) by kernel_rfl)
  exact ph_value (Want.plain hg) 210 hd fun vals w' _ _ hdp => ⟨_, by have e1 : (frm ac (dsts hdOps) vals).eval (.tmp 209) = .pointer (some ⟨pb, po + j * 4, none⟩) := (Ev.dep (F := hdF w0 Ex c s t i N ec pb po n1 c1 j) (Dep.at K.hn ho (by kernel_rfl)) rfl) vals w' hdp; unfold execOp; simp only [hop, e1]; go_simp, rfl⟩
theorem hdst5 {Q : Exit → Act → World → Prop} {ac : Act} {w5 : World} {w0 : World} {Ex : Nat → Prop} {c : Cs} {s t : Vs} {i : Nat} {N ec : Int} {pb po n1 c1 j : Nat} (K : HdCtx ac w5 w0 Ex c s t i N ec pb po n1 c1 j) (o : Oper) (ho : hdOps[5]? = some o) (k : Nat) : PStep Try.prog hdOps Q (hdF w0 Ex c s t i N ec pb po n1 c1 j) ac w5.drew ((hdJ w0 Ex c s t i N) k) ((hdJ w0 Ex c s t i N) k) o := by
  obtain ⟨hd, hop, hg⟩ := op_of ho (show _ = some (some 211, .load 3 (.tmp 210), none) by kernel_rfl)
  exact ph_value (Want.plain hg) 211 hd fun vals w' hG hJ hdp => ⟨_, by have e1 : (frm ac (dsts hdOps) vals).eval (.tmp 210) = .pointer (some ⟨pb, po + j * 4 + 2, none⟩) := (Ev.dep (F := hdF w0 Ex c s t i N ec pb po n1 c1 j) (Dep.at K.hn ho (by kernel_rfl)) rfl) vals w' hdp; have c1 := K.cell w' hG.fr; unfold execOp; simp only [hop, e1]; go_simp, rfl⟩
theorem hdst6 {Q : Exit → Act → World → Prop} {ac : Act} {w5 : World} {w0 : World} {Ex : Nat → Prop} {c : Cs} {s t : Vs} {i : Nat} {N ec : Int} {pb po n1 c1 j : Nat} (K : HdCtx ac w5 w0 Ex c s t i N ec pb po n1 c1 j) (o : Oper) (ho : hdOps[6]? = some o) : PStep Try.prog hdOps Q (hdF w0 Ex c s t i N ec pb po n1 c1 j) ac w5.drew ((hdJ w0 Ex c s t i N) 0) ((hdJ w0 Ex c s t i N) 1) o := by
  obtain ⟨hd, hop, hg⟩ := op_of ho (show _ = some (some 212, .call { callee := .value (.func 11), args := #[(.tmp 206), (.tmp 211)], argTypes := #[27, 3] }, none) by kernel_rfl)
  exact ph_call (Want.plain hg) 212 hd 11 _ _ hop _ Try.func11 (by kernel_rfl) (by kernel_rfl) #[.pointer (some ⟨c.G i, 0, none⟩), .int .i64 N] (ev2 (Ev.dep (Dep.at K.hn ho (by kernel_rfl)) rfl) (Ev.dep (Dep.at K.hn ho (by kernel_rfl)) rfl)) (fun w' hG hJ => (two_dropP hJ K.i0 N K.hN).mono fun e' w'' ⟨he, hT, hF⟩ => ⟨_, he, by rw [K.e1]; rfl, ⟨hF, fun _ => trivial, fun _ => trivial⟩, hT⟩)
theorem hdst7 {Q : Exit → Act → World → Prop} {ac : Act} {w5 : World} {w0 : World} {Ex : Nat → Prop} {c : Cs} {s t : Vs} {i : Nat} {N ec : Int} {pb po n1 c1 j : Nat} (K : HdCtx ac w5 w0 Ex c s t i N ec pb po n1 c1 j) (o : Oper) (ho : hdOps[7]? = some o) (k : Nat) : PStep Try.prog hdOps Q (hdF w0 Ex c s t i N ec pb po n1 c1 j) ac w5.drew ((hdJ w0 Ex c s t i N) k) ((hdJ w0 Ex c s t i N) k) o := by
  obtain ⟨hd, hop, hg⟩ := op_of ho (show _ = some (some 213, .move (.tmp 20), none) by kernel_rfl)
  exact ph_move (Want.plain hg) 213 hd (.tmp 20) hop _ (Ev.old (by kernel_rfl) K.h20) rfl
theorem hdst8 {Q : Exit → Act → World → Prop} {ac : Act} {w5 : World} {w0 : World} {Ex : Nat → Prop} {c : Cs} {s t : Vs} {i : Nat} {N ec : Int} {pb po n1 c1 j : Nat} (K : HdCtx ac w5 w0 Ex c s t i N ec pb po n1 c1 j) (o : Oper) (ho : hdOps[8]? = some o) (k : Nat) : PStep Try.prog hdOps Q (hdF w0 Ex c s t i N ec pb po n1 c1 j) ac w5.drew ((hdJ w0 Ex c s t i N) k) ((hdJ w0 Ex c s t i N) k) o := by
  obtain ⟨hd, hop, hg⟩ := op_of ho (show _ = some (some 214, .move (.tmp 2), none) by kernel_rfl)
  exact ph_move (Want.plain hg) 214 hd (.tmp 2) hop _ (Ev.old (by kernel_rfl) K.h2) rfl
theorem hdst9 {Q : Exit → Act → World → Prop} {ac : Act} {w5 : World} {w0 : World} {Ex : Nat → Prop} {c : Cs} {s t : Vs} {i : Nat} {N ec : Int} {pb po n1 c1 j : Nat} (K : HdCtx ac w5 w0 Ex c s t i N ec pb po n1 c1 j) (o : Oper) (ho : hdOps[9]? = some o) (k : Nat) : PStep Try.prog hdOps Q (hdF w0 Ex c s t i N ec pb po n1 c1 j) ac w5.drew ((hdJ w0 Ex c s t i N) k) ((hdJ w0 Ex c s t i N) k) o := by
  obtain ⟨hd, hop, hg⟩ := op_of ho (show _ = some (some 215, .move (.tmp 18), none) by kernel_rfl)
  exact ph_move (Want.plain hg) 215 hd (.tmp 18) hop _ (Ev.old (by kernel_rfl) K.h18) rfl
theorem hdst10 {Q : Exit → Act → World → Prop} {ac : Act} {w5 : World} {w0 : World} {Ex : Nat → Prop} {c : Cs} {s t : Vs} {i : Nat} {N ec : Int} {pb po n1 c1 j : Nat} (K : HdCtx ac w5 w0 Ex c s t i N ec pb po n1 c1 j) (o : Oper) (ho : hdOps[10]? = some o) (k : Nat) : PStep Try.prog hdOps Q (hdF w0 Ex c s t i N ec pb po n1 c1 j) ac w5.drew ((hdJ w0 Ex c s t i N) k) ((hdJ w0 Ex c s t i N) k) o := by
  obtain ⟨hd, hop, hg⟩ := op_of ho (show _ = some (some 216, .indexAddr 41 (.tmp 214) (.tmp 215), none) by kernel_rfl)
  exact ph_value (Want.plain hg) 216 hd fun vals w' _ _ hdp => ⟨_, by have e1 : (frm ac (dsts hdOps) vals).eval (.tmp 214) = .slice (some ⟨pb, po, none⟩) n1 c1 := (Ev.dep (F := hdF w0 Ex c s t i N ec pb po n1 c1 j) (Dep.at K.hn ho (by kernel_rfl)) rfl) vals w' hdp; have e2 : (frm ac (dsts hdOps) vals).eval (.tmp 215) = .int .i64 (j : Int) := (Ev.dep (F := hdF w0 Ex c s t i N ec pb po n1 c1 j) (Dep.at K.hn ho (by kernel_rfl)) rfl) vals w' hdp; have h1 := K.i1; have h2 := K.i2; have h3 := K.i3; unfold execOp; simp only [hop, e1, e2]; go_simp, rfl⟩
theorem hdst11 {Q : Exit → Act → World → Prop} {ac : Act} {w5 : World} {w0 : World} {Ex : Nat → Prop} {c : Cs} {s t : Vs} {i : Nat} {N ec : Int} {pb po n1 c1 j : Nat} (K : HdCtx ac w5 w0 Ex c s t i N ec pb po n1 c1 j) (o : Oper) (ho : hdOps[11]? = some o) (k : Nat) : PStep Try.prog hdOps Q (hdF w0 Ex c s t i N ec pb po n1 c1 j) ac w5.drew ((hdJ w0 Ex c s t i N) k) ((hdJ w0 Ex c s t i N) k) o := by
  obtain ⟨hd, hop, hg⟩ := op_of ho (show _ = some (some 217, .fieldAddr 51 (.tmp 216) 2, none) by kernel_rfl)
  exact ph_value (Want.plain hg) 217 hd fun vals w' _ _ hdp => ⟨_, by have e1 : (frm ac (dsts hdOps) vals).eval (.tmp 216) = .pointer (some ⟨pb, po + j * 4, none⟩) := (Ev.dep (F := hdF w0 Ex c s t i N ec pb po n1 c1 j) (Dep.at K.hn ho (by kernel_rfl)) rfl) vals w' hdp; unfold execOp; simp only [hop, e1]; go_simp, rfl⟩
theorem hdst12 {Q : Exit → Act → World → Prop} {ac : Act} {w5 : World} {w0 : World} {Ex : Nat → Prop} {c : Cs} {s t : Vs} {i : Nat} {N ec : Int} {pb po n1 c1 j : Nat} (K : HdCtx ac w5 w0 Ex c s t i N ec pb po n1 c1 j) (o : Oper) (ho : hdOps[12]? = some o) (k : Nat) : PStep Try.prog hdOps Q (hdF w0 Ex c s t i N ec pb po n1 c1 j) ac w5.drew ((hdJ w0 Ex c s t i N) k) ((hdJ w0 Ex c s t i N) k) o := by
  obtain ⟨hd, hop, hg⟩ := op_of ho (show _ = some (some 218, .load 3 (.tmp 217), none) by kernel_rfl)
  exact ph_value (Want.plain hg) 218 hd fun vals w' hG hJ hdp => ⟨_, by have e1 : (frm ac (dsts hdOps) vals).eval (.tmp 217) = .pointer (some ⟨pb, po + j * 4 + 2, none⟩) := (Ev.dep (F := hdF w0 Ex c s t i N ec pb po n1 c1 j) (Dep.at K.hn ho (by kernel_rfl)) rfl) vals w' hdp; have c1 := K.cell w' hG.fr; unfold execOp; simp only [hop, e1]; go_simp, rfl⟩
theorem hdst13 {Q : Exit → Act → World → Prop} {ac : Act} {w5 : World} {w0 : World} {Ex : Nat → Prop} {c : Cs} {s t : Vs} {i : Nat} {N ec : Int} {pb po n1 c1 j : Nat} (K : HdCtx ac w5 w0 Ex c s t i N ec pb po n1 c1 j) (o : Oper) (ho : hdOps[13]? = some o) : PStep Try.prog hdOps Q (hdF w0 Ex c s t i N ec pb po n1 c1 j) ac w5.drew ((hdJ w0 Ex c s t i N) 1) ((hdJ w0 Ex c s t i N) 2) o := by
  obtain ⟨hd, hop, hg⟩ := op_of ho (show _ = some (some 219, .call { callee := .value (.func 21), args := #[(.tmp 213), (.tmp 218)], argTypes := #[47, 3] }, none) by kernel_rfl)
  exact ph_call (Want.plain hg) 219 hd 21 _ _ hop _ Try.func21 (by kernel_rfl) (by kernel_rfl) #[.pointer (some ⟨c.V i, 0, none⟩), .int .i64 N] (ev2 (Ev.dep (Dep.at K.hn ho (by kernel_rfl)) rfl) (Ev.dep (Dep.at K.hn ho (by kernel_rfl)) rfl)) (fun w' hG hJ => (two_dropR hJ K.i0 K.hp N K.hN).mono fun e' w'' ⟨he, hT, hF⟩ => ⟨_, he, by rw [K.e2]; rfl, ⟨hF, fun _ => trivial, fun _ => trivial⟩, hT⟩)
theorem hdst14 {Q : Exit → Act → World → Prop} {ac : Act} {w5 : World} {w0 : World} {Ex : Nat → Prop} {c : Cs} {s t : Vs} {i : Nat} {N ec : Int} {pb po n1 c1 j : Nat} (K : HdCtx ac w5 w0 Ex c s t i N ec pb po n1 c1 j) (o : Oper) (ho : hdOps[14]? = some o) (k : Nat) : PStep Try.prog hdOps Q (hdF w0 Ex c s t i N ec pb po n1 c1 j) ac w5.drew ((hdJ w0 Ex c s t i N) k) ((hdJ w0 Ex c s t i N) k) o := by
  obtain ⟨hd, hop, hg⟩ := op_of ho (show _ = some (some 220, .binOp .neq 24 (.tmp 212) (.tmp 219) 24, none) by kernel_rfl)
  exact ph_bin (Want.plain hg) 220 hd .neq 24 24 (.tmp 212) (.tmp 219) hop (.int .i64 ec) (.int .i64 ec) (.bool false) (Ev.dep (Dep.at K.hn ho (by kernel_rfl)) rfl) (Ev.dep (Dep.at K.hn ho (by kernel_rfl)) rfl) rfl (fun w' => by go_simp)
theorem hdLen : hdOps.length = 15 := by kernel_rfl
theorem hd_region {Q : Exit → Act → World → Prop} {id : Nat} {ac : Act} {w5 : World} {w0 : World} {Ex : Nat → Prop} {c : Cs} {s t : Vs} {i : Nat} {N ec : Int} {pb po n1 c1 j : Nat} (K : HdCtx ac w5 w0 Ex c s t i N ec pb po n1 c1 j) (h0 : (hdJ w0 Ex c s t i N) 0 w5.drew)
    (hQ : ∀ (vals : Nat → Value) (w' : World), GB (hdS w0 Ex) w5 w' → (hdJ w0 Ex c s t i N) 2 w' → (∀ d ∈ dsts hdOps, (hdF w0 Ex c s t i N ec pb po n1 c1 j d).holds (vals d) w') → Q .normal (frm ac (dsts hdOps) vals) w') : (Code.region id hdOps.toArray true).wp Try.prog Q ac w5 := by
  refine region_phase (hdF w0 Ex c s t i N ec pb po n1 c1 j) (hdJ w0 Ex c s t i N) [6, 13] (by kernel_rfl) (by kernel_rfl) (by rw [K.hn]; kernel_rfl) (by kernel_rfl) h0 (fun i o ho hni k hk => ?_) (fun k i o hk ho => ?_) (by rw [hdLen]; decide) (fun vals w' hF hJ hv => ?_)
  · have hi : i < 15 := by rw [← hdLen]; exact (List.getElem?_eq_some_iff.1 ho).1
    match i, hi, ho with
    | 0, _, ho => exact hdst0 K o ho k
    | 1, _, ho => exact hdst1 K o ho k
    | 2, _, ho => exact hdst2 K o ho k
    | 3, _, ho => exact hdst3 K o ho k
    | 4, _, ho => exact hdst4 K o ho k
    | 5, _, ho => exact hdst5 K o ho k
    | 6, _, ho => exact absurd (by decide) hni
    | 7, _, ho => exact hdst7 K o ho k
    | 8, _, ho => exact hdst8 K o ho k
    | 9, _, ho => exact hdst9 K o ho k
    | 10, _, ho => exact hdst10 K o ho k
    | 11, _, ho => exact hdst11 K o ho k
    | 12, _, ho => exact hdst12 K o ho k
    | 13, _, ho => exact absurd (by decide) hni
    | 14, _, ho => exact hdst14 K o ho k
  · match k, hk with
    | 0, hk =>
      obtain rfl : 6 = i := Option.some.inj hk
      exact hdst6 K o ho
    | 1, hk =>
      obtain rfl : 13 = i := Option.some.inj hk
      exact hdst13 K o ho
    | k + 2, hk => simp at hk
  · exact hQ vals w' (GB.trans (GB.of_fr0 ((Fr.refl _ _).drew)) hF) hJ hv
def hqS : Keep := ⟨fun _ => False, fun _ => True, fun _ => True, fun _ _ _ h => h, fun _ _ _ h => h⟩
structure HqCtx (a : Act) (w5 : World) (w0 : World) (Ex : Nat → Prop) (c : Cs) (s t : Vs) (i xg : Nat) (VB : Value) : Prop where
  hn : a.tmps.size = 256
  h7 : a.eval (.tmp 7) = .pointer (some ⟨c.ga, 0, none⟩)
  h9 : a.eval (.tmp 9) = .pointer (some ⟨c.wa, 0, none⟩)
  h19 : a.eval (.tmp 19) = .pointer (some ⟨c.G i, 0, none⟩)
  h20 : a.eval (.tmp 20) = .pointer (some ⟨c.V i, 0, none⟩)
  i0 : i < 2
  hp : t.p i ≤ 1000000
  hs : s.p i ≤ 1000000
  lv : live (t.es i) = live (s.es i)
  is : ids (t.es i) = ids (s.es i)
  fl : (frees (s.O i)).length ≤ 2048
  ln : (ids (s.es i)).length ≤ 9223372036854775807
  lb : ∀ n ∈ ids (s.es i), -9223372036854775808 ≤ n ∧ n ≤ 9223372036854775807
  c0 : ∀ W, Fr (fun _ => False) w5.drew W → W.cell? ⟨c.wa, 0, none⟩ = some VB
  vb : ∀ W, Fr (fun _ => False) w5.drew W → BytesIs W VB s.b
  cx : ∀ W, Fr (fun _ => False) w5.drew W → W.cell? ⟨c.V i, 2, none⟩ = some (.pointer (some ⟨xg, 0, none⟩))
  fr : ∀ W, Fr (fun _ => False) w5.drew W → Calls Try.prog 24 #[.pointer (some ⟨xg, 0, none⟩)] W fun e w' => e = .returned (.int .i64 ((frees (s.O i)).length : Int)) ∧ Fr0 W w'
noncomputable def hqOps : List Oper := (((Try.f4.body.bind (regionOps 38))).getD #[]).toList
def hqF (w0 : World) (Ex : Nat → Prop) (c : Cs) (s t : Vs) (i xg : Nat) (VB : Value) : Nat → Fact hqS
  | 221 => Fact.is (.pointer (some ⟨c.ga, 0, none⟩))
  | 222 => Fact.bytes s.b
  | 223 => Fact.is (.string ⟨(s.b).toArray⟩)
  | 224 => Fact.is (.pointer (some ⟨c.wa, 0, none⟩))
  | 225 => Fact.is (.pointer (some ⟨c.wa, 0, none⟩))
  | 226 => Fact.is (.pointer (some ⟨c.wa, 0, none⟩))
  | 227 => Fact.bytes s.b
  | 228 => Fact.is (.string ⟨(s.b).toArray⟩)
  | 229 => Fact.is (.bool false)
  | 230 => Fact.is (.bool false)
  | 231 => Fact.is (.pointer (some ⟨c.G i, 0, none⟩))
  | 232 => Fact.is (.int .i64 (live (s.es i) : Int))
  | 233 => Fact.is (.pointer (some ⟨c.V i, 0, none⟩))
  | 234 => Fact.is (.int .i64 (live (s.es i) : Int))
  | 235 => Fact.is (.bool false)
  | 236 => Fact.is (.bool false)
  | 237 => Fact.is (.bool false)
  | 238 => Fact.is (.pointer (some ⟨c.G i, 0, none⟩))
  | 239 => Fact.is (.int .i64 (32 * ((frees (s.O i)).length : Int)))
  | 240 => Fact.is (.pointer (some ⟨c.V i, 0, none⟩))
  | 241 => Fact.is (.pointer (some ⟨c.V i, 0, none⟩))
  | 242 => Fact.is (.pointer (some ⟨c.V i, 2, none⟩))
  | 243 => Fact.is (.pointer (some ⟨xg, 0, none⟩))
  | 244 => Fact.is (.int .i64 ((frees (s.O i)).length : Int))
  | 245 => Fact.is (.int .i64 (32 * ((frees (s.O i)).length : Int)))
  | 246 => Fact.is (.bool false)
  | 247 => Fact.is (.bool false)
  | 248 => Fact.is (.bool false)
  | 249 => Fact.is (.pointer (some ⟨c.G i, 0, none⟩))
  | 250 => Fact.ints (ids (s.es i))
  | 251 => Fact.is (.pointer (some ⟨c.V i, 0, none⟩))
  | 252 => Fact.ints (ids (s.es i))
  | 253 => Fact.is (.bool true)
  | 254 => Fact.is (.bool false)
  | 255 => Fact.is (.bool false)
  | _ => Fact.any
theorem hqst0 {Q : Exit → Act → World → Prop} {ac : Act} {w5 : World} {w0 : World} {Ex : Nat → Prop} {c : Cs} {s t : Vs} {i xg : Nat} {VB : Value} (K : HqCtx ac w5 w0 Ex c s t i xg VB) (o : Oper) (ho : hqOps[0]? = some o) (k : Nat) : PStep Try.prog hqOps Q (hqF w0 Ex c s t i xg VB) ac w5.drew ((fun _ w => Two 2 2 w0 w Ex c s t) k) ((fun _ w => Two 2 2 w0 w Ex c s t) k) o := by
  obtain ⟨hd, hop, hg⟩ := op_of ho (show _ = some (some 221, .move (.tmp 7), none) by kernel_rfl)
  exact ph_move (Want.plain hg) 221 hd (.tmp 7) hop _ (Ev.old (by kernel_rfl) K.h7) rfl
theorem hqst1 {Q : Exit → Act → World → Prop} {ac : Act} {w5 : World} {w0 : World} {Ex : Nat → Prop} {c : Cs} {s t : Vs} {i xg : Nat} {VB : Value} (K : HqCtx ac w5 w0 Ex c s t i xg VB) (o : Oper) (ho : hqOps[1]? = some o) (k : Nat) : PStep Try.prog hqOps Q (hqF w0 Ex c s t i xg VB) ac w5.drew ((fun _ w => Two 2 2 w0 w Ex c s t) k) ((fun _ w => Two 2 2 w0 w Ex c s t) k) o := by
  obtain ⟨hd, hop, hg⟩ := op_of ho (show _ = some (some 222, .call { callee := .value (.func 13), args := #[(.tmp 221)], argTypes := #[23] }, none) by kernel_rfl)
  exact ph_call (Want.plain hg) 222 hd 13 _ _ hop _ Try.func13 (by kernel_rfl) (by kernel_rfl) #[.pointer (some ⟨c.ga, 0, none⟩)] (ev1 (Ev.dep (Dep.at K.hn ho (by kernel_rfl)) rfl)) (fun w' hG hJ => (all_any _ _ _ _ _ _ w' (two_arP hJ)).mono fun e' w'' ⟨v, he, hI, hF⟩ => ⟨v, he, ⟨hI, fun _ _ _ _ h => h⟩, GB.of_fr0 hF, hJ.fr0 hF⟩)
theorem hqst2 {Q : Exit → Act → World → Prop} {ac : Act} {w5 : World} {w0 : World} {Ex : Nat → Prop} {c : Cs} {s t : Vs} {i xg : Nat} {VB : Value} (K : HqCtx ac w5 w0 Ex c s t i xg VB) (o : Oper) (ho : hqOps[2]? = some o) (k : Nat) : PStep Try.prog hqOps Q (hqF w0 Ex c s t i xg VB) ac w5.drew ((fun _ w => Two 2 2 w0 w Ex c s t) k) ((fun _ w => Two 2 2 w0 w Ex c s t) k) o := by
  obtain ⟨hd, hop, hg⟩ := op_of ho (show _ = some (some 223, .convert 32 9 (.tmp 222), none) by kernel_rfl)
  exact ph_convstr (Want.plain hg) 223 222 hd 32 5 9 hop Try.underlying32 Try.underlying5 Try.underlying9 (Dep.at K.hn ho (by kernel_rfl)) s.b rfl rfl
theorem hqst3 {Q : Exit → Act → World → Prop} {ac : Act} {w5 : World} {w0 : World} {Ex : Nat → Prop} {c : Cs} {s t : Vs} {i xg : Nat} {VB : Value} (K : HqCtx ac w5 w0 Ex c s t i xg VB) (o : Oper) (ho : hqOps[3]? = some o) (k : Nat) : PStep Try.prog hqOps Q (hqF w0 Ex c s t i xg VB) ac w5.drew ((fun _ w => Two 2 2 w0 w Ex c s t) k) ((fun _ w => Two 2 2 w0 w Ex c s t) k) o := by
  obtain ⟨hd, hop, hg⟩ := op_of ho (show _ = some (some 224, .move (.tmp 9), none) by kernel_rfl)
  exact ph_move (Want.plain hg) 224 hd (.tmp 9) hop _ (Ev.old (by kernel_rfl) K.h9) rfl
theorem hqst4 {Q : Exit → Act → World → Prop} {ac : Act} {w5 : World} {w0 : World} {Ex : Nat → Prop} {c : Cs} {s t : Vs} {i xg : Nat} {VB : Value} (K : HqCtx ac w5 w0 Ex c s t i xg VB) (o : Oper) (ho : hqOps[4]? = some o) (k : Nat) : PStep Try.prog hqOps Q (hqF w0 Ex c s t i xg VB) ac w5.drew ((fun _ w => Two 2 2 w0 w Ex c s t) k) ((fun _ w => Two 2 2 w0 w Ex c s t) k) o := by
  obtain ⟨hd, hop, hg⟩ := op_of ho (show _ = some (some 225, .nilCheck (.tmp 224), none) by kernel_rfl)
  exact ph_value (Want.plain hg) 225 hd fun vals w' _ _ hdp => ⟨_, by have e1 : (frm ac (dsts hqOps) vals).eval (.tmp 224) = .pointer (some ⟨c.wa, 0, none⟩) := (Ev.dep (F := hqF w0 Ex c s t i xg VB) (Dep.at K.hn ho (by kernel_rfl)) rfl) vals w' hdp; unfold execOp; simp only [hop, e1]; go_simp, rfl⟩
theorem hqst5 {Q : Exit → Act → World → Prop} {ac : Act} {w5 : World} {w0 : World} {Ex : Nat → Prop} {c : Cs} {s t : Vs} {i xg : Nat} {VB : Value} (K : HqCtx ac w5 w0 Ex c s t i xg VB) (o : Oper) (ho : hqOps[5]? = some o) (k : Nat) : PStep Try.prog hqOps Q (hqF w0 Ex c s t i xg VB) ac w5.drew ((fun _ w => Two 2 2 w0 w Ex c s t) k) ((fun _ w => Two 2 2 w0 w Ex c s t) k) o := by
  obtain ⟨hd, hop, hg⟩ := op_of ho (show _ = some (some 226, .fieldAddr 53 (.tmp 225) 0, none) by kernel_rfl)
  exact ph_value (Want.plain hg) 226 hd fun vals w' _ _ hdp => ⟨_, by have e1 : (frm ac (dsts hqOps) vals).eval (.tmp 225) = .pointer (some ⟨c.wa, 0, none⟩) := (Ev.dep (F := hqF w0 Ex c s t i xg VB) (Dep.at K.hn ho (by kernel_rfl)) rfl) vals w' hdp; unfold execOp; simp only [hop, e1]; go_simp, rfl⟩
theorem hqst6 {Q : Exit → Act → World → Prop} {ac : Act} {w5 : World} {w0 : World} {Ex : Nat → Prop} {c : Cs} {s t : Vs} {i xg : Nat} {VB : Value} (K : HqCtx ac w5 w0 Ex c s t i xg VB) (o : Oper) (ho : hqOps[6]? = some o) (k : Nat) : PStep Try.prog hqOps Q (hqF w0 Ex c s t i xg VB) ac w5.drew ((fun _ w => Two 2 2 w0 w Ex c s t) k) ((fun _ w => Two 2 2 w0 w Ex c s t) k) o := by
  obtain ⟨hd, hop, hg⟩ := op_of ho (show _ = some (some 227, .load 32 (.tmp 226), none) by kernel_rfl)
  exact ph_value (Want.plain hg) 227 hd fun vals w' hG hJ hdp => ⟨_, by have e1 : (frm ac (dsts hqOps) vals).eval (.tmp 226) = .pointer (some ⟨c.wa, 0, none⟩) := (Ev.dep (F := hqF w0 Ex c s t i xg VB) (Dep.at K.hn ho (by kernel_rfl)) rfl) vals w' hdp; have c1 := K.c0 w' hG.fr; unfold execOp; simp only [hop, e1]; go_simp, ⟨K.vb w' hG.fr, fun _ _ _ _ h => h⟩⟩
theorem hqst7 {Q : Exit → Act → World → Prop} {ac : Act} {w5 : World} {w0 : World} {Ex : Nat → Prop} {c : Cs} {s t : Vs} {i xg : Nat} {VB : Value} (K : HqCtx ac w5 w0 Ex c s t i xg VB) (o : Oper) (ho : hqOps[7]? = some o) (k : Nat) : PStep Try.prog hqOps Q (hqF w0 Ex c s t i xg VB) ac w5.drew ((fun _ w => Two 2 2 w0 w Ex c s t) k) ((fun _ w => Two 2 2 w0 w Ex c s t) k) o := by
  obtain ⟨hd, hop, hg⟩ := op_of ho (show _ = some (some 228, .convert 32 9 (.tmp 227), none) by kernel_rfl)
  exact ph_convstr (Want.plain hg) 228 227 hd 32 5 9 hop Try.underlying32 Try.underlying5 Try.underlying9 (Dep.at K.hn ho (by kernel_rfl)) s.b rfl rfl
theorem hqst8 {Q : Exit → Act → World → Prop} {ac : Act} {w5 : World} {w0 : World} {Ex : Nat → Prop} {c : Cs} {s t : Vs} {i xg : Nat} {VB : Value} (K : HqCtx ac w5 w0 Ex c s t i xg VB) (o : Oper) (ho : hqOps[8]? = some o) (k : Nat) : PStep Try.prog hqOps Q (hqF w0 Ex c s t i xg VB) ac w5.drew ((fun _ w => Two 2 2 w0 w Ex c s t) k) ((fun _ w => Two 2 2 w0 w Ex c s t) k) o := by
  obtain ⟨hd, hop, hg⟩ := op_of ho (show _ = some (some 229, .binOp .neq 9 (.tmp 223) (.tmp 228) 9, none) by kernel_rfl)
  exact ph_bin (Want.plain hg) 229 hd .neq 9 9 (.tmp 223) (.tmp 228) hop (.string ⟨(s.b).toArray⟩) (.string ⟨(s.b).toArray⟩) (.bool false) (Ev.dep (Dep.at K.hn ho (by kernel_rfl)) rfl) (Ev.dep (Dep.at K.hn ho (by kernel_rfl)) rfl) rfl (fun w' => by go_simp)
theorem hqst9 {Q : Exit → Act → World → Prop} {ac : Act} {w5 : World} {w0 : World} {Ex : Nat → Prop} {c : Cs} {s t : Vs} {i xg : Nat} {VB : Value} (K : HqCtx ac w5 w0 Ex c s t i xg VB) (o : Oper) (ho : hqOps[9]? = some o) (k : Nat) : PStep Try.prog hqOps Q (hqF w0 Ex c s t i xg VB) ac w5.drew ((fun _ w => Two 2 2 w0 w Ex c s t) k) ((fun _ w => Two 2 2 w0 w Ex c s t) k) o := by
  obtain ⟨hd, hop, hg⟩ := op_of ho (show _ = some (some 230, .move (.tmp 229), none) by kernel_rfl)
  exact ph_move (Want.plain hg) 230 hd (.tmp 229) hop _ (Ev.dep (Dep.at K.hn ho (by kernel_rfl)) rfl) rfl
theorem hqst10 {Q : Exit → Act → World → Prop} {ac : Act} {w5 : World} {w0 : World} {Ex : Nat → Prop} {c : Cs} {s t : Vs} {i xg : Nat} {VB : Value} (K : HqCtx ac w5 w0 Ex c s t i xg VB) (o : Oper) (ho : hqOps[10]? = some o) (k : Nat) : PStep Try.prog hqOps Q (hqF w0 Ex c s t i xg VB) ac w5.drew ((fun _ w => Two 2 2 w0 w Ex c s t) k) ((fun _ w => Two 2 2 w0 w Ex c s t) k) o := by
  obtain ⟨hd, hop, hg⟩ := op_of ho (show _ = some (some 231, .move (.tmp 19), some (9, false)) by kernel_rfl)
  exact ph_move (Want.dep 9 false 230 hg (by kernel_rfl) (Dep.at K.hn ho (by kernel_rfl)) rfl) 231 hd (.tmp 19) hop _ (Ev.old (by kernel_rfl) K.h19) rfl
theorem hqst11 {Q : Exit → Act → World → Prop} {ac : Act} {w5 : World} {w0 : World} {Ex : Nat → Prop} {c : Cs} {s t : Vs} {i xg : Nat} {VB : Value} (K : HqCtx ac w5 w0 Ex c s t i xg VB) (o : Oper) (ho : hqOps[11]? = some o) (k : Nat) : PStep Try.prog hqOps Q (hqF w0 Ex c s t i xg VB) ac w5.drew ((fun _ w => Two 2 2 w0 w Ex c s t) k) ((fun _ w => Two 2 2 w0 w Ex c s t) k) o := by
  obtain ⟨hd, hop, hg⟩ := op_of ho (show _ = some (some 232, .call { callee := .value (.func 16), args := #[(.tmp 231)], argTypes := #[27] }, some (9, false)) by kernel_rfl)
  exact ph_call (Want.dep 9 false 230 hg (by kernel_rfl) (Dep.at K.hn ho (by kernel_rfl)) rfl) 232 hd 16 _ _ hop _ Try.func16 (by kernel_rfl) (by kernel_rfl) #[.pointer (some ⟨c.G i, 0, none⟩)] (ev1 (Ev.dep (Dep.at K.hn ho (by kernel_rfl)) rfl)) (fun w' hG hJ => (two_liveP hJ K.i0).mono fun e' w'' ⟨he, hF⟩ => ⟨_, he, rfl, GB.of_fr0 hF, hJ.fr0 hF⟩)
theorem hqst12 {Q : Exit → Act → World → Prop} {ac : Act} {w5 : World} {w0 : World} {Ex : Nat → Prop} {c : Cs} {s t : Vs} {i xg : Nat} {VB : Value} (K : HqCtx ac w5 w0 Ex c s t i xg VB) (o : Oper) (ho : hqOps[12]? = some o) (k : Nat) : PStep Try.prog hqOps Q (hqF w0 Ex c s t i xg VB) ac w5.drew ((fun _ w => Two 2 2 w0 w Ex c s t) k) ((fun _ w => Two 2 2 w0 w Ex c s t) k) o := by
  obtain ⟨hd, hop, hg⟩ := op_of ho (show _ = some (some 233, .move (.tmp 20), some (9, false)) by kernel_rfl)
  exact ph_move (Want.dep 9 false 230 hg (by kernel_rfl) (Dep.at K.hn ho (by kernel_rfl)) rfl) 233 hd (.tmp 20) hop _ (Ev.old (by kernel_rfl) K.h20) rfl
theorem hqst13 {Q : Exit → Act → World → Prop} {ac : Act} {w5 : World} {w0 : World} {Ex : Nat → Prop} {c : Cs} {s t : Vs} {i xg : Nat} {VB : Value} (K : HqCtx ac w5 w0 Ex c s t i xg VB) (o : Oper) (ho : hqOps[13]? = some o) (k : Nat) : PStep Try.prog hqOps Q (hqF w0 Ex c s t i xg VB) ac w5.drew ((fun _ w => Two 2 2 w0 w Ex c s t) k) ((fun _ w => Two 2 2 w0 w Ex c s t) k) o := by
  obtain ⟨hd, hop, hg⟩ := op_of ho (show _ = some (some 234, .call { callee := .value (.func 23), args := #[(.tmp 233)], argTypes := #[47] }, some (9, false)) by kernel_rfl)
  exact ph_call (Want.dep 9 false 230 hg (by kernel_rfl) (Dep.at K.hn ho (by kernel_rfl)) rfl) 234 hd 23 _ _ hop _ Try.func23 (by kernel_rfl) (by kernel_rfl) #[.pointer (some ⟨c.V i, 0, none⟩)] (ev1 (Ev.dep (Dep.at K.hn ho (by kernel_rfl)) rfl)) (fun w' hG hJ => (two_liveR hJ K.i0 K.hp).mono fun e' w'' ⟨he, hF⟩ => ⟨_, he, by rw [K.lv]; rfl, GB.of_fr0 hF, hJ.fr0 hF⟩)
theorem hqst14 {Q : Exit → Act → World → Prop} {ac : Act} {w5 : World} {w0 : World} {Ex : Nat → Prop} {c : Cs} {s t : Vs} {i xg : Nat} {VB : Value} (K : HqCtx ac w5 w0 Ex c s t i xg VB) (o : Oper) (ho : hqOps[14]? = some o) (k : Nat) : PStep Try.prog hqOps Q (hqF w0 Ex c s t i xg VB) ac w5.drew ((fun _ w => Two 2 2 w0 w Ex c s t) k) ((fun _ w => Two 2 2 w0 w Ex c s t) k) o := by
  obtain ⟨hd, hop, hg⟩ := op_of ho (show _ = some (some 235, .binOp .neq 3 (.tmp 232) (.tmp 234) 3, some (9, false)) by kernel_rfl)
  exact ph_bin (Want.dep 9 false 230 hg (by kernel_rfl) (Dep.at K.hn ho (by kernel_rfl)) rfl) 235 hd .neq 3 3 (.tmp 232) (.tmp 234) hop (.int .i64 (live (s.es i) : Int)) (.int .i64 (live (s.es i) : Int)) (.bool false) (Ev.dep (Dep.at K.hn ho (by kernel_rfl)) rfl) (Ev.dep (Dep.at K.hn ho (by kernel_rfl)) rfl) rfl (fun w' => by go_simp)
theorem hqst15 {Q : Exit → Act → World → Prop} {ac : Act} {w5 : World} {w0 : World} {Ex : Nat → Prop} {c : Cs} {s t : Vs} {i xg : Nat} {VB : Value} (K : HqCtx ac w5 w0 Ex c s t i xg VB) (o : Oper) (ho : hqOps[15]? = some o) (k : Nat) : PStep Try.prog hqOps Q (hqF w0 Ex c s t i xg VB) ac w5.drew ((fun _ w => Two 2 2 w0 w Ex c s t) k) ((fun _ w => Two 2 2 w0 w Ex c s t) k) o := by
  obtain ⟨hd, hop, hg⟩ := op_of ho (show _ = some (some 236, .pick (.tmp 230) (.const (.bool true)) (.tmp 235), none) by kernel_rfl)
  exact ph_pick (Want.plain hg) 236 hd (.tmp 230) (.const (.bool true)) (.tmp 235) hop false (.bool false) (Ev.dep (Dep.at K.hn ho (by kernel_rfl)) rfl) (fun h => by cases h) (fun _ => (Ev.dep (Dep.at K.hn ho (by kernel_rfl)) rfl)) rfl
theorem hqst16 {Q : Exit → Act → World → Prop} {ac : Act} {w5 : World} {w0 : World} {Ex : Nat → Prop} {c : Cs} {s t : Vs} {i xg : Nat} {VB : Value} (K : HqCtx ac w5 w0 Ex c s t i xg VB) (o : Oper) (ho : hqOps[16]? = some o) (k : Nat) : PStep Try.prog hqOps Q (hqF w0 Ex c s t i xg VB) ac w5.drew ((fun _ w => Two 2 2 w0 w Ex c s t) k) ((fun _ w => Two 2 2 w0 w Ex c s t) k) o := by
  obtain ⟨hd, hop, hg⟩ := op_of ho (show _ = some (some 237, .move (.tmp 236), none) by kernel_rfl)
  exact ph_move (Want.plain hg) 237 hd (.tmp 236) hop _ (Ev.dep (Dep.at K.hn ho (by kernel_rfl)) rfl) rfl
theorem hqst17 {Q : Exit → Act → World → Prop} {ac : Act} {w5 : World} {w0 : World} {Ex : Nat → Prop} {c : Cs} {s t : Vs} {i xg : Nat} {VB : Value} (K : HqCtx ac w5 w0 Ex c s t i xg VB) (o : Oper) (ho : hqOps[17]? = some o) (k : Nat) : PStep Try.prog hqOps Q (hqF w0 Ex c s t i xg VB) ac w5.drew ((fun _ w => Two 2 2 w0 w Ex c s t) k) ((fun _ w => Two 2 2 w0 w Ex c s t) k) o := by
  obtain ⟨hd, hop, hg⟩ := op_of ho (show _ = some (some 238, .move (.tmp 19), some (16, false)) by kernel_rfl)
  exact ph_move (Want.dep 16 false 237 hg (by kernel_rfl) (Dep.at K.hn ho (by kernel_rfl)) rfl) 238 hd (.tmp 19) hop _ (Ev.old (by kernel_rfl) K.h19) rfl
theorem hqst18 {Q : Exit → Act → World → Prop} {ac : Act} {w5 : World} {w0 : World} {Ex : Nat → Prop} {c : Cs} {s t : Vs} {i xg : Nat} {VB : Value} (K : HqCtx ac w5 w0 Ex c s t i xg VB) (o : Oper) (ho : hqOps[18]? = some o) (k : Nat) : PStep Try.prog hqOps Q (hqF w0 Ex c s t i xg VB) ac w5.drew ((fun _ w => Two 2 2 w0 w Ex c s t) k) ((fun _ w => Two 2 2 w0 w Ex c s t) k) o := by
  obtain ⟨hd, hop, hg⟩ := op_of ho (show _ = some (some 239, .call { callee := .value (.func 17), args := #[(.tmp 238)], argTypes := #[27] }, some (16, false)) by kernel_rfl)
  exact ph_call (Want.dep 16 false 237 hg (by kernel_rfl) (Dep.at K.hn ho (by kernel_rfl)) rfl) 239 hd 17 _ _ hop _ Try.func17 (by kernel_rfl) (by kernel_rfl) #[.pointer (some ⟨c.G i, 0, none⟩)] (ev1 (Ev.dep (Dep.at K.hn ho (by kernel_rfl)) rfl)) (fun w' hG hJ => (two_roomP hJ K.i0).mono fun e' w'' ⟨he, hF⟩ => ⟨_, he, rfl, GB.of_fr0 hF, hJ.fr0 hF⟩)
theorem hqst19 {Q : Exit → Act → World → Prop} {ac : Act} {w5 : World} {w0 : World} {Ex : Nat → Prop} {c : Cs} {s t : Vs} {i xg : Nat} {VB : Value} (K : HqCtx ac w5 w0 Ex c s t i xg VB) (o : Oper) (ho : hqOps[19]? = some o) (k : Nat) : PStep Try.prog hqOps Q (hqF w0 Ex c s t i xg VB) ac w5.drew ((fun _ w => Two 2 2 w0 w Ex c s t) k) ((fun _ w => Two 2 2 w0 w Ex c s t) k) o := by
  obtain ⟨hd, hop, hg⟩ := op_of ho (show _ = some (some 240, .move (.tmp 20), some (16, false)) by kernel_rfl)
  exact ph_move (Want.dep 16 false 237 hg (by kernel_rfl) (Dep.at K.hn ho (by kernel_rfl)) rfl) 240 hd (.tmp 20) hop _ (Ev.old (by kernel_rfl) K.h20) rfl
theorem hqst20 {Q : Exit → Act → World → Prop} {ac : Act} {w5 : World} {w0 : World} {Ex : Nat → Prop} {c : Cs} {s t : Vs} {i xg : Nat} {VB : Value} (K : HqCtx ac w5 w0 Ex c s t i xg VB) (o : Oper) (ho : hqOps[20]? = some o) (k : Nat) : PStep Try.prog hqOps Q (hqF w0 Ex c s t i xg VB) ac w5.drew ((fun _ w => Two 2 2 w0 w Ex c s t) k) ((fun _ w => Two 2 2 w0 w Ex c s t) k) o := by
  obtain ⟨hd, hop, hg⟩ := op_of ho (show _ = some (some 241, .nilCheck (.tmp 240), some (16, false)) by kernel_rfl)
  exact ph_value (Want.dep 16 false 237 hg (by kernel_rfl) (Dep.at K.hn ho (by kernel_rfl)) rfl) 241 hd fun vals w' _ _ hdp => ⟨_, by have e1 : (frm ac (dsts hqOps) vals).eval (.tmp 240) = .pointer (some ⟨c.V i, 0, none⟩) := (Ev.dep (F := hqF w0 Ex c s t i xg VB) (Dep.at K.hn ho (by kernel_rfl)) rfl) vals w' hdp; unfold execOp; simp only [hop, e1]; go_simp, rfl⟩
theorem hqst21 {Q : Exit → Act → World → Prop} {ac : Act} {w5 : World} {w0 : World} {Ex : Nat → Prop} {c : Cs} {s t : Vs} {i xg : Nat} {VB : Value} (K : HqCtx ac w5 w0 Ex c s t i xg VB) (o : Oper) (ho : hqOps[21]? = some o) (k : Nat) : PStep Try.prog hqOps Q (hqF w0 Ex c s t i xg VB) ac w5.drew ((fun _ w => Two 2 2 w0 w Ex c s t) k) ((fun _ w => Two 2 2 w0 w Ex c s t) k) o := by
  obtain ⟨hd, hop, hg⟩ := op_of ho (show _ = some (some 242, .fieldAddr 57 (.tmp 241) 2, some (16, false)) by kernel_rfl)
  exact ph_value (Want.dep 16 false 237 hg (by kernel_rfl) (Dep.at K.hn ho (by kernel_rfl)) rfl) 242 hd fun vals w' _ _ hdp => ⟨_, by have e1 : (frm ac (dsts hqOps) vals).eval (.tmp 241) = .pointer (some ⟨c.V i, 0, none⟩) := (Ev.dep (F := hqF w0 Ex c s t i xg VB) (Dep.at K.hn ho (by kernel_rfl)) rfl) vals w' hdp; unfold execOp; simp only [hop, e1]; go_simp, rfl⟩
theorem hqst22 {Q : Exit → Act → World → Prop} {ac : Act} {w5 : World} {w0 : World} {Ex : Nat → Prop} {c : Cs} {s t : Vs} {i xg : Nat} {VB : Value} (K : HqCtx ac w5 w0 Ex c s t i xg VB) (o : Oper) (ho : hqOps[22]? = some o) (k : Nat) : PStep Try.prog hqOps Q (hqF w0 Ex c s t i xg VB) ac w5.drew ((fun _ w => Two 2 2 w0 w Ex c s t) k) ((fun _ w => Two 2 2 w0 w Ex c s t) k) o := by
  obtain ⟨hd, hop, hg⟩ := op_of ho (show _ = some (some 243, .load 54 (.tmp 242), some (16, false)) by kernel_rfl)
  exact ph_value (Want.dep 16 false 237 hg (by kernel_rfl) (Dep.at K.hn ho (by kernel_rfl)) rfl) 243 hd fun vals w' hG hJ hdp => ⟨_, by have e1 : (frm ac (dsts hqOps) vals).eval (.tmp 242) = .pointer (some ⟨c.V i, 2, none⟩) := (Ev.dep (F := hqF w0 Ex c s t i xg VB) (Dep.at K.hn ho (by kernel_rfl)) rfl) vals w' hdp; have c1 := K.cx w' hG.fr; unfold execOp; simp only [hop, e1]; go_simp, rfl⟩
theorem hqst23 {Q : Exit → Act → World → Prop} {ac : Act} {w5 : World} {w0 : World} {Ex : Nat → Prop} {c : Cs} {s t : Vs} {i xg : Nat} {VB : Value} (K : HqCtx ac w5 w0 Ex c s t i xg VB) (o : Oper) (ho : hqOps[23]? = some o) (k : Nat) : PStep Try.prog hqOps Q (hqF w0 Ex c s t i xg VB) ac w5.drew ((fun _ w => Two 2 2 w0 w Ex c s t) k) ((fun _ w => Two 2 2 w0 w Ex c s t) k) o := by
  obtain ⟨hd, hop, hg⟩ := op_of ho (show _ = some (some 244, .call { callee := .value (.func 24), args := #[(.tmp 243)], argTypes := #[54] }, some (16, false)) by kernel_rfl)
  exact ph_call (Want.dep 16 false 237 hg (by kernel_rfl) (Dep.at K.hn ho (by kernel_rfl)) rfl) 244 hd 24 _ _ hop _ Try.func24 (by kernel_rfl) (by kernel_rfl) #[.pointer (some ⟨xg, 0, none⟩)] (ev1 (Ev.dep (Dep.at K.hn ho (by kernel_rfl)) rfl)) (fun w' hG hJ => (K.fr w' hG.fr).mono fun e' w'' ⟨he, hF⟩ => ⟨_, he, rfl, GB.of_fr0 hF, hJ.fr0 hF⟩)
theorem hqst24 {Q : Exit → Act → World → Prop} {ac : Act} {w5 : World} {w0 : World} {Ex : Nat → Prop} {c : Cs} {s t : Vs} {i xg : Nat} {VB : Value} (K : HqCtx ac w5 w0 Ex c s t i xg VB) (o : Oper) (ho : hqOps[24]? = some o) (k : Nat) : PStep Try.prog hqOps Q (hqF w0 Ex c s t i xg VB) ac w5.drew ((fun _ w => Two 2 2 w0 w Ex c s t) k) ((fun _ w => Two 2 2 w0 w Ex c s t) k) o := by
  obtain ⟨hd, hop, hg⟩ := op_of ho (show _ = some (some 245, .binOp .mul 3 (.const (.int .i64 32)) (.tmp 244) 3, some (16, false)) by kernel_rfl)
  exact ph_bin (Want.dep 16 false 237 hg (by kernel_rfl) (Dep.at K.hn ho (by kernel_rfl)) rfl) 245 hd .mul 3 3 (.const (.int .i64 32)) (.tmp 244) hop (.int .i64 32) (.int .i64 ((frees (s.O i)).length : Int)) (.int .i64 (32 * ((frees (s.O i)).length : Int))) (Ev.const _) (Ev.dep (Dep.at K.hn ho (by kernel_rfl)) rfl) rfl (fun w' => by have h := K.fl; go_simp; rw [IntKind.wrap_i64]; omega)
theorem hqst25 {Q : Exit → Act → World → Prop} {ac : Act} {w5 : World} {w0 : World} {Ex : Nat → Prop} {c : Cs} {s t : Vs} {i xg : Nat} {VB : Value} (K : HqCtx ac w5 w0 Ex c s t i xg VB) (o : Oper) (ho : hqOps[25]? = some o) (k : Nat) : PStep Try.prog hqOps Q (hqF w0 Ex c s t i xg VB) ac w5.drew ((fun _ w => Two 2 2 w0 w Ex c s t) k) ((fun _ w => Two 2 2 w0 w Ex c s t) k) o := by
  obtain ⟨hd, hop, hg⟩ := op_of ho (show _ = some (some 246, .binOp .neq 3 (.tmp 239) (.tmp 245) 3, some (16, false)) by kernel_rfl)
  exact ph_bin (Want.dep 16 false 237 hg (by kernel_rfl) (Dep.at K.hn ho (by kernel_rfl)) rfl) 246 hd .neq 3 3 (.tmp 239) (.tmp 245) hop (.int .i64 (32 * ((frees (s.O i)).length : Int))) (.int .i64 (32 * ((frees (s.O i)).length : Int))) (.bool false) (Ev.dep (Dep.at K.hn ho (by kernel_rfl)) rfl) (Ev.dep (Dep.at K.hn ho (by kernel_rfl)) rfl) rfl (fun w' => by go_simp)
theorem hqst26 {Q : Exit → Act → World → Prop} {ac : Act} {w5 : World} {w0 : World} {Ex : Nat → Prop} {c : Cs} {s t : Vs} {i xg : Nat} {VB : Value} (K : HqCtx ac w5 w0 Ex c s t i xg VB) (o : Oper) (ho : hqOps[26]? = some o) (k : Nat) : PStep Try.prog hqOps Q (hqF w0 Ex c s t i xg VB) ac w5.drew ((fun _ w => Two 2 2 w0 w Ex c s t) k) ((fun _ w => Two 2 2 w0 w Ex c s t) k) o := by
  obtain ⟨hd, hop, hg⟩ := op_of ho (show _ = some (some 247, .pick (.tmp 237) (.const (.bool true)) (.tmp 246), none) by kernel_rfl)
  exact ph_pick (Want.plain hg) 247 hd (.tmp 237) (.const (.bool true)) (.tmp 246) hop false (.bool false) (Ev.dep (Dep.at K.hn ho (by kernel_rfl)) rfl) (fun h => by cases h) (fun _ => (Ev.dep (Dep.at K.hn ho (by kernel_rfl)) rfl)) rfl
theorem hqst27 {Q : Exit → Act → World → Prop} {ac : Act} {w5 : World} {w0 : World} {Ex : Nat → Prop} {c : Cs} {s t : Vs} {i xg : Nat} {VB : Value} (K : HqCtx ac w5 w0 Ex c s t i xg VB) (o : Oper) (ho : hqOps[27]? = some o) (k : Nat) : PStep Try.prog hqOps Q (hqF w0 Ex c s t i xg VB) ac w5.drew ((fun _ w => Two 2 2 w0 w Ex c s t) k) ((fun _ w => Two 2 2 w0 w Ex c s t) k) o := by
  obtain ⟨hd, hop, hg⟩ := op_of ho (show _ = some (some 248, .move (.tmp 247), none) by kernel_rfl)
  exact ph_move (Want.plain hg) 248 hd (.tmp 247) hop _ (Ev.dep (Dep.at K.hn ho (by kernel_rfl)) rfl) rfl
theorem hqst28 {Q : Exit → Act → World → Prop} {ac : Act} {w5 : World} {w0 : World} {Ex : Nat → Prop} {c : Cs} {s t : Vs} {i xg : Nat} {VB : Value} (K : HqCtx ac w5 w0 Ex c s t i xg VB) (o : Oper) (ho : hqOps[28]? = some o) (k : Nat) : PStep Try.prog hqOps Q (hqF w0 Ex c s t i xg VB) ac w5.drew ((fun _ w => Two 2 2 w0 w Ex c s t) k) ((fun _ w => Two 2 2 w0 w Ex c s t) k) o := by
  obtain ⟨hd, hop, hg⟩ := op_of ho (show _ = some (some 249, .move (.tmp 19), some (27, false)) by kernel_rfl)
  exact ph_move (Want.dep 27 false 248 hg (by kernel_rfl) (Dep.at K.hn ho (by kernel_rfl)) rfl) 249 hd (.tmp 19) hop _ (Ev.old (by kernel_rfl) K.h19) rfl
theorem hqst29 {Q : Exit → Act → World → Prop} {ac : Act} {w5 : World} {w0 : World} {Ex : Nat → Prop} {c : Cs} {s t : Vs} {i xg : Nat} {VB : Value} (K : HqCtx ac w5 w0 Ex c s t i xg VB) (o : Oper) (ho : hqOps[29]? = some o) (k : Nat) : PStep Try.prog hqOps Q (hqF w0 Ex c s t i xg VB) ac w5.drew ((fun _ w => Two 2 2 w0 w Ex c s t) k) ((fun _ w => Two 2 2 w0 w Ex c s t) k) o := by
  obtain ⟨hd, hop, hg⟩ := op_of ho (show _ = some (some 250, .call { callee := .value (.func 15), args := #[(.tmp 249)], argTypes := #[27] }, some (27, false)) by kernel_rfl)
  exact ph_call (Want.dep 27 false 248 hg (by kernel_rfl) (Dep.at K.hn ho (by kernel_rfl)) rfl) 250 hd 15 _ _ hop _ Try.func15 (by kernel_rfl) (by kernel_rfl) #[.pointer (some ⟨c.G i, 0, none⟩)] (ev1 (Ev.dep (Dep.at K.hn ho (by kernel_rfl)) rfl)) (fun w' hG hJ => (two_listP hJ K.i0 K.hs).mono fun e' w'' ⟨v, he, hI, hF, _⟩ => ⟨v, he, ⟨hI, fun _ _ _ _ h => h⟩, GB.of_fr0 hF, hJ.fr0 hF⟩)
theorem hqst30 {Q : Exit → Act → World → Prop} {ac : Act} {w5 : World} {w0 : World} {Ex : Nat → Prop} {c : Cs} {s t : Vs} {i xg : Nat} {VB : Value} (K : HqCtx ac w5 w0 Ex c s t i xg VB) (o : Oper) (ho : hqOps[30]? = some o) (k : Nat) : PStep Try.prog hqOps Q (hqF w0 Ex c s t i xg VB) ac w5.drew ((fun _ w => Two 2 2 w0 w Ex c s t) k) ((fun _ w => Two 2 2 w0 w Ex c s t) k) o := by
  obtain ⟨hd, hop, hg⟩ := op_of ho (show _ = some (some 251, .move (.tmp 20), some (27, false)) by kernel_rfl)
  exact ph_move (Want.dep 27 false 248 hg (by kernel_rfl) (Dep.at K.hn ho (by kernel_rfl)) rfl) 251 hd (.tmp 20) hop _ (Ev.old (by kernel_rfl) K.h20) rfl
theorem hqst31 {Q : Exit → Act → World → Prop} {ac : Act} {w5 : World} {w0 : World} {Ex : Nat → Prop} {c : Cs} {s t : Vs} {i xg : Nat} {VB : Value} (K : HqCtx ac w5 w0 Ex c s t i xg VB) (o : Oper) (ho : hqOps[31]? = some o) (k : Nat) : PStep Try.prog hqOps Q (hqF w0 Ex c s t i xg VB) ac w5.drew ((fun _ w => Two 2 2 w0 w Ex c s t) k) ((fun _ w => Two 2 2 w0 w Ex c s t) k) o := by
  obtain ⟨hd, hop, hg⟩ := op_of ho (show _ = some (some 252, .call { callee := .value (.func 25), args := #[(.tmp 251)], argTypes := #[47] }, some (27, false)) by kernel_rfl)
  exact ph_call (Want.dep 27 false 248 hg (by kernel_rfl) (Dep.at K.hn ho (by kernel_rfl)) rfl) 252 hd 25 _ _ hop _ Try.func25 (by kernel_rfl) (by kernel_rfl) #[.pointer (some ⟨c.V i, 0, none⟩)] (ev1 (Ev.dep (Dep.at K.hn ho (by kernel_rfl)) rfl)) (fun w' hG hJ => (two_listR hJ K.i0 K.hp).mono fun e' w'' ⟨v, he, hI, hF, _⟩ => ⟨v, he, ⟨K.is ▸ hI, fun _ _ _ _ h => h⟩, GB.of_fr0 hF, hJ.fr0 hF⟩)
theorem hqst32 {Q : Exit → Act → World → Prop} {ac : Act} {w5 : World} {w0 : World} {Ex : Nat → Prop} {c : Cs} {s t : Vs} {i xg : Nat} {VB : Value} (K : HqCtx ac w5 w0 Ex c s t i xg VB) (o : Oper) (ho : hqOps[32]? = some o) (k : Nat) : PStep Try.prog hqOps Q (hqF w0 Ex c s t i xg VB) ac w5.drew ((fun _ w => Two 2 2 w0 w Ex c s t) k) ((fun _ w => Two 2 2 w0 w Ex c s t) k) o := by
  obtain ⟨hd, hop, hg⟩ := op_of ho (show _ = some (some 253, .call { callee := .value (.func 14), args := #[.tmp 250, .tmp 252], argTypes := #[38, 38] }, some (27, false)) by kernel_rfl)
  exact ph_callV (Want.dep 27 false 248 hg (by kernel_rfl) (Dep.at K.hn ho (by kernel_rfl)) rfl) 253 hd 14 _ _ hop _ Try.func14 (by kernel_rfl) (by kernel_rfl) (fun vals => #[vals 250, vals 252]) (fun vals w' hdp => by simp [(show Dep hqOps ac o 250 from (Dep.at K.hn ho (by kernel_rfl))).eval (vals := vals), (show Dep hqOps ac o 252 from (Dep.at K.hn ho (by kernel_rfl))).eval (vals := vals)]) (fun vals w' hG hJ hdp => (alike_any _ _ (ids (s.es i)) (ids (s.es i)) K.ln K.lb w' (hdp 250 (show Dep hqOps ac o 250 from (Dep.at K.hn ho (by kernel_rfl))).dep).1 (hdp 252 (show Dep hqOps ac o 252 from (Dep.at K.hn ho (by kernel_rfl))).dep).1).mono fun e' w'' ⟨he, hF⟩ => ⟨_, he, by rw [ids_dec]; rfl, GB.of_fr0 hF, hJ.fr0 hF⟩)
theorem hqst33 {Q : Exit → Act → World → Prop} {ac : Act} {w5 : World} {w0 : World} {Ex : Nat → Prop} {c : Cs} {s t : Vs} {i xg : Nat} {VB : Value} (K : HqCtx ac w5 w0 Ex c s t i xg VB) (o : Oper) (ho : hqOps[33]? = some o) (k : Nat) : PStep Try.prog hqOps Q (hqF w0 Ex c s t i xg VB) ac w5.drew ((fun _ w => Two 2 2 w0 w Ex c s t) k) ((fun _ w => Two 2 2 w0 w Ex c s t) k) o := by
  obtain ⟨hd, hop, hg⟩ := op_of ho (show _ = some (some 254, .unOp .not 4 (.tmp 253), some (27, false)) by kernel_rfl)
  exact ph_not (Want.dep 27 false 248 hg (by kernel_rfl) (Dep.at K.hn ho (by kernel_rfl)) rfl) 254 hd _ (.tmp 253) hop true (Ev.dep (Dep.at K.hn ho (by kernel_rfl)) rfl) rfl
theorem hqst34 {Q : Exit → Act → World → Prop} {ac : Act} {w5 : World} {w0 : World} {Ex : Nat → Prop} {c : Cs} {s t : Vs} {i xg : Nat} {VB : Value} (K : HqCtx ac w5 w0 Ex c s t i xg VB) (o : Oper) (ho : hqOps[34]? = some o) (k : Nat) : PStep Try.prog hqOps Q (hqF w0 Ex c s t i xg VB) ac w5.drew ((fun _ w => Two 2 2 w0 w Ex c s t) k) ((fun _ w => Two 2 2 w0 w Ex c s t) k) o := by
  obtain ⟨hd, hop, hg⟩ := op_of ho (show _ = some (some 255, .pick (.tmp 248) (.const (.bool true)) (.tmp 254), none) by kernel_rfl)
  exact ph_pick (Want.plain hg) 255 hd (.tmp 248) (.const (.bool true)) (.tmp 254) hop false (.bool false) (Ev.dep (Dep.at K.hn ho (by kernel_rfl)) rfl) (fun h => by cases h) (fun _ => (Ev.dep (Dep.at K.hn ho (by kernel_rfl)) rfl)) rfl
theorem hqLen : hqOps.length = 35 := by kernel_rfl
theorem hq_region {Q : Exit → Act → World → Prop} {id : Nat} {ac : Act} {w5 : World} {w0 : World} {Ex : Nat → Prop} {c : Cs} {s t : Vs} {i xg : Nat} {VB : Value} (K : HqCtx ac w5 w0 Ex c s t i xg VB) (h0 : (fun _ w => Two 2 2 w0 w Ex c s t) 0 w5.drew)
    (hQ : ∀ (vals : Nat → Value) (w' : World), GB hqS w5 w' → (fun _ w => Two 2 2 w0 w Ex c s t) 0 w' → (∀ d ∈ dsts hqOps, (hqF w0 Ex c s t i xg VB d).holds (vals d) w') → Q .normal (frm ac (dsts hqOps) vals) w') : (Code.region id hqOps.toArray true).wp Try.prog Q ac w5 := by
  refine region_phase (hqF w0 Ex c s t i xg VB) (fun _ w => Two 2 2 w0 w Ex c s t) [] (by kernel_rfl) (by kernel_rfl) (by rw [K.hn]; kernel_rfl) (by kernel_rfl) h0 (fun i o ho hni k hk => ?_) (fun k i o hk ho => ?_) (by rw [hqLen]; decide) (fun vals w' hF hJ hv => ?_)
  · have hi : i < 35 := by rw [← hqLen]; exact (List.getElem?_eq_some_iff.1 ho).1
    match i, hi, ho with
    | 0, _, ho => exact hqst0 K o ho k
    | 1, _, ho => exact hqst1 K o ho k
    | 2, _, ho => exact hqst2 K o ho k
    | 3, _, ho => exact hqst3 K o ho k
    | 4, _, ho => exact hqst4 K o ho k
    | 5, _, ho => exact hqst5 K o ho k
    | 6, _, ho => exact hqst6 K o ho k
    | 7, _, ho => exact hqst7 K o ho k
    | 8, _, ho => exact hqst8 K o ho k
    | 9, _, ho => exact hqst9 K o ho k
    | 10, _, ho => exact hqst10 K o ho k
    | 11, _, ho => exact hqst11 K o ho k
    | 12, _, ho => exact hqst12 K o ho k
    | 13, _, ho => exact hqst13 K o ho k
    | 14, _, ho => exact hqst14 K o ho k
    | 15, _, ho => exact hqst15 K o ho k
    | 16, _, ho => exact hqst16 K o ho k
    | 17, _, ho => exact hqst17 K o ho k
    | 18, _, ho => exact hqst18 K o ho k
    | 19, _, ho => exact hqst19 K o ho k
    | 20, _, ho => exact hqst20 K o ho k
    | 21, _, ho => exact hqst21 K o ho k
    | 22, _, ho => exact hqst22 K o ho k
    | 23, _, ho => exact hqst23 K o ho k
    | 24, _, ho => exact hqst24 K o ho k
    | 25, _, ho => exact hqst25 K o ho k
    | 26, _, ho => exact hqst26 K o ho k
    | 27, _, ho => exact hqst27 K o ho k
    | 28, _, ho => exact hqst28 K o ho k
    | 29, _, ho => exact hqst29 K o ho k
    | 30, _, ho => exact hqst30 K o ho k
    | 31, _, ho => exact hqst31 K o ho k
    | 32, _, ho => exact hqst32 K o ho k
    | 33, _, ho => exact hqst33 K o ho k
    | 34, _, ho => exact hqst34 K o ho k
  · match k, hk with
    | k, hk => simp at hk
  · exact hQ vals w' (GB.trans (GB.of_fr0 ((Fr.refl _ _).drew)) hF) hJ hv
end Go.Proofs.Ytkdpdbjefehmpaa.Hold
