/-
  SumSays' last statement, by facts (made by wip/tools/ss.py).
-/
import Derived.Test.YtcdfflieooopjaaDoorSumParts
import Derived.Test.YtcdfflieooopjaaDoorAppendFirst
import Derived.Test.YtcdfflieooopjaaDoorRefSum
namespace Go.Proofs.YtcdfflieooopjaaDoor.Base.C
open Go.RowKit Sha

noncomputable def ssOps : List Oper := (((Tryd.f4.body.bind (regionOps 8))).getD #[]).toList
structure SsCtx (a : Act) (w w5 : World) (b c : List UInt8) (D X A : Array Value) (T : ByteArray) (k : Bool) (g6 g9 g11 g13 : Nat) (V0 V1 : Value) : Prop where
  hn : a.tmps.size = 77
  n0 : b.length ≤ 140737488355328
  n1 : b.length + c.length ≤ 140737488355328
  h0 : a.eval (.tmp 0) = V0
  h1 : a.eval (.tmp 1) = V1
  h6 : a.eval (.tmp 6) = .pointer (some ⟨g6, 0, none⟩)
  h9 : a.eval (.tmp 9) = .pointer (some ⟨g9, 0, none⟩)
  h10 : a.eval (.tmp 10) = .bool k
  h11 : a.eval (.tmp 11) = .pointer (some ⟨g11, 0, none⟩)
  h12 : a.eval (.tmp 12) = .bool k
  h13 : a.eval (.tmp 13) = .pointer (some ⟨g13, 0, none⟩)
  h14 : a.eval (.tmp 14) = .bool true
  HF5w : Fr0 w w5
  B0 : BytesIs w5.drew V0 b
  B1 : BytesIs w5.drew V1 c
  G6 : w5.heap[g6]? = some (.cells A 23 (0, 0))
  G9 : w5.heap[g9]? = some (.cells X 24 (0, 0))
  G11 : w5.heap[g11]? = some (.cells X 23 (0, 0))
  G13 : w5.heap[g13]? = some (.cells A 24 (0, 0))
  IA : (Tryd.prog.info? 23).map (·.size) = some A.size
  IA4 : (Tryd.prog.info? 24).map (·.size) = some A.size
  IX4 : (Tryd.prog.info? 24).map (·.size) = some X.size
  IX3 : (Tryd.prog.info? 23).map (·.size) = some X.size
  eDD : ∀ wx : World, (Op.equalIn 10000 23 (.agg D) (.agg D)).run Tryd.prog wx = .ok true wx
  eXX : ∀ wx : World, (Op.equalIn 10000 23 (.agg X) (.agg X)).run Tryd.prog wx = .ok true wx
  eAA : ∀ wx : World, (Op.equalIn 10000 23 (.agg A) (.agg A)).run Tryd.prog wx = .ok true wx
  c1 : ∀ (W : World) (v : Value), Fr0 w W → PartsIs W v [b, c] → Calls Tryd.prog 18 #[v] W fun e w' => e = .returned (.agg D) ∧ Fr0 W w'
  c2 : ∀ (W : World) (v : Value), BytesIs W v (b ++ c) → Calls Tryd.prog 22 #[v] W fun e w' => e = .returned (.agg D) ∧ Fr0 W w'
  c3 : ∀ (W : World), Calls Tryd.prog 20 #[.agg A] W fun e w' => e = .returned (.string T) ∧ Fr0 W w'
  c4 : ∀ (W : World), Calls Tryd.prog 23 #[.agg A] W fun e w' => e = .returned (.string T) ∧ Fr0 W w'
def ssF (W0 : World) (b c : List UInt8) (D X A : Array Value) (T : ByteArray) (k : Bool) : Nat → Fact
  | 8 => Fact.is (.bool true)
  | 41 => Fact.old W0 b
  | 42 => Fact.old W0 c
  | 43 => Fact.oldParts2 W0 30 b c
  | 44 => Fact.is (.agg D)
  | 45 => Fact.empty W0.heap.size 5
  | 46 => Fact.old W0 b
  | 47 => Fact.owns W0.heap.size 5 b
  | 48 => Fact.old W0 c
  | 49 => Fact.bytes (b ++ c)
  | 50 => Fact.is (.agg D)
  | 51 => Fact.is (.bool true)
  | 52 => Fact.is (.bool true)
  | 53 => Fact.is (.agg A)
  | 54 => Fact.is (.string T)
  | 55 => Fact.is (.agg A)
  | 56 => Fact.is (.string T)
  | 57 => Fact.is (.bool true)
  | 58 => Fact.is (.bool true)
  | 59 => Fact.is (.bool true)
  | 60 => Fact.is (.agg X)
  | 61 => Fact.is (.agg X)
  | 62 => Fact.is (.bool true)
  | 63 => Fact.is (.bool true)
  | 64 => Fact.is (.bool true)
  | 65 => Fact.is (.bool k)
  | 66 => Fact.is (.bool k)
  | 67 => Fact.is (.bool true)
  | 68 => Fact.is (.bool true)
  | 69 => Fact.is (.bool true)
  | 70 => Fact.is (.bool true)
  | 71 => Fact.is (.bool true)
  | 72 => Fact.is (.bool true)
  | 73 => Fact.is (.agg A)
  | 74 => Fact.is (.agg A)
  | 75 => Fact.is (.bool true)
  | 76 => Fact.is (.bool true)
  | _ => Fact.any
theorem ssDsts : dsts ssOps = [41, 42, 43, 44, 45, 46, 47, 48, 49, 50, 51, 52, 53, 54, 55, 56, 57, 58, 59, 60, 61, 62, 63, 64, 65, 66, 67, 68, 69, 70, 71, 72, 73, 74, 75, 76, 8] := by kernel_rfl
theorem ssKeeps (W0 : World) (b c : List UInt8) (D X A : Array Value) (T : ByteArray) (k : Bool) : ∀ d' ∈ dsts ssOps, d' ≠ 49 → d' ∉ [45, 47] → ((ssF W0 b c D X A T k) d').keeps W0.heap.size 5 := by
  intro d' hd' h1 h2
  rw [ssDsts] at hd'
  simp only [List.mem_cons, List.not_mem_nil, or_false] at hd'
  rcases hd' with rfl | rfl | rfl | rfl | rfl | rfl | rfl | rfl | rfl | rfl | rfl | rfl | rfl | rfl | rfl | rfl | rfl | rfl | rfl | rfl | rfl | rfl | rfl | rfl | rfl | rfl | rfl | rfl | rfl | rfl | rfl | rfl | rfl | rfl | rfl | rfl | rfl
  all_goals first | exact absurd rfl h1 | exact absurd (by decide) h2 | exact Fact.keeps_is _ _ _ | exact Fact.keeps_old _ _ _ _ | exact Fact.keeps_parts _ _ _ _ _ _ (by decide)
theorem ssst0 {Q : Exit → Act → World → Prop} {a : Act} {w w5 : World} {b c : List UInt8} {D X A : Array Value} {T : ByteArray} {k : Bool} {g6 g9 g11 g13 : Nat} {V0 V1 : Value} (K : SsCtx a w w5 b c D X A T k g6 g9 g11 g13 V0 V1) (o : Oper) (ho : ssOps[0]? = some o) : FStep Tryd.prog ssOps Q (ssF w5.drew b c D X A T k) a w5.drew o := by
  obtain ⟨hd, hop, hg⟩ := op_of ho (show _ = some (some 41, .move (.tmp 0), none) by kernel_rfl)
  exact fs_old (Want.plain hg) 41 0 hd hop (by kernel_rfl) _ K.h0 (fun w' h => K.B0)
theorem ssst1 {Q : Exit → Act → World → Prop} {a : Act} {w w5 : World} {b c : List UInt8} {D X A : Array Value} {T : ByteArray} {k : Bool} {g6 g9 g11 g13 : Nat} {V0 V1 : Value} (K : SsCtx a w w5 b c D X A T k g6 g9 g11 g13 V0 V1) (o : Oper) (ho : ssOps[1]? = some o) : FStep Tryd.prog ssOps Q (ssF w5.drew b c D X A T k) a w5.drew o := by
  obtain ⟨hd, hop, hg⟩ := op_of ho (show _ = some (some 42, .move (.tmp 1), none) by kernel_rfl)
  exact fs_old (Want.plain hg) 42 1 hd hop (by kernel_rfl) _ K.h1 (fun w' h => K.B1)
theorem ssst2 {Q : Exit → Act → World → Prop} {a : Act} {w w5 : World} {b c : List UInt8} {D X A : Array Value} {T : ByteArray} {k : Bool} {g6 g9 g11 g13 : Nat} {V0 V1 : Value} (K : SsCtx a w w5 b c D X A T k g6 g9 g11 g13 V0 V1) (o : Oper) (ho : ssOps[2]? = some o) : FStep Tryd.prog ssOps Q (ssF w5.drew b c D X A T k) a w5.drew o := by
  obtain ⟨hd, hop, hg⟩ := op_of ho (show _ = some (some 43, .buildSlice 37 2 #[(0, .tmp 41), (1, .tmp 42)], none) by kernel_rfl)
  exact fs_oldParts2 (Want.plain hg) 43 41 42 hd 37 30 hop Tryd.underlying37 (by kernel_rfl) (Dep.at K.hn ho (by kernel_rfl)) (Dep.at K.hn ho (by kernel_rfl)) b c rfl rfl rfl
theorem ssst3 {Q : Exit → Act → World → Prop} {a : Act} {w w5 : World} {b c : List UInt8} {D X A : Array Value} {T : ByteArray} {k : Bool} {g6 g9 g11 g13 : Nat} {V0 V1 : Value} (K : SsCtx a w w5 b c D X A T k g6 g9 g11 g13 V0 V1) (o : Oper) (ho : ssOps[3]? = some o) : FStep Tryd.prog ssOps Q (ssF w5.drew b c D X A T k) a w5.drew o := by
  obtain ⟨hd, hop, hg⟩ := op_of ho (show _ = some (some 44, .call { callee := .value (.func 18), args := #[.tmp 43], argTypes := #[37] }, none) by kernel_rfl)
  exact fs_call (Want.plain hg) 44 hd 18 _ _ hop _ Tryd.func18 (by kernel_rfl) (by kernel_rfl) (fun vals w' hF hv => ⟨_, by rw [map1 (Dep.at K.hn ho (by kernel_rfl)).eval]; exact K.c1 w' _ (K.HF5w.trans' (Fr.trans' ((Fr.refl _ _).drew) hF)) (Fact.oldParts2_parts hF (hv 43 (Dep.at K.hn ho (by kernel_rfl)).dep)), fun _ hf => rfl⟩)
theorem ssst4 {Q : Exit → Act → World → Prop} {a : Act} {w w5 : World} {b c : List UInt8} {D X A : Array Value} {T : ByteArray} {k : Bool} {g6 g9 g11 g13 : Nat} {V0 V1 : Value} (K : SsCtx a w w5 b c D X A T k g6 g9 g11 g13 V0 V1) (o : Oper) (ho : ssOps[4]? = some o) : FStep Tryd.prog ssOps Q (ssF w5.drew b c D X A T k) a w5.drew o := by
  obtain ⟨hd, hop, hg⟩ := op_of ho (show _ = some (some 45, .buildSlice 30 0 #[], none) by kernel_rfl)
  exact fs_empty (Want.plain hg) 45 hd 5 rfl (fun vals w' => by unfold execOp; simp only [hop]; first | (go_simp; done) | (go_simp; rfl))
theorem ssst5 {Q : Exit → Act → World → Prop} {a : Act} {w w5 : World} {b c : List UInt8} {D X A : Array Value} {T : ByteArray} {k : Bool} {g6 g9 g11 g13 : Nat} {V0 V1 : Value} (K : SsCtx a w w5 b c D X A T k g6 g9 g11 g13 V0 V1) (o : Oper) (ho : ssOps[5]? = some o) : FStep Tryd.prog ssOps Q (ssF w5.drew b c D X A T k) a w5.drew o := by
  obtain ⟨hd, hop, hg⟩ := op_of ho (show _ = some (some 46, .move (.tmp 0), none) by kernel_rfl)
  exact fs_old (Want.plain hg) 46 0 hd hop (by kernel_rfl) _ K.h0 (fun w' h => K.B0)
theorem ssst6 {Q : Exit → Act → World → Prop} {a : Act} {w w5 : World} {b c : List UInt8} {D X A : Array Value} {T : ByteArray} {k : Bool} {g6 g9 g11 g13 : Nat} {V0 V1 : Value} (K : SsCtx a w w5 b c D X A T k g6 g9 g11 g13 V0 V1) (o : Oper) (ho : ssOps[6]? = some o) : FStep Tryd.prog ssOps Q (ssF w5.drew b c D X A T k) a w5.drew o := by
  obtain ⟨hd, hop, hg⟩ := op_of ho (show _ = some (some 47, .call { callee := .builtin .append, args := #[.tmp 45, .tmp 46], argTypes := #[30, 30] }, none) by kernel_rfl)
  exact fs_first (Want.plain hg) 47 45 46 hd 30 5 hop Tryd.underlying30 (by kernel_rfl) (Dep.at K.hn ho (by kernel_rfl)) (Dep.at K.hn ho (by kernel_rfl)) b K.n0 rfl rfl rfl
theorem ssst7 {Q : Exit → Act → World → Prop} {a : Act} {w w5 : World} {b c : List UInt8} {D X A : Array Value} {T : ByteArray} {k : Bool} {g6 g9 g11 g13 : Nat} {V0 V1 : Value} (K : SsCtx a w w5 b c D X A T k g6 g9 g11 g13 V0 V1) (o : Oper) (ho : ssOps[7]? = some o) : FStep Tryd.prog ssOps Q (ssF w5.drew b c D X A T k) a w5.drew o := by
  obtain ⟨hd, hop, hg⟩ := op_of ho (show _ = some (some 48, .move (.tmp 1), none) by kernel_rfl)
  exact fs_old (Want.plain hg) 48 1 hd hop (by kernel_rfl) _ K.h1 (fun w' h => K.B1)
theorem ssst8 {Q : Exit → Act → World → Prop} {a : Act} {w w5 : World} {b c : List UInt8} {D X A : Array Value} {T : ByteArray} {k : Bool} {g6 g9 g11 g13 : Nat} {V0 V1 : Value} (K : SsCtx a w w5 b c D X A T k g6 g9 g11 g13 V0 V1) (o : Oper) (ho : ssOps[8]? = some o) : CStep Tryd.prog ssOps Q (fun d => (ssF w5.drew b c D X A T k d).holds) a w5.drew (fun w' w'' vals => ∀ d ∈ dsts ssOps, o.dst ≠ some d → d ∉ [45, 47] → (ssF w5.drew b c D X A T k d).holds (vals d) w' → (ssF w5.drew b c D X A T k d).holds (vals d) w'') o := by
  obtain ⟨hd, hop, hg⟩ := op_of ho (show _ = some (some 49, .call { callee := .builtin .append, args := #[.tmp 47, .tmp 48], argTypes := #[30, 30] }, none) by kernel_rfl)
  exact cs_last (Want.plain hg) 49 47 48 hd 30 5 hop [45, 47] (ssKeeps _ _ _ _ _ _ _ _) Tryd.underlying30 (by kernel_rfl) (Dep.at K.hn ho (by kernel_rfl)) (Dep.at K.hn ho (by kernel_rfl)) b c K.n1 rfl rfl (fun v w h => BytesIs.own (n := b.length + c.length) h)
theorem ssst9 {Q : Exit → Act → World → Prop} {a : Act} {w w5 : World} {b c : List UInt8} {D X A : Array Value} {T : ByteArray} {k : Bool} {g6 g9 g11 g13 : Nat} {V0 V1 : Value} (K : SsCtx a w w5 b c D X A T k g6 g9 g11 g13 V0 V1) (o : Oper) (ho : ssOps[9]? = some o) : FStep Tryd.prog ssOps Q (ssF w5.drew b c D X A T k) a w5.drew o := by
  obtain ⟨hd, hop, hg⟩ := op_of ho (show _ = some (some 50, .call { callee := .value (.func 22), args := #[.tmp 49], argTypes := #[30] }, none) by kernel_rfl)
  exact fs_call (Want.plain hg) 50 hd 22 _ _ hop _ Tryd.func22 (by kernel_rfl) (by kernel_rfl) (fun vals w' hF hv => ⟨_, by rw [map1 (Dep.at K.hn ho (by kernel_rfl)).eval]; exact K.c2 w' _ (hv 49 (Dep.at K.hn ho (by kernel_rfl)).dep), fun _ hf => rfl⟩)
theorem ssst10 {Q : Exit → Act → World → Prop} {a : Act} {w w5 : World} {b c : List UInt8} {D X A : Array Value} {T : ByteArray} {k : Bool} {g6 g9 g11 g13 : Nat} {V0 V1 : Value} (K : SsCtx a w w5 b c D X A T k g6 g9 g11 g13 V0 V1) (o : Oper) (ho : ssOps[10]? = some o) : FStep Tryd.prog ssOps Q (ssF w5.drew b c D X A T k) a w5.drew o := by
  obtain ⟨hd, hop, hg⟩ := op_of ho (show _ = some (some 51, .binOp .eql 23 (.tmp 44) (.tmp 50) 23, none) by kernel_rfl)
  exact fs_eql (Want.plain hg) 51 44 50 _ _ hd hop (Dep.at K.hn ho (by kernel_rfl)) (Dep.at K.hn ho (by kernel_rfl)) (.agg D) (.agg D) true rfl rfl rfl (fun w' => by have := K.eDD w'; go_simp)
theorem ssst11 {Q : Exit → Act → World → Prop} {a : Act} {w w5 : World} {b c : List UInt8} {D X A : Array Value} {T : ByteArray} {k : Bool} {g6 g9 g11 g13 : Nat} {V0 V1 : Value} (K : SsCtx a w w5 b c D X A T k g6 g9 g11 g13 V0 V1) (o : Oper) (ho : ssOps[11]? = some o) : FStep Tryd.prog ssOps Q (ssF w5.drew b c D X A T k) a w5.drew o := by
  obtain ⟨hd, hop, hg⟩ := op_of ho (show _ = some (some 52, .move (.tmp 51), none) by kernel_rfl)
  exact fs_move (Want.plain hg) 52 51 hd hop (Dep.at K.hn ho (by kernel_rfl)).mem (Dep.at K.hn ho (by kernel_rfl)).lt (Dep.at K.hn ho (by kernel_rfl)).dep (fun _ _ h => h)
theorem ssst12 {Q : Exit → Act → World → Prop} {a : Act} {w w5 : World} {b c : List UInt8} {D X A : Array Value} {T : ByteArray} {k : Bool} {g6 g9 g11 g13 : Nat} {V0 V1 : Value} (K : SsCtx a w w5 b c D X A T k g6 g9 g11 g13 V0 V1) (o : Oper) (ho : ssOps[12]? = some o) : FStep Tryd.prog ssOps Q (ssF w5.drew b c D X A T k) a w5.drew o := by
  obtain ⟨hd, hop, hg⟩ := op_of ho (show _ = some (some 53, .load 23 (.tmp 6), some (11, true)) by kernel_rfl)
  exact fs_load_old (Want.dep 11 true 52 hg (by kernel_rfl) (Dep.at K.hn ho (by kernel_rfl)) rfl) 53 6 _ hd hop (by kernel_rfl) g6 K.h6 23 A (0, 0) _ K.G6 Tryd.underlying23 rfl K.IA rfl
theorem ssst13 {Q : Exit → Act → World → Prop} {a : Act} {w w5 : World} {b c : List UInt8} {D X A : Array Value} {T : ByteArray} {k : Bool} {g6 g9 g11 g13 : Nat} {V0 V1 : Value} (K : SsCtx a w w5 b c D X A T k g6 g9 g11 g13 V0 V1) (o : Oper) (ho : ssOps[13]? = some o) : FStep Tryd.prog ssOps Q (ssF w5.drew b c D X A T k) a w5.drew o := by
  obtain ⟨hd, hop, hg⟩ := op_of ho (show _ = some (some 54, .call { callee := .value (.func 20), args := #[.tmp 53], argTypes := #[24] }, some (11, true)) by kernel_rfl)
  exact fs_call (Want.dep 11 true 52 hg (by kernel_rfl) (Dep.at K.hn ho (by kernel_rfl)) rfl) 54 hd 20 _ _ hop _ Tryd.func20 (by kernel_rfl) (by kernel_rfl) (fun vals w' hF hv => ⟨_, by rw [map1 ((Dep.at K.hn ho (by kernel_rfl)).eval.trans (hv 53 (Dep.at K.hn ho (by kernel_rfl)).dep))]; exact K.c3 w', fun _ hf => rfl⟩)
theorem ssst14 {Q : Exit → Act → World → Prop} {a : Act} {w w5 : World} {b c : List UInt8} {D X A : Array Value} {T : ByteArray} {k : Bool} {g6 g9 g11 g13 : Nat} {V0 V1 : Value} (K : SsCtx a w w5 b c D X A T k g6 g9 g11 g13 V0 V1) (o : Oper) (ho : ssOps[14]? = some o) : FStep Tryd.prog ssOps Q (ssF w5.drew b c D X A T k) a w5.drew o := by
  obtain ⟨hd, hop, hg⟩ := op_of ho (show _ = some (some 55, .load 23 (.tmp 6), some (11, true)) by kernel_rfl)
  exact fs_load_old (Want.dep 11 true 52 hg (by kernel_rfl) (Dep.at K.hn ho (by kernel_rfl)) rfl) 55 6 _ hd hop (by kernel_rfl) g6 K.h6 23 A (0, 0) _ K.G6 Tryd.underlying23 rfl K.IA rfl
theorem ssst15 {Q : Exit → Act → World → Prop} {a : Act} {w w5 : World} {b c : List UInt8} {D X A : Array Value} {T : ByteArray} {k : Bool} {g6 g9 g11 g13 : Nat} {V0 V1 : Value} (K : SsCtx a w w5 b c D X A T k g6 g9 g11 g13 V0 V1) (o : Oper) (ho : ssOps[15]? = some o) : FStep Tryd.prog ssOps Q (ssF w5.drew b c D X A T k) a w5.drew o := by
  obtain ⟨hd, hop, hg⟩ := op_of ho (show _ = some (some 56, .call { callee := .value (.func 23), args := #[.tmp 55], argTypes := #[23] }, some (11, true)) by kernel_rfl)
  exact fs_call (Want.dep 11 true 52 hg (by kernel_rfl) (Dep.at K.hn ho (by kernel_rfl)) rfl) 56 hd 23 _ _ hop _ Tryd.func23 (by kernel_rfl) (by kernel_rfl) (fun vals w' hF hv => ⟨_, by rw [map1 ((Dep.at K.hn ho (by kernel_rfl)).eval.trans (hv 55 (Dep.at K.hn ho (by kernel_rfl)).dep))]; exact K.c4 w', fun _ hf => rfl⟩)
theorem ssst16 {Q : Exit → Act → World → Prop} {a : Act} {w w5 : World} {b c : List UInt8} {D X A : Array Value} {T : ByteArray} {k : Bool} {g6 g9 g11 g13 : Nat} {V0 V1 : Value} (K : SsCtx a w w5 b c D X A T k g6 g9 g11 g13 V0 V1) (o : Oper) (ho : ssOps[16]? = some o) : FStep Tryd.prog ssOps Q (ssF w5.drew b c D X A T k) a w5.drew o := by
  obtain ⟨hd, hop, hg⟩ := op_of ho (show _ = some (some 57, .binOp .eql 9 (.tmp 54) (.tmp 56) 9, some (11, true)) by kernel_rfl)
  exact fs_eql (Want.dep 11 true 52 hg (by kernel_rfl) (Dep.at K.hn ho (by kernel_rfl)) rfl) 57 54 56 _ _ hd hop (Dep.at K.hn ho (by kernel_rfl)) (Dep.at K.hn ho (by kernel_rfl)) (.string T) (.string T) true rfl rfl rfl (fun w' => by go_simp)
theorem ssst17 {Q : Exit → Act → World → Prop} {a : Act} {w w5 : World} {b c : List UInt8} {D X A : Array Value} {T : ByteArray} {k : Bool} {g6 g9 g11 g13 : Nat} {V0 V1 : Value} (K : SsCtx a w w5 b c D X A T k g6 g9 g11 g13 V0 V1) (o : Oper) (ho : ssOps[17]? = some o) : FStep Tryd.prog ssOps Q (ssF w5.drew b c D X A T k) a w5.drew o := by
  obtain ⟨hd, hop, hg⟩ := op_of ho (show _ = some (some 58, .pick (.tmp 52) (.tmp 57) (.const (.bool false)), none) by kernel_rfl)
  exact fs_pick (Want.plain hg) 58 52 57 _ hd hop (Dep.at K.hn ho (by kernel_rfl)) (Dep.at K.hn ho (by kernel_rfl)) rfl rfl rfl
theorem ssst18 {Q : Exit → Act → World → Prop} {a : Act} {w w5 : World} {b c : List UInt8} {D X A : Array Value} {T : ByteArray} {k : Bool} {g6 g9 g11 g13 : Nat} {V0 V1 : Value} (K : SsCtx a w w5 b c D X A T k g6 g9 g11 g13 V0 V1) (o : Oper) (ho : ssOps[18]? = some o) : FStep Tryd.prog ssOps Q (ssF w5.drew b c D X A T k) a w5.drew o := by
  obtain ⟨hd, hop, hg⟩ := op_of ho (show _ = some (some 59, .move (.tmp 58), none) by kernel_rfl)
  exact fs_move (Want.plain hg) 59 58 hd hop (Dep.at K.hn ho (by kernel_rfl)).mem (Dep.at K.hn ho (by kernel_rfl)).lt (Dep.at K.hn ho (by kernel_rfl)).dep (fun _ _ h => h)
theorem ssst19 {Q : Exit → Act → World → Prop} {a : Act} {w w5 : World} {b c : List UInt8} {D X A : Array Value} {T : ByteArray} {k : Bool} {g6 g9 g11 g13 : Nat} {V0 V1 : Value} (K : SsCtx a w w5 b c D X A T k g6 g9 g11 g13 V0 V1) (o : Oper) (ho : ssOps[19]? = some o) : FStep Tryd.prog ssOps Q (ssF w5.drew b c D X A T k) a w5.drew o := by
  obtain ⟨hd, hop, hg⟩ := op_of ho (show _ = some (some 60, .load 24 (.tmp 9), some (18, true)) by kernel_rfl)
  exact fs_load_old (Want.dep 18 true 59 hg (by kernel_rfl) (Dep.at K.hn ho (by kernel_rfl)) rfl) 60 9 _ hd hop (by kernel_rfl) g9 K.h9 24 X (0, 0) _ K.G9 Tryd.underlying24 rfl K.IX4 rfl
theorem ssst20 {Q : Exit → Act → World → Prop} {a : Act} {w w5 : World} {b c : List UInt8} {D X A : Array Value} {T : ByteArray} {k : Bool} {g6 g9 g11 g13 : Nat} {V0 V1 : Value} (K : SsCtx a w w5 b c D X A T k g6 g9 g11 g13 V0 V1) (o : Oper) (ho : ssOps[20]? = some o) : FStep Tryd.prog ssOps Q (ssF w5.drew b c D X A T k) a w5.drew o := by
  obtain ⟨hd, hop, hg⟩ := op_of ho (show _ = some (some 61, .load 23 (.tmp 11), some (18, true)) by kernel_rfl)
  exact fs_load_old (Want.dep 18 true 59 hg (by kernel_rfl) (Dep.at K.hn ho (by kernel_rfl)) rfl) 61 11 _ hd hop (by kernel_rfl) g11 K.h11 23 X (0, 0) _ K.G11 Tryd.underlying23 rfl K.IX3 rfl
theorem ssst21 {Q : Exit → Act → World → Prop} {a : Act} {w w5 : World} {b c : List UInt8} {D X A : Array Value} {T : ByteArray} {k : Bool} {g6 g9 g11 g13 : Nat} {V0 V1 : Value} (K : SsCtx a w w5 b c D X A T k g6 g9 g11 g13 V0 V1) (o : Oper) (ho : ssOps[21]? = some o) : FStep Tryd.prog ssOps Q (ssF w5.drew b c D X A T k) a w5.drew o := by
  obtain ⟨hd, hop, hg⟩ := op_of ho (show _ = some (some 62, .binOp .eql 23 (.tmp 60) (.tmp 61) 23, some (18, true)) by kernel_rfl)
  exact fs_eql (Want.dep 18 true 59 hg (by kernel_rfl) (Dep.at K.hn ho (by kernel_rfl)) rfl) 62 60 61 _ _ hd hop (Dep.at K.hn ho (by kernel_rfl)) (Dep.at K.hn ho (by kernel_rfl)) (.agg X) (.agg X) true rfl rfl rfl (fun w' => by have := K.eXX w'; go_simp)
theorem ssst22 {Q : Exit → Act → World → Prop} {a : Act} {w w5 : World} {b c : List UInt8} {D X A : Array Value} {T : ByteArray} {k : Bool} {g6 g9 g11 g13 : Nat} {V0 V1 : Value} (K : SsCtx a w w5 b c D X A T k g6 g9 g11 g13 V0 V1) (o : Oper) (ho : ssOps[22]? = some o) : FStep Tryd.prog ssOps Q (ssF w5.drew b c D X A T k) a w5.drew o := by
  obtain ⟨hd, hop, hg⟩ := op_of ho (show _ = some (some 63, .pick (.tmp 59) (.tmp 62) (.const (.bool false)), none) by kernel_rfl)
  exact fs_pick (Want.plain hg) 63 59 62 _ hd hop (Dep.at K.hn ho (by kernel_rfl)) (Dep.at K.hn ho (by kernel_rfl)) rfl rfl rfl
theorem ssst23 {Q : Exit → Act → World → Prop} {a : Act} {w w5 : World} {b c : List UInt8} {D X A : Array Value} {T : ByteArray} {k : Bool} {g6 g9 g11 g13 : Nat} {V0 V1 : Value} (K : SsCtx a w w5 b c D X A T k g6 g9 g11 g13 V0 V1) (o : Oper) (ho : ssOps[23]? = some o) : FStep Tryd.prog ssOps Q (ssF w5.drew b c D X A T k) a w5.drew o := by
  obtain ⟨hd, hop, hg⟩ := op_of ho (show _ = some (some 64, .move (.tmp 63), none) by kernel_rfl)
  exact fs_move (Want.plain hg) 64 63 hd hop (Dep.at K.hn ho (by kernel_rfl)).mem (Dep.at K.hn ho (by kernel_rfl)).lt (Dep.at K.hn ho (by kernel_rfl)).dep (fun _ _ h => h)
theorem ssst24 {Q : Exit → Act → World → Prop} {a : Act} {w w5 : World} {b c : List UInt8} {D X A : Array Value} {T : ByteArray} {k : Bool} {g6 g9 g11 g13 : Nat} {V0 V1 : Value} (K : SsCtx a w w5 b c D X A T k g6 g9 g11 g13 V0 V1) (o : Oper) (ho : ssOps[24]? = some o) : FStep Tryd.prog ssOps Q (ssF w5.drew b c D X A T k) a w5.drew o := by
  obtain ⟨hd, hop, hg⟩ := op_of ho (show _ = some (some 65, .move (.tmp 10), some (23, true)) by kernel_rfl)
  exact fs_old (Want.dep 23 true 64 hg (by kernel_rfl) (Dep.at K.hn ho (by kernel_rfl)) rfl) 65 10 hd hop (by kernel_rfl) _ K.h10 (fun w' h => rfl)
theorem ssst25 {Q : Exit → Act → World → Prop} {a : Act} {w w5 : World} {b c : List UInt8} {D X A : Array Value} {T : ByteArray} {k : Bool} {g6 g9 g11 g13 : Nat} {V0 V1 : Value} (K : SsCtx a w w5 b c D X A T k g6 g9 g11 g13 V0 V1) (o : Oper) (ho : ssOps[25]? = some o) : FStep Tryd.prog ssOps Q (ssF w5.drew b c D X A T k) a w5.drew o := by
  obtain ⟨hd, hop, hg⟩ := op_of ho (show _ = some (some 66, .move (.tmp 12), some (23, true)) by kernel_rfl)
  exact fs_old (Want.dep 23 true 64 hg (by kernel_rfl) (Dep.at K.hn ho (by kernel_rfl)) rfl) 66 12 hd hop (by kernel_rfl) _ K.h12 (fun w' h => rfl)
theorem ssst26 {Q : Exit → Act → World → Prop} {a : Act} {w w5 : World} {b c : List UInt8} {D X A : Array Value} {T : ByteArray} {k : Bool} {g6 g9 g11 g13 : Nat} {V0 V1 : Value} (K : SsCtx a w w5 b c D X A T k g6 g9 g11 g13 V0 V1) (o : Oper) (ho : ssOps[26]? = some o) : FStep Tryd.prog ssOps Q (ssF w5.drew b c D X A T k) a w5.drew o := by
  obtain ⟨hd, hop, hg⟩ := op_of ho (show _ = some (some 67, .binOp .eql 4 (.tmp 65) (.tmp 66) 4, some (23, true)) by kernel_rfl)
  exact fs_eql (Want.dep 23 true 64 hg (by kernel_rfl) (Dep.at K.hn ho (by kernel_rfl)) rfl) 67 65 66 _ _ hd hop (Dep.at K.hn ho (by kernel_rfl)) (Dep.at K.hn ho (by kernel_rfl)) (.bool k) (.bool k) true rfl rfl rfl (fun w' => by go_simp)
theorem ssst27 {Q : Exit → Act → World → Prop} {a : Act} {w w5 : World} {b c : List UInt8} {D X A : Array Value} {T : ByteArray} {k : Bool} {g6 g9 g11 g13 : Nat} {V0 V1 : Value} (K : SsCtx a w w5 b c D X A T k g6 g9 g11 g13 V0 V1) (o : Oper) (ho : ssOps[27]? = some o) : FStep Tryd.prog ssOps Q (ssF w5.drew b c D X A T k) a w5.drew o := by
  obtain ⟨hd, hop, hg⟩ := op_of ho (show _ = some (some 68, .pick (.tmp 64) (.tmp 67) (.const (.bool false)), none) by kernel_rfl)
  exact fs_pick (Want.plain hg) 68 64 67 _ hd hop (Dep.at K.hn ho (by kernel_rfl)) (Dep.at K.hn ho (by kernel_rfl)) rfl rfl rfl
theorem ssst28 {Q : Exit → Act → World → Prop} {a : Act} {w w5 : World} {b c : List UInt8} {D X A : Array Value} {T : ByteArray} {k : Bool} {g6 g9 g11 g13 : Nat} {V0 V1 : Value} (K : SsCtx a w w5 b c D X A T k g6 g9 g11 g13 V0 V1) (o : Oper) (ho : ssOps[28]? = some o) : FStep Tryd.prog ssOps Q (ssF w5.drew b c D X A T k) a w5.drew o := by
  obtain ⟨hd, hop, hg⟩ := op_of ho (show _ = some (some 69, .move (.tmp 68), none) by kernel_rfl)
  exact fs_move (Want.plain hg) 69 68 hd hop (Dep.at K.hn ho (by kernel_rfl)).mem (Dep.at K.hn ho (by kernel_rfl)).lt (Dep.at K.hn ho (by kernel_rfl)).dep (fun _ _ h => h)
theorem ssst29 {Q : Exit → Act → World → Prop} {a : Act} {w w5 : World} {b c : List UInt8} {D X A : Array Value} {T : ByteArray} {k : Bool} {g6 g9 g11 g13 : Nat} {V0 V1 : Value} (K : SsCtx a w w5 b c D X A T k g6 g9 g11 g13 V0 V1) (o : Oper) (ho : ssOps[29]? = some o) : FStep Tryd.prog ssOps Q (ssF w5.drew b c D X A T k) a w5.drew o := by
  obtain ⟨hd, hop, hg⟩ := op_of ho (show _ = some (some 70, .move (.tmp 14), some (28, true)) by kernel_rfl)
  exact fs_old (Want.dep 28 true 69 hg (by kernel_rfl) (Dep.at K.hn ho (by kernel_rfl)) rfl) 70 14 hd hop (by kernel_rfl) _ K.h14 (fun w' h => rfl)
theorem ssst30 {Q : Exit → Act → World → Prop} {a : Act} {w w5 : World} {b c : List UInt8} {D X A : Array Value} {T : ByteArray} {k : Bool} {g6 g9 g11 g13 : Nat} {V0 V1 : Value} (K : SsCtx a w w5 b c D X A T k g6 g9 g11 g13 V0 V1) (o : Oper) (ho : ssOps[30]? = some o) : FStep Tryd.prog ssOps Q (ssF w5.drew b c D X A T k) a w5.drew o := by
  obtain ⟨hd, hop, hg⟩ := op_of ho (show _ = some (some 71, .pick (.tmp 69) (.tmp 70) (.const (.bool false)), none) by kernel_rfl)
  exact fs_pick (Want.plain hg) 71 69 70 _ hd hop (Dep.at K.hn ho (by kernel_rfl)) (Dep.at K.hn ho (by kernel_rfl)) rfl rfl rfl
theorem ssst31 {Q : Exit → Act → World → Prop} {a : Act} {w w5 : World} {b c : List UInt8} {D X A : Array Value} {T : ByteArray} {k : Bool} {g6 g9 g11 g13 : Nat} {V0 V1 : Value} (K : SsCtx a w w5 b c D X A T k g6 g9 g11 g13 V0 V1) (o : Oper) (ho : ssOps[31]? = some o) : FStep Tryd.prog ssOps Q (ssF w5.drew b c D X A T k) a w5.drew o := by
  obtain ⟨hd, hop, hg⟩ := op_of ho (show _ = some (some 72, .move (.tmp 71), none) by kernel_rfl)
  exact fs_move (Want.plain hg) 72 71 hd hop (Dep.at K.hn ho (by kernel_rfl)).mem (Dep.at K.hn ho (by kernel_rfl)).lt (Dep.at K.hn ho (by kernel_rfl)).dep (fun _ _ h => h)
theorem ssst32 {Q : Exit → Act → World → Prop} {a : Act} {w w5 : World} {b c : List UInt8} {D X A : Array Value} {T : ByteArray} {k : Bool} {g6 g9 g11 g13 : Nat} {V0 V1 : Value} (K : SsCtx a w w5 b c D X A T k g6 g9 g11 g13 V0 V1) (o : Oper) (ho : ssOps[32]? = some o) : FStep Tryd.prog ssOps Q (ssF w5.drew b c D X A T k) a w5.drew o := by
  obtain ⟨hd, hop, hg⟩ := op_of ho (show _ = some (some 73, .load 24 (.tmp 13), some (31, true)) by kernel_rfl)
  exact fs_load_old (Want.dep 31 true 72 hg (by kernel_rfl) (Dep.at K.hn ho (by kernel_rfl)) rfl) 73 13 _ hd hop (by kernel_rfl) g13 K.h13 24 A (0, 0) _ K.G13 Tryd.underlying24 rfl K.IA4 rfl
theorem ssst33 {Q : Exit → Act → World → Prop} {a : Act} {w w5 : World} {b c : List UInt8} {D X A : Array Value} {T : ByteArray} {k : Bool} {g6 g9 g11 g13 : Nat} {V0 V1 : Value} (K : SsCtx a w w5 b c D X A T k g6 g9 g11 g13 V0 V1) (o : Oper) (ho : ssOps[33]? = some o) : FStep Tryd.prog ssOps Q (ssF w5.drew b c D X A T k) a w5.drew o := by
  obtain ⟨hd, hop, hg⟩ := op_of ho (show _ = some (some 74, .load 23 (.tmp 6), some (31, true)) by kernel_rfl)
  exact fs_load_old (Want.dep 31 true 72 hg (by kernel_rfl) (Dep.at K.hn ho (by kernel_rfl)) rfl) 74 6 _ hd hop (by kernel_rfl) g6 K.h6 23 A (0, 0) _ K.G6 Tryd.underlying23 rfl K.IA rfl
theorem ssst34 {Q : Exit → Act → World → Prop} {a : Act} {w w5 : World} {b c : List UInt8} {D X A : Array Value} {T : ByteArray} {k : Bool} {g6 g9 g11 g13 : Nat} {V0 V1 : Value} (K : SsCtx a w w5 b c D X A T k g6 g9 g11 g13 V0 V1) (o : Oper) (ho : ssOps[34]? = some o) : FStep Tryd.prog ssOps Q (ssF w5.drew b c D X A T k) a w5.drew o := by
  obtain ⟨hd, hop, hg⟩ := op_of ho (show _ = some (some 75, .binOp .eql 23 (.tmp 73) (.tmp 74) 23, some (31, true)) by kernel_rfl)
  exact fs_eql (Want.dep 31 true 72 hg (by kernel_rfl) (Dep.at K.hn ho (by kernel_rfl)) rfl) 75 73 74 _ _ hd hop (Dep.at K.hn ho (by kernel_rfl)) (Dep.at K.hn ho (by kernel_rfl)) (.agg A) (.agg A) true rfl rfl rfl (fun w' => by have := K.eAA w'; go_simp)
theorem ssst35 {Q : Exit → Act → World → Prop} {a : Act} {w w5 : World} {b c : List UInt8} {D X A : Array Value} {T : ByteArray} {k : Bool} {g6 g9 g11 g13 : Nat} {V0 V1 : Value} (K : SsCtx a w w5 b c D X A T k g6 g9 g11 g13 V0 V1) (o : Oper) (ho : ssOps[35]? = some o) : FStep Tryd.prog ssOps Q (ssF w5.drew b c D X A T k) a w5.drew o := by
  obtain ⟨hd, hop, hg⟩ := op_of ho (show _ = some (some 76, .pick (.tmp 72) (.tmp 75) (.const (.bool false)), none) by kernel_rfl)
  exact fs_pick (Want.plain hg) 76 72 75 _ hd hop (Dep.at K.hn ho (by kernel_rfl)) (Dep.at K.hn ho (by kernel_rfl)) rfl rfl rfl
theorem ssst36 {Q : Exit → Act → World → Prop} {a : Act} {w w5 : World} {b c : List UInt8} {D X A : Array Value} {T : ByteArray} {k : Bool} {g6 g9 g11 g13 : Nat} {V0 V1 : Value} (K : SsCtx a w w5 b c D X A T k g6 g9 g11 g13 V0 V1) (o : Oper) (ho : ssOps[36]? = some o) : FStep Tryd.prog ssOps Q (ssF w5.drew b c D X A T k) a w5.drew o := by
  obtain ⟨hd, hop, hg⟩ := op_of ho (show _ = some (some 8, .assign (.tmp 76), none) by kernel_rfl)
  exact fs_assign (Want.plain hg) 8 76 hd hop (Dep.at K.hn ho (by kernel_rfl)).mem (Dep.at K.hn ho (by kernel_rfl)).lt (Dep.at K.hn ho (by kernel_rfl)).dep (fun _ _ h => h)
theorem ssLen : ssOps.length = 37 := by kernel_rfl
theorem ss_region {Q : Exit → Act → World → Prop} {id : Nat} {a : Act} {w w5 : World} {b c : List UInt8} {D X A : Array Value} {T : ByteArray} {k : Bool} {g6 g9 g11 g13 : Nat} {V0 V1 : Value} (K : SsCtx a w w5 b c D X A T k g6 g9 g11 g13 V0 V1)
    (hQ : ∀ (a' : Act) (w' : World), Fr0 w5 w' → a'.defers = a.defers → a'.eval (.tmp 8) = .bool true → Q .normal a' w') : (Code.region id ssOps.toArray true).wp Tryd.prog Q a w5 := by
  refine region_factsC (fun d => (ssF w5.drew b c D X A T k d).holds) (fun d v w w' h => (ssF w5.drew b c D X A T k d).mono v w w' h) 8 [45, 47] (.inl (by rw [ssLen]; decide)) (by kernel_rfl) (by kernel_rfl) (by rw [K.hn]; kernel_rfl) (fun i o ho hne => ?_) (fun o ho => ssst8 K o ho) (fun vals w' hF hv => ?_)
  · have last : ∀ {o : Oper}, ssOps[36]? = some o → (∀ d, o.dst = some d → d ∉ [45, 47]) ∧ CStep Tryd.prog ssOps Q (fun d v w => d ∈ [45, 47] ∨ (ssF w5.drew b c D X A T k d).holds v w) a w5.drew (fun w' w'' _ => Fr0 w' w'') o := fun {o} ho => by
      obtain ⟨hd, hop, hg⟩ := op_of ho (show _ = some (some 8, .assign (.tmp 76), none) by kernel_rfl)
      have hD : Dep ssOps a o 76 := (Dep.at K.hn ho (by kernel_rfl))
      refine ⟨fun d h => by rw [hd] at h; cases h; decide, fun vals w' hF0 hv => ?_⟩
      rw [if_pos (by simp [Region.wanted, hg])]
      have hx := (hv _ hD.dep).resolve_left (by decide)
      refine run_value (vals 76) w' (by simp only [execOp, hop, hD.eval, Sem.run_pure]) ⟨_, rfl, fun d h => ?_, Fr.refl _ _, hF0⟩
      rw [hd] at h
      cases h
      exact .inr hx
    have hi : i < 37 := by rw [← ssLen]; exact (List.getElem?_eq_some_iff.1 ho).1
    match i, hi, ho with
    | 0, _, ho => exact .inl ⟨by kernel_rfl, ssst0 K o ho⟩
    | 1, _, ho => exact .inl ⟨by kernel_rfl, ssst1 K o ho⟩
    | 2, _, ho => exact .inl ⟨by kernel_rfl, ssst2 K o ho⟩
    | 3, _, ho => exact .inl ⟨by kernel_rfl, ssst3 K o ho⟩
    | 4, _, ho => exact .inl ⟨by kernel_rfl, ssst4 K o ho⟩
    | 5, _, ho => exact .inl ⟨by kernel_rfl, ssst5 K o ho⟩
    | 6, _, ho => exact .inl ⟨by kernel_rfl, ssst6 K o ho⟩
    | 7, _, ho => exact .inl ⟨by kernel_rfl, ssst7 K o ho⟩
    | 8, _, ho => exact absurd rfl hne
    | 9, _, ho => exact .inl ⟨by kernel_rfl, ssst9 K o ho⟩
    | 10, _, ho => exact .inl ⟨by kernel_rfl, ssst10 K o ho⟩
    | 11, _, ho => exact .inl ⟨by kernel_rfl, ssst11 K o ho⟩
    | 12, _, ho => exact .inl ⟨by kernel_rfl, ssst12 K o ho⟩
    | 13, _, ho => exact .inl ⟨by kernel_rfl, ssst13 K o ho⟩
    | 14, _, ho => exact .inl ⟨by kernel_rfl, ssst14 K o ho⟩
    | 15, _, ho => exact .inl ⟨by kernel_rfl, ssst15 K o ho⟩
    | 16, _, ho => exact .inl ⟨by kernel_rfl, ssst16 K o ho⟩
    | 17, _, ho => exact .inl ⟨by kernel_rfl, ssst17 K o ho⟩
    | 18, _, ho => exact .inl ⟨by kernel_rfl, ssst18 K o ho⟩
    | 19, _, ho => exact .inl ⟨by kernel_rfl, ssst19 K o ho⟩
    | 20, _, ho => exact .inl ⟨by kernel_rfl, ssst20 K o ho⟩
    | 21, _, ho => exact .inl ⟨by kernel_rfl, ssst21 K o ho⟩
    | 22, _, ho => exact .inl ⟨by kernel_rfl, ssst22 K o ho⟩
    | 23, _, ho => exact .inl ⟨by kernel_rfl, ssst23 K o ho⟩
    | 24, _, ho => exact .inl ⟨by kernel_rfl, ssst24 K o ho⟩
    | 25, _, ho => exact .inl ⟨by kernel_rfl, ssst25 K o ho⟩
    | 26, _, ho => exact .inl ⟨by kernel_rfl, ssst26 K o ho⟩
    | 27, _, ho => exact .inl ⟨by kernel_rfl, ssst27 K o ho⟩
    | 28, _, ho => exact .inl ⟨by kernel_rfl, ssst28 K o ho⟩
    | 29, _, ho => exact .inl ⟨by kernel_rfl, ssst29 K o ho⟩
    | 30, _, ho => exact .inl ⟨by kernel_rfl, ssst30 K o ho⟩
    | 31, _, ho => exact .inl ⟨by kernel_rfl, ssst31 K o ho⟩
    | 32, _, ho => exact .inl ⟨by kernel_rfl, ssst32 K o ho⟩
    | 33, _, ho => exact .inl ⟨by kernel_rfl, ssst33 K o ho⟩
    | 34, _, ho => exact .inl ⟨by kernel_rfl, ssst34 K o ho⟩
    | 35, _, ho => exact .inl ⟨by kernel_rfl, ssst35 K o ho⟩
    | 36, _, ho => exact .inr (last ho)
  · refine hQ _ w' (Fr.trans' ((Fr.refl _ _).drew) hF) rfl ?_
    have hm : (8 : Nat) ∈ dsts ssOps := List.contains_iff_mem.1 (by kernel_rfl)
    rw [frm_eval a _ vals 8 hm (by rw [K.hn]; decide)]
    exact hv 8 hm (by decide)
end Go.Proofs.YtcdfflieooopjaaDoor.Base.C
