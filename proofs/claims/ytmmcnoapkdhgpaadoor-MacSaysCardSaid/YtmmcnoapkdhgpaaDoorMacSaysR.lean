/-
  MacSays' last statement, by facts (made by wip/tools/ms.py).
-/
import Derived.Test.YtmmcnoapkdhgpaaDoorMacParts
import Derived.Test.YtmmcnoapkdhgpaaDoorFactKinds
import Derived.Test.YtmmcnoapkdhgpaaDoorRefMac
namespace Go.Proofs.YtmmcnoapkdhgpaaDoor.Mac
open Go.RowKit Base Sha

noncomputable def msOps : List Oper := (((Tryd.f8.body.bind (regionOps 7))).getD #[]).toList
structure MsCtx (a : Act) (w w5 : World) (k x y : List UInt8) (X SA : Array Value) (d1 d2 : Bool) (g7 g9 g10 : Nat) (V0 V1 V2 : Value) : Prop where
  hn : a.tmps.size = 72
  h0 : a.eval (.tmp 0) = V0
  h1 : a.eval (.tmp 1) = V1
  h2 : a.eval (.tmp 2) = V2
  h7 : a.eval (.tmp 7) = .pointer (some ⟨g7, 0, none⟩)
  h9 : a.eval (.tmp 9) = .pointer (some ⟨g9, 0, none⟩)
  h10 : a.eval (.tmp 10) = .pointer (some ⟨g10, 0, none⟩)
  HF5w : Fr0 w w5
  B0 : BytesIs w5 V0 k
  B1 : BytesIs w5 V1 x
  B2 : BytesIs w5 V2 y
  G7 : w5.heap[g7]? = some (.cells SA 23 (0, 0))
  G9 : w5.heap[g9]? = some (.cells X 24 (0, 0))
  G10 : w5.heap[g10]? = some (.cells X 23 (0, 0))
  I24 : (Tryd.prog.info? 24).map (·.size) = some X.size
  I23 : (Tryd.prog.info? 23).map (·.size) = some X.size
  IS : (Tryd.prog.info? 23).map (·.size) = some SA.size
  eXX : ∀ wx : World, (Op.equalIn 10000 23 (.agg X) (.agg X)).run Tryd.prog wx = .ok true wx
  eSX : ∀ wx : World, (Op.equalIn 10000 23 (.agg SA) (.agg X)).run Tryd.prog wx = .ok d1 wx
  hs : (x == y) = d2
  c1 : ∀ (W : World) (v u : Value), Fr0 w W → BytesIs W v k → PartsIs W u [x, y] → Calls Tryd.prog 21 #[v, .agg X, u] W fun e w' => e = .returned (.bool true) ∧ Fr0 W w'
  c2 : ∀ (W : World) (v u : Value), Fr0 w W → BytesIs W v k → PartsIs W u [x, y] → Calls Tryd.prog 21 #[v, .agg SA, u] W fun e w' => e = .returned (.bool d1) ∧ Fr0 W w'
  c3 : ∀ (W : World) (v u : Value), BytesIs W v x → BytesIs W u y → Calls Tryd.prog 22 #[v, u] W fun e w' => e = .returned (.bool d2) ∧ Fr0 W w'
def msF (N : Nat) (k x y : List UInt8) (X SA : Array Value) (d1 d2 : Bool) : Nat → Fact
  | 8 => Fact.is (.bool true)
  | 38 => Fact.is (.agg X)
  | 39 => Fact.is (.agg X)
  | 40 => Fact.is (.bool true)
  | 41 => Fact.is (.bool true)
  | 42 => Fact.bytes k
  | 43 => Fact.is (.agg X)
  | 44 => Fact.bytes x
  | 45 => Fact.bytes y
  | 46 => Fact.parts [x, y]
  | 47 => Fact.is (.bool true)
  | 48 => Fact.is (.bool true)
  | 49 => Fact.is (.bool true)
  | 50 => Fact.bytes k
  | 51 => Fact.is (.agg SA)
  | 52 => Fact.bytes x
  | 53 => Fact.bytes y
  | 54 => Fact.parts [x, y]
  | 55 => Fact.is (.bool d1)
  | 56 => Fact.is (.agg SA)
  | 57 => Fact.is (.agg X)
  | 58 => Fact.is (.bool d1)
  | 59 => Fact.is (.bool true)
  | 60 => Fact.is (.bool true)
  | 61 => Fact.is (.bool true)
  | 62 => Fact.bytes x
  | 63 => Fact.bytes y
  | 64 => Fact.is (.bool d2)
  | 65 => Fact.bytes x
  | 66 => Fact.is (.string ⟨(x).toArray⟩)
  | 67 => Fact.bytes y
  | 68 => Fact.is (.string ⟨(y).toArray⟩)
  | 69 => Fact.is (.bool d2)
  | 70 => Fact.is (.bool true)
  | 71 => Fact.is (.bool true)
  | _ => Fact.any
theorem msst0 {Q : Exit → Act → World → Prop} {a : Act} {w w5 : World} {k x y : List UInt8} {X SA : Array Value} {d1 d2 : Bool} {g7 g9 g10 : Nat} {V0 V1 V2 : Value} (K : MsCtx a w w5 k x y X SA d1 d2 g7 g9 g10 V0 V1 V2) (o : Oper) (ho : msOps[0]? = some o) : FStep Tryd.prog msOps Q (msF w5.drew.heap.size k x y X SA d1 d2) a w5.drew o := by
  obtain ⟨hd, hop, hg⟩ := op_of ho (show _ = some (some 38, .load 24 (.tmp 9), none) by kernel_rfl)
  exact fs_load_old (Want.plain hg) 38 9 _ hd hop (by kernel_rfl) g9 K.h9 24 X (0, 0) _ K.G9 Tryd.underlying24 rfl K.I24 rfl
theorem msst1 {Q : Exit → Act → World → Prop} {a : Act} {w w5 : World} {k x y : List UInt8} {X SA : Array Value} {d1 d2 : Bool} {g7 g9 g10 : Nat} {V0 V1 V2 : Value} (K : MsCtx a w w5 k x y X SA d1 d2 g7 g9 g10 V0 V1 V2) (o : Oper) (ho : msOps[1]? = some o) : FStep Tryd.prog msOps Q (msF w5.drew.heap.size k x y X SA d1 d2) a w5.drew o := by
  obtain ⟨hd, hop, hg⟩ := op_of ho (show _ = some (some 39, .load 23 (.tmp 10), none) by kernel_rfl)
  exact fs_load_old (Want.plain hg) 39 10 _ hd hop (by kernel_rfl) g10 K.h10 23 X (0, 0) _ K.G10 Tryd.underlying23 rfl K.I23 rfl
theorem msst2 {Q : Exit → Act → World → Prop} {a : Act} {w w5 : World} {k x y : List UInt8} {X SA : Array Value} {d1 d2 : Bool} {g7 g9 g10 : Nat} {V0 V1 V2 : Value} (K : MsCtx a w w5 k x y X SA d1 d2 g7 g9 g10 V0 V1 V2) (o : Oper) (ho : msOps[2]? = some o) : FStep Tryd.prog msOps Q (msF w5.drew.heap.size k x y X SA d1 d2) a w5.drew o := by
  obtain ⟨hd, hop, hg⟩ := op_of ho (show _ = some (some 40, .binOp .eql 23 (.tmp 38) (.tmp 39) 23, none) by kernel_rfl)
  exact fs_eql (Want.plain hg) 40 38 39 _ _ hd hop (Dep.at K.hn ho (by kernel_rfl)) (Dep.at K.hn ho (by kernel_rfl)) (.agg X) (.agg X) true rfl rfl rfl (fun w' => by have := K.eXX w'; go_simp)
theorem msst3 {Q : Exit → Act → World → Prop} {a : Act} {w w5 : World} {k x y : List UInt8} {X SA : Array Value} {d1 d2 : Bool} {g7 g9 g10 : Nat} {V0 V1 V2 : Value} (K : MsCtx a w w5 k x y X SA d1 d2 g7 g9 g10 V0 V1 V2) (o : Oper) (ho : msOps[3]? = some o) : FStep Tryd.prog msOps Q (msF w5.drew.heap.size k x y X SA d1 d2) a w5.drew o := by
  obtain ⟨hd, hop, hg⟩ := op_of ho (show _ = some (some 41, .move (.tmp 40), none) by kernel_rfl)
  exact fs_move (Want.plain hg) 41 40 hd hop (Dep.at K.hn ho (by kernel_rfl)).mem (Dep.at K.hn ho (by kernel_rfl)).lt (Dep.at K.hn ho (by kernel_rfl)).dep (fun _ _ h => h)
theorem msst4 {Q : Exit → Act → World → Prop} {a : Act} {w w5 : World} {k x y : List UInt8} {X SA : Array Value} {d1 d2 : Bool} {g7 g9 g10 : Nat} {V0 V1 V2 : Value} (K : MsCtx a w w5 k x y X SA d1 d2 g7 g9 g10 V0 V1 V2) (o : Oper) (ho : msOps[4]? = some o) : FStep Tryd.prog msOps Q (msF w5.drew.heap.size k x y X SA d1 d2) a w5.drew o := by
  obtain ⟨hd, hop, hg⟩ := op_of ho (show _ = some (some 42, .move (.tmp 0), some (3, true)) by kernel_rfl)
  exact fs_old (Want.dep 3 true 41 hg (by kernel_rfl) (Dep.at K.hn ho (by kernel_rfl)) rfl) 42 0 hd hop (by kernel_rfl) _ K.h0 (fun w' h => K.B0.fr0 (Fr.trans' ((Fr.refl _ _).drew) h))
theorem msst5 {Q : Exit → Act → World → Prop} {a : Act} {w w5 : World} {k x y : List UInt8} {X SA : Array Value} {d1 d2 : Bool} {g7 g9 g10 : Nat} {V0 V1 V2 : Value} (K : MsCtx a w w5 k x y X SA d1 d2 g7 g9 g10 V0 V1 V2) (o : Oper) (ho : msOps[5]? = some o) : FStep Tryd.prog msOps Q (msF w5.drew.heap.size k x y X SA d1 d2) a w5.drew o := by
  obtain ⟨hd, hop, hg⟩ := op_of ho (show _ = some (some 43, .load 24 (.tmp 9), some (3, true)) by kernel_rfl)
  exact fs_load_old (Want.dep 3 true 41 hg (by kernel_rfl) (Dep.at K.hn ho (by kernel_rfl)) rfl) 43 9 _ hd hop (by kernel_rfl) g9 K.h9 24 X (0, 0) _ K.G9 Tryd.underlying24 rfl K.I24 rfl
theorem msst6 {Q : Exit → Act → World → Prop} {a : Act} {w w5 : World} {k x y : List UInt8} {X SA : Array Value} {d1 d2 : Bool} {g7 g9 g10 : Nat} {V0 V1 V2 : Value} (K : MsCtx a w w5 k x y X SA d1 d2 g7 g9 g10 V0 V1 V2) (o : Oper) (ho : msOps[6]? = some o) : FStep Tryd.prog msOps Q (msF w5.drew.heap.size k x y X SA d1 d2) a w5.drew o := by
  obtain ⟨hd, hop, hg⟩ := op_of ho (show _ = some (some 44, .move (.tmp 1), some (3, true)) by kernel_rfl)
  exact fs_old (Want.dep 3 true 41 hg (by kernel_rfl) (Dep.at K.hn ho (by kernel_rfl)) rfl) 44 1 hd hop (by kernel_rfl) _ K.h1 (fun w' h => K.B1.fr0 (Fr.trans' ((Fr.refl _ _).drew) h))
theorem msst7 {Q : Exit → Act → World → Prop} {a : Act} {w w5 : World} {k x y : List UInt8} {X SA : Array Value} {d1 d2 : Bool} {g7 g9 g10 : Nat} {V0 V1 V2 : Value} (K : MsCtx a w w5 k x y X SA d1 d2 g7 g9 g10 V0 V1 V2) (o : Oper) (ho : msOps[7]? = some o) : FStep Tryd.prog msOps Q (msF w5.drew.heap.size k x y X SA d1 d2) a w5.drew o := by
  obtain ⟨hd, hop, hg⟩ := op_of ho (show _ = some (some 45, .move (.tmp 2), some (3, true)) by kernel_rfl)
  exact fs_old (Want.dep 3 true 41 hg (by kernel_rfl) (Dep.at K.hn ho (by kernel_rfl)) rfl) 45 2 hd hop (by kernel_rfl) _ K.h2 (fun w' h => K.B2.fr0 (Fr.trans' ((Fr.refl _ _).drew) h))
theorem msst8 {Q : Exit → Act → World → Prop} {a : Act} {w w5 : World} {k x y : List UInt8} {X SA : Array Value} {d1 d2 : Bool} {g7 g9 g10 : Nat} {V0 V1 V2 : Value} (K : MsCtx a w w5 k x y X SA d1 d2 g7 g9 g10 V0 V1 V2) (o : Oper) (ho : msOps[8]? = some o) : FStep Tryd.prog msOps Q (msF w5.drew.heap.size k x y X SA d1 d2) a w5.drew o := by
  obtain ⟨hd, hop, hg⟩ := op_of ho (show _ = some (some 46, .buildSlice 37 2 #[(0, .tmp 44), (1, .tmp 45)], some (3, true)) by kernel_rfl)
  exact fs_part2 (Want.dep 3 true 41 hg (by kernel_rfl) (Dep.at K.hn ho (by kernel_rfl)) rfl) 46 44 45 hd 37 30 hop Tryd.underlying37 (by kernel_rfl) (Dep.at K.hn ho (by kernel_rfl)) (Dep.at K.hn ho (by kernel_rfl)) x y (fun _ _ h => h) (fun _ _ h => h) rfl
theorem msst9 {Q : Exit → Act → World → Prop} {a : Act} {w w5 : World} {k x y : List UInt8} {X SA : Array Value} {d1 d2 : Bool} {g7 g9 g10 : Nat} {V0 V1 V2 : Value} (K : MsCtx a w w5 k x y X SA d1 d2 g7 g9 g10 V0 V1 V2) (o : Oper) (ho : msOps[9]? = some o) : FStep Tryd.prog msOps Q (msF w5.drew.heap.size k x y X SA d1 d2) a w5.drew o := by
  obtain ⟨hd, hop, hg⟩ := op_of ho (show _ = some (some 47, .call { callee := .value (.func 21), args := #[.tmp 42, .tmp 43, .tmp 46], argTypes := #[30, 24, 37] }, some (3, true)) by kernel_rfl)
  exact fs_call (Want.dep 3 true 41 hg (by kernel_rfl) (Dep.at K.hn ho (by kernel_rfl)) rfl) 47 hd 21 _ _ hop _ Tryd.func21 (by kernel_rfl) (by kernel_rfl) (fun vals w' hF hv => ⟨_, by rw [map3 (Dep.at K.hn ho (by kernel_rfl)).eval ((Dep.at K.hn ho (by kernel_rfl)).eval.trans (hv 43 (Dep.at K.hn ho (by kernel_rfl)).dep)) (Dep.at K.hn ho (by kernel_rfl)).eval]; exact K.c1 w' _ _ (K.HF5w.trans' (Fr.trans' ((Fr.refl _ _).drew) hF)) (hv 42 (Dep.at K.hn ho (by kernel_rfl)).dep) (hv 46 (Dep.at K.hn ho (by kernel_rfl)).dep), fun _ hf => rfl⟩)
theorem msst10 {Q : Exit → Act → World → Prop} {a : Act} {w w5 : World} {k x y : List UInt8} {X SA : Array Value} {d1 d2 : Bool} {g7 g9 g10 : Nat} {V0 V1 V2 : Value} (K : MsCtx a w w5 k x y X SA d1 d2 g7 g9 g10 V0 V1 V2) (o : Oper) (ho : msOps[10]? = some o) : FStep Tryd.prog msOps Q (msF w5.drew.heap.size k x y X SA d1 d2) a w5.drew o := by
  obtain ⟨hd, hop, hg⟩ := op_of ho (show _ = some (some 48, .pick (.tmp 41) (.tmp 47) (.const (.bool false)), none) by kernel_rfl)
  exact fs_pick (Want.plain hg) 48 41 47 _ hd hop (Dep.at K.hn ho (by kernel_rfl)) (Dep.at K.hn ho (by kernel_rfl)) rfl rfl rfl
theorem msst11 {Q : Exit → Act → World → Prop} {a : Act} {w w5 : World} {k x y : List UInt8} {X SA : Array Value} {d1 d2 : Bool} {g7 g9 g10 : Nat} {V0 V1 V2 : Value} (K : MsCtx a w w5 k x y X SA d1 d2 g7 g9 g10 V0 V1 V2) (o : Oper) (ho : msOps[11]? = some o) : FStep Tryd.prog msOps Q (msF w5.drew.heap.size k x y X SA d1 d2) a w5.drew o := by
  obtain ⟨hd, hop, hg⟩ := op_of ho (show _ = some (some 49, .move (.tmp 48), none) by kernel_rfl)
  exact fs_move (Want.plain hg) 49 48 hd hop (Dep.at K.hn ho (by kernel_rfl)).mem (Dep.at K.hn ho (by kernel_rfl)).lt (Dep.at K.hn ho (by kernel_rfl)).dep (fun _ _ h => h)
theorem msst12 {Q : Exit → Act → World → Prop} {a : Act} {w w5 : World} {k x y : List UInt8} {X SA : Array Value} {d1 d2 : Bool} {g7 g9 g10 : Nat} {V0 V1 V2 : Value} (K : MsCtx a w w5 k x y X SA d1 d2 g7 g9 g10 V0 V1 V2) (o : Oper) (ho : msOps[12]? = some o) : FStep Tryd.prog msOps Q (msF w5.drew.heap.size k x y X SA d1 d2) a w5.drew o := by
  obtain ⟨hd, hop, hg⟩ := op_of ho (show _ = some (some 50, .move (.tmp 0), some (11, true)) by kernel_rfl)
  exact fs_old (Want.dep 11 true 49 hg (by kernel_rfl) (Dep.at K.hn ho (by kernel_rfl)) rfl) 50 0 hd hop (by kernel_rfl) _ K.h0 (fun w' h => K.B0.fr0 (Fr.trans' ((Fr.refl _ _).drew) h))
theorem msst13 {Q : Exit → Act → World → Prop} {a : Act} {w w5 : World} {k x y : List UInt8} {X SA : Array Value} {d1 d2 : Bool} {g7 g9 g10 : Nat} {V0 V1 V2 : Value} (K : MsCtx a w w5 k x y X SA d1 d2 g7 g9 g10 V0 V1 V2) (o : Oper) (ho : msOps[13]? = some o) : FStep Tryd.prog msOps Q (msF w5.drew.heap.size k x y X SA d1 d2) a w5.drew o := by
  obtain ⟨hd, hop, hg⟩ := op_of ho (show _ = some (some 51, .load 23 (.tmp 7), some (11, true)) by kernel_rfl)
  exact fs_load_old (Want.dep 11 true 49 hg (by kernel_rfl) (Dep.at K.hn ho (by kernel_rfl)) rfl) 51 7 _ hd hop (by kernel_rfl) g7 K.h7 23 SA (0, 0) _ K.G7 Tryd.underlying23 rfl K.IS rfl
theorem msst14 {Q : Exit → Act → World → Prop} {a : Act} {w w5 : World} {k x y : List UInt8} {X SA : Array Value} {d1 d2 : Bool} {g7 g9 g10 : Nat} {V0 V1 V2 : Value} (K : MsCtx a w w5 k x y X SA d1 d2 g7 g9 g10 V0 V1 V2) (o : Oper) (ho : msOps[14]? = some o) : FStep Tryd.prog msOps Q (msF w5.drew.heap.size k x y X SA d1 d2) a w5.drew o := by
  obtain ⟨hd, hop, hg⟩ := op_of ho (show _ = some (some 52, .move (.tmp 1), some (11, true)) by kernel_rfl)
  exact fs_old (Want.dep 11 true 49 hg (by kernel_rfl) (Dep.at K.hn ho (by kernel_rfl)) rfl) 52 1 hd hop (by kernel_rfl) _ K.h1 (fun w' h => K.B1.fr0 (Fr.trans' ((Fr.refl _ _).drew) h))
theorem msst15 {Q : Exit → Act → World → Prop} {a : Act} {w w5 : World} {k x y : List UInt8} {X SA : Array Value} {d1 d2 : Bool} {g7 g9 g10 : Nat} {V0 V1 V2 : Value} (K : MsCtx a w w5 k x y X SA d1 d2 g7 g9 g10 V0 V1 V2) (o : Oper) (ho : msOps[15]? = some o) : FStep Tryd.prog msOps Q (msF w5.drew.heap.size k x y X SA d1 d2) a w5.drew o := by
  obtain ⟨hd, hop, hg⟩ := op_of ho (show _ = some (some 53, .move (.tmp 2), some (11, true)) by kernel_rfl)
  exact fs_old (Want.dep 11 true 49 hg (by kernel_rfl) (Dep.at K.hn ho (by kernel_rfl)) rfl) 53 2 hd hop (by kernel_rfl) _ K.h2 (fun w' h => K.B2.fr0 (Fr.trans' ((Fr.refl _ _).drew) h))
theorem msst16 {Q : Exit → Act → World → Prop} {a : Act} {w w5 : World} {k x y : List UInt8} {X SA : Array Value} {d1 d2 : Bool} {g7 g9 g10 : Nat} {V0 V1 V2 : Value} (K : MsCtx a w w5 k x y X SA d1 d2 g7 g9 g10 V0 V1 V2) (o : Oper) (ho : msOps[16]? = some o) : FStep Tryd.prog msOps Q (msF w5.drew.heap.size k x y X SA d1 d2) a w5.drew o := by
  obtain ⟨hd, hop, hg⟩ := op_of ho (show _ = some (some 54, .buildSlice 37 2 #[(0, .tmp 52), (1, .tmp 53)], some (11, true)) by kernel_rfl)
  exact fs_part2 (Want.dep 11 true 49 hg (by kernel_rfl) (Dep.at K.hn ho (by kernel_rfl)) rfl) 54 52 53 hd 37 30 hop Tryd.underlying37 (by kernel_rfl) (Dep.at K.hn ho (by kernel_rfl)) (Dep.at K.hn ho (by kernel_rfl)) x y (fun _ _ h => h) (fun _ _ h => h) rfl
theorem msst17 {Q : Exit → Act → World → Prop} {a : Act} {w w5 : World} {k x y : List UInt8} {X SA : Array Value} {d1 d2 : Bool} {g7 g9 g10 : Nat} {V0 V1 V2 : Value} (K : MsCtx a w w5 k x y X SA d1 d2 g7 g9 g10 V0 V1 V2) (o : Oper) (ho : msOps[17]? = some o) : FStep Tryd.prog msOps Q (msF w5.drew.heap.size k x y X SA d1 d2) a w5.drew o := by
  obtain ⟨hd, hop, hg⟩ := op_of ho (show _ = some (some 55, .call { callee := .value (.func 21), args := #[.tmp 50, .tmp 51, .tmp 54], argTypes := #[30, 24, 37] }, some (11, true)) by kernel_rfl)
  exact fs_call (Want.dep 11 true 49 hg (by kernel_rfl) (Dep.at K.hn ho (by kernel_rfl)) rfl) 55 hd 21 _ _ hop _ Tryd.func21 (by kernel_rfl) (by kernel_rfl) (fun vals w' hF hv => ⟨_, by rw [map3 (Dep.at K.hn ho (by kernel_rfl)).eval ((Dep.at K.hn ho (by kernel_rfl)).eval.trans (hv 51 (Dep.at K.hn ho (by kernel_rfl)).dep)) (Dep.at K.hn ho (by kernel_rfl)).eval]; exact K.c2 w' _ _ (K.HF5w.trans' (Fr.trans' ((Fr.refl _ _).drew) hF)) (hv 50 (Dep.at K.hn ho (by kernel_rfl)).dep) (hv 54 (Dep.at K.hn ho (by kernel_rfl)).dep), fun _ hf => rfl⟩)
theorem msst18 {Q : Exit → Act → World → Prop} {a : Act} {w w5 : World} {k x y : List UInt8} {X SA : Array Value} {d1 d2 : Bool} {g7 g9 g10 : Nat} {V0 V1 V2 : Value} (K : MsCtx a w w5 k x y X SA d1 d2 g7 g9 g10 V0 V1 V2) (o : Oper) (ho : msOps[18]? = some o) : FStep Tryd.prog msOps Q (msF w5.drew.heap.size k x y X SA d1 d2) a w5.drew o := by
  obtain ⟨hd, hop, hg⟩ := op_of ho (show _ = some (some 56, .load 23 (.tmp 7), some (11, true)) by kernel_rfl)
  exact fs_load_old (Want.dep 11 true 49 hg (by kernel_rfl) (Dep.at K.hn ho (by kernel_rfl)) rfl) 56 7 _ hd hop (by kernel_rfl) g7 K.h7 23 SA (0, 0) _ K.G7 Tryd.underlying23 rfl K.IS rfl
theorem msst19 {Q : Exit → Act → World → Prop} {a : Act} {w w5 : World} {k x y : List UInt8} {X SA : Array Value} {d1 d2 : Bool} {g7 g9 g10 : Nat} {V0 V1 V2 : Value} (K : MsCtx a w w5 k x y X SA d1 d2 g7 g9 g10 V0 V1 V2) (o : Oper) (ho : msOps[19]? = some o) : FStep Tryd.prog msOps Q (msF w5.drew.heap.size k x y X SA d1 d2) a w5.drew o := by
  obtain ⟨hd, hop, hg⟩ := op_of ho (show _ = some (some 57, .load 23 (.tmp 10), some (11, true)) by kernel_rfl)
  exact fs_load_old (Want.dep 11 true 49 hg (by kernel_rfl) (Dep.at K.hn ho (by kernel_rfl)) rfl) 57 10 _ hd hop (by kernel_rfl) g10 K.h10 23 X (0, 0) _ K.G10 Tryd.underlying23 rfl K.I23 rfl
theorem msst20 {Q : Exit → Act → World → Prop} {a : Act} {w w5 : World} {k x y : List UInt8} {X SA : Array Value} {d1 d2 : Bool} {g7 g9 g10 : Nat} {V0 V1 V2 : Value} (K : MsCtx a w w5 k x y X SA d1 d2 g7 g9 g10 V0 V1 V2) (o : Oper) (ho : msOps[20]? = some o) : FStep Tryd.prog msOps Q (msF w5.drew.heap.size k x y X SA d1 d2) a w5.drew o := by
  obtain ⟨hd, hop, hg⟩ := op_of ho (show _ = some (some 58, .binOp .eql 23 (.tmp 56) (.tmp 57) 23, some (11, true)) by kernel_rfl)
  exact fs_eql (Want.dep 11 true 49 hg (by kernel_rfl) (Dep.at K.hn ho (by kernel_rfl)) rfl) 58 56 57 _ _ hd hop (Dep.at K.hn ho (by kernel_rfl)) (Dep.at K.hn ho (by kernel_rfl)) (.agg SA) (.agg X) d1 rfl rfl rfl (fun w' => by have := K.eSX w'; go_simp)
theorem msst21 {Q : Exit → Act → World → Prop} {a : Act} {w w5 : World} {k x y : List UInt8} {X SA : Array Value} {d1 d2 : Bool} {g7 g9 g10 : Nat} {V0 V1 V2 : Value} (K : MsCtx a w w5 k x y X SA d1 d2 g7 g9 g10 V0 V1 V2) (o : Oper) (ho : msOps[21]? = some o) : FStep Tryd.prog msOps Q (msF w5.drew.heap.size k x y X SA d1 d2) a w5.drew o := by
  obtain ⟨hd, hop, hg⟩ := op_of ho (show _ = some (some 59, .binOp .eql 4 (.tmp 55) (.tmp 58) 4, some (11, true)) by kernel_rfl)
  exact fs_eql (Want.dep 11 true 49 hg (by kernel_rfl) (Dep.at K.hn ho (by kernel_rfl)) rfl) 59 55 58 _ _ hd hop (Dep.at K.hn ho (by kernel_rfl)) (Dep.at K.hn ho (by kernel_rfl)) (.bool d1) (.bool d1) true rfl rfl rfl (fun w' => by go_simp)
theorem msst22 {Q : Exit → Act → World → Prop} {a : Act} {w w5 : World} {k x y : List UInt8} {X SA : Array Value} {d1 d2 : Bool} {g7 g9 g10 : Nat} {V0 V1 V2 : Value} (K : MsCtx a w w5 k x y X SA d1 d2 g7 g9 g10 V0 V1 V2) (o : Oper) (ho : msOps[22]? = some o) : FStep Tryd.prog msOps Q (msF w5.drew.heap.size k x y X SA d1 d2) a w5.drew o := by
  obtain ⟨hd, hop, hg⟩ := op_of ho (show _ = some (some 60, .pick (.tmp 49) (.tmp 59) (.const (.bool false)), none) by kernel_rfl)
  exact fs_pick (Want.plain hg) 60 49 59 _ hd hop (Dep.at K.hn ho (by kernel_rfl)) (Dep.at K.hn ho (by kernel_rfl)) rfl rfl rfl
theorem msst23 {Q : Exit → Act → World → Prop} {a : Act} {w w5 : World} {k x y : List UInt8} {X SA : Array Value} {d1 d2 : Bool} {g7 g9 g10 : Nat} {V0 V1 V2 : Value} (K : MsCtx a w w5 k x y X SA d1 d2 g7 g9 g10 V0 V1 V2) (o : Oper) (ho : msOps[23]? = some o) : FStep Tryd.prog msOps Q (msF w5.drew.heap.size k x y X SA d1 d2) a w5.drew o := by
  obtain ⟨hd, hop, hg⟩ := op_of ho (show _ = some (some 61, .move (.tmp 60), none) by kernel_rfl)
  exact fs_move (Want.plain hg) 61 60 hd hop (Dep.at K.hn ho (by kernel_rfl)).mem (Dep.at K.hn ho (by kernel_rfl)).lt (Dep.at K.hn ho (by kernel_rfl)).dep (fun _ _ h => h)
theorem msst24 {Q : Exit → Act → World → Prop} {a : Act} {w w5 : World} {k x y : List UInt8} {X SA : Array Value} {d1 d2 : Bool} {g7 g9 g10 : Nat} {V0 V1 V2 : Value} (K : MsCtx a w w5 k x y X SA d1 d2 g7 g9 g10 V0 V1 V2) (o : Oper) (ho : msOps[24]? = some o) : FStep Tryd.prog msOps Q (msF w5.drew.heap.size k x y X SA d1 d2) a w5.drew o := by
  obtain ⟨hd, hop, hg⟩ := op_of ho (show _ = some (some 62, .move (.tmp 1), some (23, true)) by kernel_rfl)
  exact fs_old (Want.dep 23 true 61 hg (by kernel_rfl) (Dep.at K.hn ho (by kernel_rfl)) rfl) 62 1 hd hop (by kernel_rfl) _ K.h1 (fun w' h => K.B1.fr0 (Fr.trans' ((Fr.refl _ _).drew) h))
theorem msst25 {Q : Exit → Act → World → Prop} {a : Act} {w w5 : World} {k x y : List UInt8} {X SA : Array Value} {d1 d2 : Bool} {g7 g9 g10 : Nat} {V0 V1 V2 : Value} (K : MsCtx a w w5 k x y X SA d1 d2 g7 g9 g10 V0 V1 V2) (o : Oper) (ho : msOps[25]? = some o) : FStep Tryd.prog msOps Q (msF w5.drew.heap.size k x y X SA d1 d2) a w5.drew o := by
  obtain ⟨hd, hop, hg⟩ := op_of ho (show _ = some (some 63, .move (.tmp 2), some (23, true)) by kernel_rfl)
  exact fs_old (Want.dep 23 true 61 hg (by kernel_rfl) (Dep.at K.hn ho (by kernel_rfl)) rfl) 63 2 hd hop (by kernel_rfl) _ K.h2 (fun w' h => K.B2.fr0 (Fr.trans' ((Fr.refl _ _).drew) h))
theorem msst26 {Q : Exit → Act → World → Prop} {a : Act} {w w5 : World} {k x y : List UInt8} {X SA : Array Value} {d1 d2 : Bool} {g7 g9 g10 : Nat} {V0 V1 V2 : Value} (K : MsCtx a w w5 k x y X SA d1 d2 g7 g9 g10 V0 V1 V2) (o : Oper) (ho : msOps[26]? = some o) : FStep Tryd.prog msOps Q (msF w5.drew.heap.size k x y X SA d1 d2) a w5.drew o := by
  obtain ⟨hd, hop, hg⟩ := op_of ho (show _ = some (some 64, .call { callee := .value (.func 22), args := #[.tmp 62, .tmp 63], argTypes := #[30, 30] }, some (23, true)) by kernel_rfl)
  exact fs_call (Want.dep 23 true 61 hg (by kernel_rfl) (Dep.at K.hn ho (by kernel_rfl)) rfl) 64 hd 22 _ _ hop _ Tryd.func22 (by kernel_rfl) (by kernel_rfl) (fun vals w' hF hv => ⟨_, by rw [map2 (Dep.at K.hn ho (by kernel_rfl)).eval (Dep.at K.hn ho (by kernel_rfl)).eval]; exact K.c3 w' _ _ (hv 62 (Dep.at K.hn ho (by kernel_rfl)).dep) (hv 63 (Dep.at K.hn ho (by kernel_rfl)).dep), fun _ hf => rfl⟩)
theorem msst27 {Q : Exit → Act → World → Prop} {a : Act} {w w5 : World} {k x y : List UInt8} {X SA : Array Value} {d1 d2 : Bool} {g7 g9 g10 : Nat} {V0 V1 V2 : Value} (K : MsCtx a w w5 k x y X SA d1 d2 g7 g9 g10 V0 V1 V2) (o : Oper) (ho : msOps[27]? = some o) : FStep Tryd.prog msOps Q (msF w5.drew.heap.size k x y X SA d1 d2) a w5.drew o := by
  obtain ⟨hd, hop, hg⟩ := op_of ho (show _ = some (some 65, .move (.tmp 1), some (23, true)) by kernel_rfl)
  exact fs_old (Want.dep 23 true 61 hg (by kernel_rfl) (Dep.at K.hn ho (by kernel_rfl)) rfl) 65 1 hd hop (by kernel_rfl) _ K.h1 (fun w' h => K.B1.fr0 (Fr.trans' ((Fr.refl _ _).drew) h))
theorem msst28 {Q : Exit → Act → World → Prop} {a : Act} {w w5 : World} {k x y : List UInt8} {X SA : Array Value} {d1 d2 : Bool} {g7 g9 g10 : Nat} {V0 V1 V2 : Value} (K : MsCtx a w w5 k x y X SA d1 d2 g7 g9 g10 V0 V1 V2) (o : Oper) (ho : msOps[28]? = some o) : FStep Tryd.prog msOps Q (msF w5.drew.heap.size k x y X SA d1 d2) a w5.drew o := by
  obtain ⟨hd, hop, hg⟩ := op_of ho (show _ = some (some 66, .convert 30 9 (.tmp 65), some (23, true)) by kernel_rfl)
  exact fs_convstr (Want.dep 23 true 61 hg (by kernel_rfl) (Dep.at K.hn ho (by kernel_rfl)) rfl) 66 65 hd 30 5 9 hop Tryd.underlying30 Tryd.underlying5 Tryd.underlying9 (Dep.at K.hn ho (by kernel_rfl)) x rfl rfl
theorem msst29 {Q : Exit → Act → World → Prop} {a : Act} {w w5 : World} {k x y : List UInt8} {X SA : Array Value} {d1 d2 : Bool} {g7 g9 g10 : Nat} {V0 V1 V2 : Value} (K : MsCtx a w w5 k x y X SA d1 d2 g7 g9 g10 V0 V1 V2) (o : Oper) (ho : msOps[29]? = some o) : FStep Tryd.prog msOps Q (msF w5.drew.heap.size k x y X SA d1 d2) a w5.drew o := by
  obtain ⟨hd, hop, hg⟩ := op_of ho (show _ = some (some 67, .move (.tmp 2), some (23, true)) by kernel_rfl)
  exact fs_old (Want.dep 23 true 61 hg (by kernel_rfl) (Dep.at K.hn ho (by kernel_rfl)) rfl) 67 2 hd hop (by kernel_rfl) _ K.h2 (fun w' h => K.B2.fr0 (Fr.trans' ((Fr.refl _ _).drew) h))
theorem msst30 {Q : Exit → Act → World → Prop} {a : Act} {w w5 : World} {k x y : List UInt8} {X SA : Array Value} {d1 d2 : Bool} {g7 g9 g10 : Nat} {V0 V1 V2 : Value} (K : MsCtx a w w5 k x y X SA d1 d2 g7 g9 g10 V0 V1 V2) (o : Oper) (ho : msOps[30]? = some o) : FStep Tryd.prog msOps Q (msF w5.drew.heap.size k x y X SA d1 d2) a w5.drew o := by
  obtain ⟨hd, hop, hg⟩ := op_of ho (show _ = some (some 68, .convert 30 9 (.tmp 67), some (23, true)) by kernel_rfl)
  exact fs_convstr (Want.dep 23 true 61 hg (by kernel_rfl) (Dep.at K.hn ho (by kernel_rfl)) rfl) 68 67 hd 30 5 9 hop Tryd.underlying30 Tryd.underlying5 Tryd.underlying9 (Dep.at K.hn ho (by kernel_rfl)) y rfl rfl
theorem msst31 {Q : Exit → Act → World → Prop} {a : Act} {w w5 : World} {k x y : List UInt8} {X SA : Array Value} {d1 d2 : Bool} {g7 g9 g10 : Nat} {V0 V1 V2 : Value} (K : MsCtx a w w5 k x y X SA d1 d2 g7 g9 g10 V0 V1 V2) (o : Oper) (ho : msOps[31]? = some o) : FStep Tryd.prog msOps Q (msF w5.drew.heap.size k x y X SA d1 d2) a w5.drew o := by
  obtain ⟨hd, hop, hg⟩ := op_of ho (show _ = some (some 69, .binOp .eql 9 (.tmp 66) (.tmp 68) 9, some (23, true)) by kernel_rfl)
  exact fs_eql (Want.dep 23 true 61 hg (by kernel_rfl) (Dep.at K.hn ho (by kernel_rfl)) rfl) 69 66 68 _ _ hd hop (Dep.at K.hn ho (by kernel_rfl)) (Dep.at K.hn ho (by kernel_rfl)) (.string ⟨(x).toArray⟩) (.string ⟨(y).toArray⟩) d2 rfl rfl rfl (fun w' => by go_simp; exact K.hs)
theorem msst32 {Q : Exit → Act → World → Prop} {a : Act} {w w5 : World} {k x y : List UInt8} {X SA : Array Value} {d1 d2 : Bool} {g7 g9 g10 : Nat} {V0 V1 V2 : Value} (K : MsCtx a w w5 k x y X SA d1 d2 g7 g9 g10 V0 V1 V2) (o : Oper) (ho : msOps[32]? = some o) : FStep Tryd.prog msOps Q (msF w5.drew.heap.size k x y X SA d1 d2) a w5.drew o := by
  obtain ⟨hd, hop, hg⟩ := op_of ho (show _ = some (some 70, .binOp .eql 4 (.tmp 64) (.tmp 69) 4, some (23, true)) by kernel_rfl)
  exact fs_eql (Want.dep 23 true 61 hg (by kernel_rfl) (Dep.at K.hn ho (by kernel_rfl)) rfl) 70 64 69 _ _ hd hop (Dep.at K.hn ho (by kernel_rfl)) (Dep.at K.hn ho (by kernel_rfl)) (.bool d2) (.bool d2) true rfl rfl rfl (fun w' => by go_simp)
theorem msst33 {Q : Exit → Act → World → Prop} {a : Act} {w w5 : World} {k x y : List UInt8} {X SA : Array Value} {d1 d2 : Bool} {g7 g9 g10 : Nat} {V0 V1 V2 : Value} (K : MsCtx a w w5 k x y X SA d1 d2 g7 g9 g10 V0 V1 V2) (o : Oper) (ho : msOps[33]? = some o) : FStep Tryd.prog msOps Q (msF w5.drew.heap.size k x y X SA d1 d2) a w5.drew o := by
  obtain ⟨hd, hop, hg⟩ := op_of ho (show _ = some (some 71, .pick (.tmp 61) (.tmp 70) (.const (.bool false)), none) by kernel_rfl)
  exact fs_pick (Want.plain hg) 71 61 70 _ hd hop (Dep.at K.hn ho (by kernel_rfl)) (Dep.at K.hn ho (by kernel_rfl)) rfl rfl rfl
theorem msst34 {Q : Exit → Act → World → Prop} {a : Act} {w w5 : World} {k x y : List UInt8} {X SA : Array Value} {d1 d2 : Bool} {g7 g9 g10 : Nat} {V0 V1 V2 : Value} (K : MsCtx a w w5 k x y X SA d1 d2 g7 g9 g10 V0 V1 V2) (o : Oper) (ho : msOps[34]? = some o) : FStep Tryd.prog msOps Q (msF w5.drew.heap.size k x y X SA d1 d2) a w5.drew o := by
  obtain ⟨hd, hop, hg⟩ := op_of ho (show _ = some (some 8, .assign (.tmp 71), none) by kernel_rfl)
  exact fs_assign (Want.plain hg) 8 71 hd hop (Dep.at K.hn ho (by kernel_rfl)).mem (Dep.at K.hn ho (by kernel_rfl)).lt (Dep.at K.hn ho (by kernel_rfl)).dep (fun _ _ h => h)
theorem msLen : msOps.length = 35 := by kernel_rfl
theorem ms_region {Q : Exit → Act → World → Prop} {id : Nat} {a : Act} {w w5 : World} {k x y : List UInt8} {X SA : Array Value} {d1 d2 : Bool} {g7 g9 g10 : Nat} {V0 V1 V2 : Value} (K : MsCtx a w w5 k x y X SA d1 d2 g7 g9 g10 V0 V1 V2)
    (hQ : ∀ (a' : Act) (w' : World), Fr0 w5 w' → a'.defers = a.defers → a'.eval (.tmp 8) = .bool true → Q .normal a' w') : (Code.region id msOps.toArray true).wp Tryd.prog Q a w5 := by
  refine region_facts' (msF w5.drew.heap.size k x y X SA d1 d2) (by kernel_rfl) (by kernel_rfl) (by rw [K.hn]; kernel_rfl) (fun i o ho => ?_) (fun vals w' hF hv => ?_)
  · have hi : i < 35 := by rw [← msLen]; exact (List.getElem?_eq_some_iff.1 ho).1
    match i, hi, ho with
    | 0, _, ho => exact msst0 K o ho
    | 1, _, ho => exact msst1 K o ho
    | 2, _, ho => exact msst2 K o ho
    | 3, _, ho => exact msst3 K o ho
    | 4, _, ho => exact msst4 K o ho
    | 5, _, ho => exact msst5 K o ho
    | 6, _, ho => exact msst6 K o ho
    | 7, _, ho => exact msst7 K o ho
    | 8, _, ho => exact msst8 K o ho
    | 9, _, ho => exact msst9 K o ho
    | 10, _, ho => exact msst10 K o ho
    | 11, _, ho => exact msst11 K o ho
    | 12, _, ho => exact msst12 K o ho
    | 13, _, ho => exact msst13 K o ho
    | 14, _, ho => exact msst14 K o ho
    | 15, _, ho => exact msst15 K o ho
    | 16, _, ho => exact msst16 K o ho
    | 17, _, ho => exact msst17 K o ho
    | 18, _, ho => exact msst18 K o ho
    | 19, _, ho => exact msst19 K o ho
    | 20, _, ho => exact msst20 K o ho
    | 21, _, ho => exact msst21 K o ho
    | 22, _, ho => exact msst22 K o ho
    | 23, _, ho => exact msst23 K o ho
    | 24, _, ho => exact msst24 K o ho
    | 25, _, ho => exact msst25 K o ho
    | 26, _, ho => exact msst26 K o ho
    | 27, _, ho => exact msst27 K o ho
    | 28, _, ho => exact msst28 K o ho
    | 29, _, ho => exact msst29 K o ho
    | 30, _, ho => exact msst30 K o ho
    | 31, _, ho => exact msst31 K o ho
    | 32, _, ho => exact msst32 K o ho
    | 33, _, ho => exact msst33 K o ho
    | 34, _, ho => exact msst34 K o ho
  · refine hQ _ w' (Fr.trans' ((Fr.refl _ _).drew) hF) rfl ?_
    have hm : (8 : Nat) ∈ dsts msOps := List.contains_iff_mem.1 (by kernel_rfl)
    rw [frm_eval a _ vals 8 hm (by rw [K.hn]; decide)]
    exact hv 8 hm
end Go.Proofs.YtmmcnoapkdhgpaaDoor.Mac
