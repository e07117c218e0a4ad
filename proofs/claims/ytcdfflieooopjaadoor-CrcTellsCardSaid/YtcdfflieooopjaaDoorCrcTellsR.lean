/-
  CrcTells' last statement, by facts (made by wip/tools/crct.py).
-/
import Derived.Test.YtcdfflieooopjaaDoorCrcAwake
import Derived.Test.YtcdfflieooopjaaDoorFactKinds
namespace Go.Proofs.YtcdfflieooopjaaDoor.Crc
open Go.RowKit Base

noncomputable def ctOps : List Oper := (((Tryd.f14.body.bind (regionOps 7))).getD #[]).toList
structure CtCtx (a : Act) (w5 : World) (b c : List UInt8) (x y : Int) (d : Bool) (V0 V7 : Value) : Prop where
  hn : a.tmps.size = 45
  h0 : a.eval (.tmp 0) = V0
  h7 : a.eval (.tmp 7) = V7
  B0 : BytesIs w5 V0 b
  B7 : BytesIs w5 V7 c
  eX : (x == y) = d
  hs : (b == c) = d
  c1 : ∀ (W : World) (v : Value), Fr0 w5 W → PartsIs W v [b] → Calls Tryd.prog 30 #[v] W fun e w' => e = .returned (.int .u32 x) ∧ Fr0 W w'
  c2 : ∀ (W : World) (v : Value), Fr0 w5 W → PartsIs W v [c] → Calls Tryd.prog 30 #[v] W fun e w' => e = .returned (.int .u32 y) ∧ Fr0 W w'
def ctF (N : Nat) (b c : List UInt8) (x y : Int) (d : Bool) : Nat → Fact
  | 6 => Fact.is (.bool true)
  | 32 => Fact.bytes b
  | 33 => Fact.parts [b]
  | 34 => Fact.is (.int .u32 x)
  | 35 => Fact.bytes c
  | 36 => Fact.parts [c]
  | 37 => Fact.is (.int .u32 y)
  | 38 => Fact.is (.bool d)
  | 39 => Fact.bytes b
  | 40 => Fact.is (.string ⟨(b).toArray⟩)
  | 41 => Fact.bytes c
  | 42 => Fact.is (.string ⟨(c).toArray⟩)
  | 43 => Fact.is (.bool d)
  | 44 => Fact.is (.bool true)
  | _ => Fact.any
theorem ctst0 {Q : Exit → Act → World → Prop} {a : Act} {w5 : World} {b c : List UInt8} {x y : Int} {d : Bool} {V0 V7 : Value} (K : CtCtx a w5 b c x y d V0 V7) (o : Oper) (ho : ctOps[0]? = some o) : FStep Tryd.prog ctOps Q (ctF w5.drew.heap.size b c x y d) a w5.drew o := by
  obtain ⟨hd, hop, hg⟩ := op_of ho (show _ = some (some 32, .move (.tmp 0), none) by kernel_rfl)
  exact fs_old (Want.plain hg) 32 0 hd hop (by kernel_rfl) _ K.h0 (fun w' h => K.B0.fr0 (Fr.trans' ((Fr.refl _ _).drew) h))
theorem ctst1 {Q : Exit → Act → World → Prop} {a : Act} {w5 : World} {b c : List UInt8} {x y : Int} {d : Bool} {V0 V7 : Value} (K : CtCtx a w5 b c x y d V0 V7) (o : Oper) (ho : ctOps[1]? = some o) : FStep Tryd.prog ctOps Q (ctF w5.drew.heap.size b c x y d) a w5.drew o := by
  obtain ⟨hd, hop, hg⟩ := op_of ho (show _ = some (some 33, .buildSlice 37 1 #[(0, .tmp 32)], none) by kernel_rfl)
  exact fs_part1 (Want.plain hg) 33 32 hd 37 30 hop Tryd.underlying37 (by kernel_rfl) (Dep.at K.hn ho (by kernel_rfl)) b (fun _ _ h => h) rfl
theorem ctst2 {Q : Exit → Act → World → Prop} {a : Act} {w5 : World} {b c : List UInt8} {x y : Int} {d : Bool} {V0 V7 : Value} (K : CtCtx a w5 b c x y d V0 V7) (o : Oper) (ho : ctOps[2]? = some o) : FStep Tryd.prog ctOps Q (ctF w5.drew.heap.size b c x y d) a w5.drew o := by
  obtain ⟨hd, hop, hg⟩ := op_of ho (show _ = some (some 34, .call { callee := .value (.func 30), args := #[.tmp 33], argTypes := #[37] }, none) by kernel_rfl)
  exact fs_call (Want.plain hg) 34 hd 30 _ _ hop _ Tryd.func30 (by kernel_rfl) (by kernel_rfl) (fun vals w' hF hv => ⟨_, by rw [map1 (Dep.at K.hn ho (by kernel_rfl)).eval]; exact K.c1 w' _ (Fr.trans' ((Fr.refl _ _).drew) hF) (hv 33 (Dep.at K.hn ho (by kernel_rfl)).dep), fun _ hf => rfl⟩)
theorem ctst3 {Q : Exit → Act → World → Prop} {a : Act} {w5 : World} {b c : List UInt8} {x y : Int} {d : Bool} {V0 V7 : Value} (K : CtCtx a w5 b c x y d V0 V7) (o : Oper) (ho : ctOps[3]? = some o) : FStep Tryd.prog ctOps Q (ctF w5.drew.heap.size b c x y d) a w5.drew o := by
  obtain ⟨hd, hop, hg⟩ := op_of ho (show _ = some (some 35, .move (.tmp 7), none) by kernel_rfl)
  exact fs_old (Want.plain hg) 35 7 hd hop (by kernel_rfl) _ K.h7 (fun w' h => K.B7.fr0 (Fr.trans' ((Fr.refl _ _).drew) h))
theorem ctst4 {Q : Exit → Act → World → Prop} {a : Act} {w5 : World} {b c : List UInt8} {x y : Int} {d : Bool} {V0 V7 : Value} (K : CtCtx a w5 b c x y d V0 V7) (o : Oper) (ho : ctOps[4]? = some o) : FStep Tryd.prog ctOps Q (ctF w5.drew.heap.size b c x y d) a w5.drew o := by
  obtain ⟨hd, hop, hg⟩ := op_of ho (show _ = some (some 36, .buildSlice 37 1 #[(0, .tmp 35)], none) by kernel_rfl)
  exact fs_part1 (Want.plain hg) 36 35 hd 37 30 hop Tryd.underlying37 (by kernel_rfl) (Dep.at K.hn ho (by kernel_rfl)) c (fun _ _ h => h) rfl
theorem ctst5 {Q : Exit → Act → World → Prop} {a : Act} {w5 : World} {b c : List UInt8} {x y : Int} {d : Bool} {V0 V7 : Value} (K : CtCtx a w5 b c x y d V0 V7) (o : Oper) (ho : ctOps[5]? = some o) : FStep Tryd.prog ctOps Q (ctF w5.drew.heap.size b c x y d) a w5.drew o := by
  obtain ⟨hd, hop, hg⟩ := op_of ho (show _ = some (some 37, .call { callee := .value (.func 30), args := #[.tmp 36], argTypes := #[37] }, none) by kernel_rfl)
  exact fs_call (Want.plain hg) 37 hd 30 _ _ hop _ Tryd.func30 (by kernel_rfl) (by kernel_rfl) (fun vals w' hF hv => ⟨_, by rw [map1 (Dep.at K.hn ho (by kernel_rfl)).eval]; exact K.c2 w' _ (Fr.trans' ((Fr.refl _ _).drew) hF) (hv 36 (Dep.at K.hn ho (by kernel_rfl)).dep), fun _ hf => rfl⟩)
theorem ctst6 {Q : Exit → Act → World → Prop} {a : Act} {w5 : World} {b c : List UInt8} {x y : Int} {d : Bool} {V0 V7 : Value} (K : CtCtx a w5 b c x y d V0 V7) (o : Oper) (ho : ctOps[6]? = some o) : FStep Tryd.prog ctOps Q (ctF w5.drew.heap.size b c x y d) a w5.drew o := by
  obtain ⟨hd, hop, hg⟩ := op_of ho (show _ = some (some 38, .binOp .eql 49 (.tmp 34) (.tmp 37) 49, none) by kernel_rfl)
  exact fs_eql (Want.plain hg) 38 34 37 _ _ hd hop (Dep.at K.hn ho (by kernel_rfl)) (Dep.at K.hn ho (by kernel_rfl)) (.int .u32 x) (.int .u32 y) d rfl rfl rfl (fun w' => by go_simp; exact K.eX)
theorem ctst7 {Q : Exit → Act → World → Prop} {a : Act} {w5 : World} {b c : List UInt8} {x y : Int} {d : Bool} {V0 V7 : Value} (K : CtCtx a w5 b c x y d V0 V7) (o : Oper) (ho : ctOps[7]? = some o) : FStep Tryd.prog ctOps Q (ctF w5.drew.heap.size b c x y d) a w5.drew o := by
  obtain ⟨hd, hop, hg⟩ := op_of ho (show _ = some (some 39, .move (.tmp 0), none) by kernel_rfl)
  exact fs_old (Want.plain hg) 39 0 hd hop (by kernel_rfl) _ K.h0 (fun w' h => K.B0.fr0 (Fr.trans' ((Fr.refl _ _).drew) h))
theorem ctst8 {Q : Exit → Act → World → Prop} {a : Act} {w5 : World} {b c : List UInt8} {x y : Int} {d : Bool} {V0 V7 : Value} (K : CtCtx a w5 b c x y d V0 V7) (o : Oper) (ho : ctOps[8]? = some o) : FStep Tryd.prog ctOps Q (ctF w5.drew.heap.size b c x y d) a w5.drew o := by
  obtain ⟨hd, hop, hg⟩ := op_of ho (show _ = some (some 40, .convert 30 9 (.tmp 39), none) by kernel_rfl)
  exact fs_convstr (Want.plain hg) 40 39 hd 30 5 9 hop Tryd.underlying30 Tryd.underlying5 Tryd.underlying9 (Dep.at K.hn ho (by kernel_rfl)) b rfl rfl
theorem ctst9 {Q : Exit → Act → World → Prop} {a : Act} {w5 : World} {b c : List UInt8} {x y : Int} {d : Bool} {V0 V7 : Value} (K : CtCtx a w5 b c x y d V0 V7) (o : Oper) (ho : ctOps[9]? = some o) : FStep Tryd.prog ctOps Q (ctF w5.drew.heap.size b c x y d) a w5.drew o := by
  obtain ⟨hd, hop, hg⟩ := op_of ho (show _ = some (some 41, .move (.tmp 7), none) by kernel_rfl)
  exact fs_old (Want.plain hg) 41 7 hd hop (by kernel_rfl) _ K.h7 (fun w' h => K.B7.fr0 (Fr.trans' ((Fr.refl _ _).drew) h))
theorem ctst10 {Q : Exit → Act → World → Prop} {a : Act} {w5 : World} {b c : List UInt8} {x y : Int} {d : Bool} {V0 V7 : Value} (K : CtCtx a w5 b c x y d V0 V7) (o : Oper) (ho : ctOps[10]? = some o) : FStep Tryd.prog ctOps Q (ctF w5.drew.heap.size b c x y d) a w5.drew o := by
  obtain ⟨hd, hop, hg⟩ := op_of ho (show _ = some (some 42, .convert 30 9 (.tmp 41), none) by kernel_rfl)
  exact fs_convstr (Want.plain hg) 42 41 hd 30 5 9 hop Tryd.underlying30 Tryd.underlying5 Tryd.underlying9 (Dep.at K.hn ho (by kernel_rfl)) c rfl rfl
theorem ctst11 {Q : Exit → Act → World → Prop} {a : Act} {w5 : World} {b c : List UInt8} {x y : Int} {d : Bool} {V0 V7 : Value} (K : CtCtx a w5 b c x y d V0 V7) (o : Oper) (ho : ctOps[11]? = some o) : FStep Tryd.prog ctOps Q (ctF w5.drew.heap.size b c x y d) a w5.drew o := by
  obtain ⟨hd, hop, hg⟩ := op_of ho (show _ = some (some 43, .binOp .eql 9 (.tmp 40) (.tmp 42) 9, none) by kernel_rfl)
  exact fs_eql (Want.plain hg) 43 40 42 _ _ hd hop (Dep.at K.hn ho (by kernel_rfl)) (Dep.at K.hn ho (by kernel_rfl)) (.string ⟨(b).toArray⟩) (.string ⟨(c).toArray⟩) d rfl rfl rfl (fun w' => by go_simp; exact K.hs)
theorem ctst12 {Q : Exit → Act → World → Prop} {a : Act} {w5 : World} {b c : List UInt8} {x y : Int} {d : Bool} {V0 V7 : Value} (K : CtCtx a w5 b c x y d V0 V7) (o : Oper) (ho : ctOps[12]? = some o) : FStep Tryd.prog ctOps Q (ctF w5.drew.heap.size b c x y d) a w5.drew o := by
  obtain ⟨hd, hop, hg⟩ := op_of ho (show _ = some (some 44, .binOp .eql 4 (.tmp 38) (.tmp 43) 4, none) by kernel_rfl)
  exact fs_eql (Want.plain hg) 44 38 43 _ _ hd hop (Dep.at K.hn ho (by kernel_rfl)) (Dep.at K.hn ho (by kernel_rfl)) (.bool d) (.bool d) true rfl rfl rfl (fun w' => by cases d <;> go_simp)
theorem ctst13 {Q : Exit → Act → World → Prop} {a : Act} {w5 : World} {b c : List UInt8} {x y : Int} {d : Bool} {V0 V7 : Value} (K : CtCtx a w5 b c x y d V0 V7) (o : Oper) (ho : ctOps[13]? = some o) : FStep Tryd.prog ctOps Q (ctF w5.drew.heap.size b c x y d) a w5.drew o := by
  obtain ⟨hd, hop, hg⟩ := op_of ho (show _ = some (some 6, .assign (.tmp 44), none) by kernel_rfl)
  exact fs_assign (Want.plain hg) 6 44 hd hop (Dep.at K.hn ho (by kernel_rfl)).mem (Dep.at K.hn ho (by kernel_rfl)).lt (Dep.at K.hn ho (by kernel_rfl)).dep (fun _ _ h => h)
theorem ctLen : ctOps.length = 14 := by kernel_rfl
theorem ct_region {Q : Exit → Act → World → Prop} {id : Nat} {a : Act} {w5 : World} {b c : List UInt8} {x y : Int} {d : Bool} {V0 V7 : Value} (K : CtCtx a w5 b c x y d V0 V7)
    (hQ : ∀ (a' : Act) (w' : World), Fr0 w5 w' → a'.defers = a.defers → a'.eval (.tmp 6) = .bool true → Q .normal a' w') : (Code.region id ctOps.toArray true).wp Tryd.prog Q a w5 := by
  refine region_facts' (ctF w5.drew.heap.size b c x y d) (by kernel_rfl) (by kernel_rfl) (by rw [K.hn]; kernel_rfl) (fun i o ho => ?_) (fun vals w' hF hv => ?_)
  · have hi : i < 14 := by rw [← ctLen]; exact (List.getElem?_eq_some_iff.1 ho).1
    match i, hi, ho with
    | 0, _, ho => exact ctst0 K o ho
    | 1, _, ho => exact ctst1 K o ho
    | 2, _, ho => exact ctst2 K o ho
    | 3, _, ho => exact ctst3 K o ho
    | 4, _, ho => exact ctst4 K o ho
    | 5, _, ho => exact ctst5 K o ho
    | 6, _, ho => exact ctst6 K o ho
    | 7, _, ho => exact ctst7 K o ho
    | 8, _, ho => exact ctst8 K o ho
    | 9, _, ho => exact ctst9 K o ho
    | 10, _, ho => exact ctst10 K o ho
    | 11, _, ho => exact ctst11 K o ho
    | 12, _, ho => exact ctst12 K o ho
    | 13, _, ho => exact ctst13 K o ho
  · refine hQ _ w' (Fr.trans' ((Fr.refl _ _).drew) hF) rfl ?_
    have hm : (6 : Nat) ∈ dsts ctOps := List.contains_iff_mem.1 (by kernel_rfl)
    rw [frm_eval a _ vals 6 hm (by rw [K.hn]; decide)]
    exact hv 6 hm
end Go.Proofs.YtcdfflieooopjaaDoor.Crc
