/-
  CrcLinear's last statement, by facts (made by wip/tools/crcl.py).
-/
import Derived.Test.YtcdfflieooopjaaDoorCrcAwake
import Derived.Test.YtcdfflieooopjaaDoorFactKinds
namespace Go.Proofs.YtcdfflieooopjaaDoor.Crc
open Go.RowKit Base

noncomputable def clOps : List Oper := (((Tryd.f16.body.bind (regionOps 11))).getD #[]).toList
structure ClCtx (ac : Act) (w5 : World) (x a b d : List UInt8) (n r0 r1 r2 r3 r12 : Int) (V0 V1 V2 U1 U2 V8 : Value) : Prop where
  hn : ac.tmps.size = 71
  h0 : ac.eval (.tmp 0) = V0
  h1 : ac.eval (.tmp 1) = V1
  h2 : ac.eval (.tmp 2) = V2
  h7 : ac.eval (.tmp 7) = .int .i64 n
  h8 : ac.eval (.tmp 8) = V8
  B0 : BytesIs w5 V0 a
  B1 : BytesIs w5 U1 b
  B2 : BytesIs w5 U2 d
  B8 : BytesIs w5 V8 x
  s1 : ∀ wx, (Instr.sliceAt 30 V1 none (some (.int .i64 n)) none).run Tryd.prog wx = .ok U1 wx
  s2 : ∀ wx, (Instr.sliceAt 30 V2 none (some (.int .i64 n)) none).run Tryd.prog wx = .ok U2 wx
  x12 : bits .xor .u32 r1 r2 = r12
  x0 : bits .xor .u32 r12 r3 = r0
  c0 : ∀ (W : World) (v : Value), Fr0 w5 W → PartsIs W v [x] → Calls Tryd.prog 30 #[v] W fun e w' => e = .returned (.int .u32 r0) ∧ Fr0 W w'
  c1 : ∀ (W : World) (v : Value), Fr0 w5 W → PartsIs W v [a] → Calls Tryd.prog 30 #[v] W fun e w' => e = .returned (.int .u32 r1) ∧ Fr0 W w'
  c2 : ∀ (W : World) (v : Value), Fr0 w5 W → PartsIs W v [b] → Calls Tryd.prog 30 #[v] W fun e w' => e = .returned (.int .u32 r2) ∧ Fr0 W w'
  c3 : ∀ (W : World) (v : Value), Fr0 w5 W → PartsIs W v [d] → Calls Tryd.prog 30 #[v] W fun e w' => e = .returned (.int .u32 r3) ∧ Fr0 W w'
def clF (N : Nat) (x a b d : List UInt8) (n r0 r1 r2 r3 r12 : Int) (V1 V2 : Value) : Nat → Fact
  | 6 => Fact.is (.bool true)
  | 52 => Fact.bytes x
  | 53 => Fact.parts [x]
  | 54 => Fact.is (.int .u32 r0)
  | 55 => Fact.bytes a
  | 56 => Fact.parts [a]
  | 57 => Fact.is (.int .u32 r1)
  | 58 => Fact.is V1
  | 59 => Fact.is (.int .i64 n)
  | 60 => Fact.bytes b
  | 61 => Fact.parts [b]
  | 62 => Fact.is (.int .u32 r2)
  | 63 => Fact.is (.int .u32 r12)
  | 64 => Fact.is V2
  | 65 => Fact.is (.int .i64 n)
  | 66 => Fact.bytes d
  | 67 => Fact.parts [d]
  | 68 => Fact.is (.int .u32 r3)
  | 69 => Fact.is (.int .u32 r0)
  | 70 => Fact.is (.bool true)
  | _ => Fact.any
theorem clst0 {Q : Exit → Act → World → Prop} {ac : Act} {w5 : World} {x a b d : List UInt8} {n r0 r1 r2 r3 r12 : Int} {V0 V1 V2 U1 U2 V8 : Value} (K : ClCtx ac w5 x a b d n r0 r1 r2 r3 r12 V0 V1 V2 U1 U2 V8) (o : Oper) (ho : clOps[0]? = some o) : FStep Tryd.prog clOps Q (clF w5.drew.heap.size x a b d n r0 r1 r2 r3 r12 V1 V2) ac w5.drew o := by
  obtain ⟨hd, hop, hg⟩ := op_of ho (show _ = some (some 52, .move (.tmp 8), none) by kernel_rfl)
  exact fs_old (Want.plain hg) 52 8 hd hop (by kernel_rfl) _ K.h8 (fun w' h => K.B8.fr0 (Fr.trans' ((Fr.refl _ _).drew) h))
theorem clst1 {Q : Exit → Act → World → Prop} {ac : Act} {w5 : World} {x a b d : List UInt8} {n r0 r1 r2 r3 r12 : Int} {V0 V1 V2 U1 U2 V8 : Value} (K : ClCtx ac w5 x a b d n r0 r1 r2 r3 r12 V0 V1 V2 U1 U2 V8) (o : Oper) (ho : clOps[1]? = some o) : FStep Tryd.prog clOps Q (clF w5.drew.heap.size x a b d n r0 r1 r2 r3 r12 V1 V2) ac w5.drew o := by
  obtain ⟨hd, hop, hg⟩ := op_of ho (show _ = some (some 53, .buildSlice 37 1 #[(0, .tmp 52)], none) by kernel_rfl)
  exact fs_part1 (Want.plain hg) 53 52 hd 37 30 hop Tryd.underlying37 (by kernel_rfl) (Dep.at K.hn ho (by kernel_rfl)) x (fun _ _ h => h) rfl
theorem clst2 {Q : Exit → Act → World → Prop} {ac : Act} {w5 : World} {x a b d : List UInt8} {n r0 r1 r2 r3 r12 : Int} {V0 V1 V2 U1 U2 V8 : Value} (K : ClCtx ac w5 x a b d n r0 r1 r2 r3 r12 V0 V1 V2 U1 U2 V8) (o : Oper) (ho : clOps[2]? = some o) : FStep Tryd.prog clOps Q (clF w5.drew.heap.size x a b d n r0 r1 r2 r3 r12 V1 V2) ac w5.drew o := by
  obtain ⟨hd, hop, hg⟩ := op_of ho (show _ = some (some 54, .call { callee := .value (.func 30), args := #[.tmp 53], argTypes := #[37] }, none) by kernel_rfl)
  exact fs_call (Want.plain hg) 54 hd 30 _ _ hop _ Tryd.func30 (by kernel_rfl) (by kernel_rfl) (fun vals w' hF hv => ⟨_, by rw [map1 (Dep.at K.hn ho (by kernel_rfl)).eval]; exact K.c0 w' _ (Fr.trans' ((Fr.refl _ _).drew) hF) (hv 53 (Dep.at K.hn ho (by kernel_rfl)).dep), fun _ hf => rfl⟩)
theorem clst3 {Q : Exit → Act → World → Prop} {ac : Act} {w5 : World} {x a b d : List UInt8} {n r0 r1 r2 r3 r12 : Int} {V0 V1 V2 U1 U2 V8 : Value} (K : ClCtx ac w5 x a b d n r0 r1 r2 r3 r12 V0 V1 V2 U1 U2 V8) (o : Oper) (ho : clOps[3]? = some o) : FStep Tryd.prog clOps Q (clF w5.drew.heap.size x a b d n r0 r1 r2 r3 r12 V1 V2) ac w5.drew o := by
  obtain ⟨hd, hop, hg⟩ := op_of ho (show _ = some (some 55, .move (.tmp 0), none) by kernel_rfl)
  exact fs_old (Want.plain hg) 55 0 hd hop (by kernel_rfl) _ K.h0 (fun w' h => K.B0.fr0 (Fr.trans' ((Fr.refl _ _).drew) h))
theorem clst4 {Q : Exit → Act → World → Prop} {ac : Act} {w5 : World} {x a b d : List UInt8} {n r0 r1 r2 r3 r12 : Int} {V0 V1 V2 U1 U2 V8 : Value} (K : ClCtx ac w5 x a b d n r0 r1 r2 r3 r12 V0 V1 V2 U1 U2 V8) (o : Oper) (ho : clOps[4]? = some o) : FStep Tryd.prog clOps Q (clF w5.drew.heap.size x a b d n r0 r1 r2 r3 r12 V1 V2) ac w5.drew o := by
  obtain ⟨hd, hop, hg⟩ := op_of ho (show _ = some (some 56, .buildSlice 37 1 #[(0, .tmp 55)], none) by kernel_rfl)
  exact fs_part1 (Want.plain hg) 56 55 hd 37 30 hop Tryd.underlying37 (by kernel_rfl) (Dep.at K.hn ho (by kernel_rfl)) a (fun _ _ h => h) rfl
theorem clst5 {Q : Exit → Act → World → Prop} {ac : Act} {w5 : World} {x a b d : List UInt8} {n r0 r1 r2 r3 r12 : Int} {V0 V1 V2 U1 U2 V8 : Value} (K : ClCtx ac w5 x a b d n r0 r1 r2 r3 r12 V0 V1 V2 U1 U2 V8) (o : Oper) (ho : clOps[5]? = some o) : FStep Tryd.prog clOps Q (clF w5.drew.heap.size x a b d n r0 r1 r2 r3 r12 V1 V2) ac w5.drew o := by
  obtain ⟨hd, hop, hg⟩ := op_of ho (show _ = some (some 57, .call { callee := .value (.func 30), args := #[.tmp 56], argTypes := #[37] }, none) by kernel_rfl)
  exact fs_call (Want.plain hg) 57 hd 30 _ _ hop _ Tryd.func30 (by kernel_rfl) (by kernel_rfl) (fun vals w' hF hv => ⟨_, by rw [map1 (Dep.at K.hn ho (by kernel_rfl)).eval]; exact K.c1 w' _ (Fr.trans' ((Fr.refl _ _).drew) hF) (hv 56 (Dep.at K.hn ho (by kernel_rfl)).dep), fun _ hf => rfl⟩)
theorem clst6 {Q : Exit → Act → World → Prop} {ac : Act} {w5 : World} {x a b d : List UInt8} {n r0 r1 r2 r3 r12 : Int} {V0 V1 V2 U1 U2 V8 : Value} (K : ClCtx ac w5 x a b d n r0 r1 r2 r3 r12 V0 V1 V2 U1 U2 V8) (o : Oper) (ho : clOps[6]? = some o) : FStep Tryd.prog clOps Q (clF w5.drew.heap.size x a b d n r0 r1 r2 r3 r12 V1 V2) ac w5.drew o := by
  obtain ⟨hd, hop, hg⟩ := op_of ho (show _ = some (some 58, .move (.tmp 1), none) by kernel_rfl)
  exact fs_old (Want.plain hg) 58 1 hd hop (by kernel_rfl) _ K.h1 (fun w' h => rfl)
theorem clst7 {Q : Exit → Act → World → Prop} {ac : Act} {w5 : World} {x a b d : List UInt8} {n r0 r1 r2 r3 r12 : Int} {V0 V1 V2 U1 U2 V8 : Value} (K : ClCtx ac w5 x a b d n r0 r1 r2 r3 r12 V0 V1 V2 U1 U2 V8) (o : Oper) (ho : clOps[7]? = some o) : FStep Tryd.prog clOps Q (clF w5.drew.heap.size x a b d n r0 r1 r2 r3 r12 V1 V2) ac w5.drew o := by
  obtain ⟨hd, hop, hg⟩ := op_of ho (show _ = some (some 59, .move (.tmp 7), none) by kernel_rfl)
  exact fs_old (Want.plain hg) 59 7 hd hop (by kernel_rfl) _ K.h7 (fun w' h => rfl)
theorem clst8 {Q : Exit → Act → World → Prop} {ac : Act} {w5 : World} {x a b d : List UInt8} {n r0 r1 r2 r3 r12 : Int} {V0 V1 V2 U1 U2 V8 : Value} (K : ClCtx ac w5 x a b d n r0 r1 r2 r3 r12 V0 V1 V2 U1 U2 V8) (o : Oper) (ho : clOps[8]? = some o) : FStep Tryd.prog clOps Q (clF w5.drew.heap.size x a b d n r0 r1 r2 r3 r12 V1 V2) ac w5.drew o := by
  obtain ⟨hd, hop, hg⟩ := op_of ho (show _ = some (some 60, .slice 30 (.tmp 58) none (some (.tmp 59)) none, none) by kernel_rfl)
  exact fs_hi (Want.plain hg) 60 58 59 hd _ hop (Dep.at K.hn ho (by kernel_rfl)) (Dep.at K.hn ho (by kernel_rfl)) V1 (.int .i64 n) U1 rfl rfl K.s1 b rfl (fun w' h => K.B1.fr0 (Fr.trans' ((Fr.refl _ _).drew) h))
theorem clst9 {Q : Exit → Act → World → Prop} {ac : Act} {w5 : World} {x a b d : List UInt8} {n r0 r1 r2 r3 r12 : Int} {V0 V1 V2 U1 U2 V8 : Value} (K : ClCtx ac w5 x a b d n r0 r1 r2 r3 r12 V0 V1 V2 U1 U2 V8) (o : Oper) (ho : clOps[9]? = some o) : FStep Tryd.prog clOps Q (clF w5.drew.heap.size x a b d n r0 r1 r2 r3 r12 V1 V2) ac w5.drew o := by
  obtain ⟨hd, hop, hg⟩ := op_of ho (show _ = some (some 61, .buildSlice 37 1 #[(0, .tmp 60)], none) by kernel_rfl)
  exact fs_part1 (Want.plain hg) 61 60 hd 37 30 hop Tryd.underlying37 (by kernel_rfl) (Dep.at K.hn ho (by kernel_rfl)) b (fun _ _ h => h) rfl
theorem clst10 {Q : Exit → Act → World → Prop} {ac : Act} {w5 : World} {x a b d : List UInt8} {n r0 r1 r2 r3 r12 : Int} {V0 V1 V2 U1 U2 V8 : Value} (K : ClCtx ac w5 x a b d n r0 r1 r2 r3 r12 V0 V1 V2 U1 U2 V8) (o : Oper) (ho : clOps[10]? = some o) : FStep Tryd.prog clOps Q (clF w5.drew.heap.size x a b d n r0 r1 r2 r3 r12 V1 V2) ac w5.drew o := by
  obtain ⟨hd, hop, hg⟩ := op_of ho (show _ = some (some 62, .call { callee := .value (.func 30), args := #[.tmp 61], argTypes := #[37] }, none) by kernel_rfl)
  exact fs_call (Want.plain hg) 62 hd 30 _ _ hop _ Tryd.func30 (by kernel_rfl) (by kernel_rfl) (fun vals w' hF hv => ⟨_, by rw [map1 (Dep.at K.hn ho (by kernel_rfl)).eval]; exact K.c2 w' _ (Fr.trans' ((Fr.refl _ _).drew) hF) (hv 61 (Dep.at K.hn ho (by kernel_rfl)).dep), fun _ hf => rfl⟩)
theorem clst11 {Q : Exit → Act → World → Prop} {ac : Act} {w5 : World} {x a b d : List UInt8} {n r0 r1 r2 r3 r12 : Int} {V0 V1 V2 U1 U2 V8 : Value} (K : ClCtx ac w5 x a b d n r0 r1 r2 r3 r12 V0 V1 V2 U1 U2 V8) (o : Oper) (ho : clOps[11]? = some o) : FStep Tryd.prog clOps Q (clF w5.drew.heap.size x a b d n r0 r1 r2 r3 r12 V1 V2) ac w5.drew o := by
  obtain ⟨hd, hop, hg⟩ := op_of ho (show _ = some (some 63, .binOp .xor 49 (.tmp 57) (.tmp 62) 49, none) by kernel_rfl)
  exact fs_bin (Want.plain hg) 63 57 62 _ _ _ hd hop (Dep.at K.hn ho (by kernel_rfl)) (Dep.at K.hn ho (by kernel_rfl)) (.int .u32 r1) (.int .u32 r2) (.int .u32 r12) rfl rfl rfl (fun w' => by have := K.x12; go_simp)
theorem clst12 {Q : Exit → Act → World → Prop} {ac : Act} {w5 : World} {x a b d : List UInt8} {n r0 r1 r2 r3 r12 : Int} {V0 V1 V2 U1 U2 V8 : Value} (K : ClCtx ac w5 x a b d n r0 r1 r2 r3 r12 V0 V1 V2 U1 U2 V8) (o : Oper) (ho : clOps[12]? = some o) : FStep Tryd.prog clOps Q (clF w5.drew.heap.size x a b d n r0 r1 r2 r3 r12 V1 V2) ac w5.drew o := by
  obtain ⟨hd, hop, hg⟩ := op_of ho (show _ = some (some 64, .move (.tmp 2), none) by kernel_rfl)
  exact fs_old (Want.plain hg) 64 2 hd hop (by kernel_rfl) _ K.h2 (fun w' h => rfl)
theorem clst13 {Q : Exit → Act → World → Prop} {ac : Act} {w5 : World} {x a b d : List UInt8} {n r0 r1 r2 r3 r12 : Int} {V0 V1 V2 U1 U2 V8 : Value} (K : ClCtx ac w5 x a b d n r0 r1 r2 r3 r12 V0 V1 V2 U1 U2 V8) (o : Oper) (ho : clOps[13]? = some o) : FStep Tryd.prog clOps Q (clF w5.drew.heap.size x a b d n r0 r1 r2 r3 r12 V1 V2) ac w5.drew o := by
  obtain ⟨hd, hop, hg⟩ := op_of ho (show _ = some (some 65, .move (.tmp 7), none) by kernel_rfl)
  exact fs_old (Want.plain hg) 65 7 hd hop (by kernel_rfl) _ K.h7 (fun w' h => rfl)
theorem clst14 {Q : Exit → Act → World → Prop} {ac : Act} {w5 : World} {x a b d : List UInt8} {n r0 r1 r2 r3 r12 : Int} {V0 V1 V2 U1 U2 V8 : Value} (K : ClCtx ac w5 x a b d n r0 r1 r2 r3 r12 V0 V1 V2 U1 U2 V8) (o : Oper) (ho : clOps[14]? = some o) : FStep Tryd.prog clOps Q (clF w5.drew.heap.size x a b d n r0 r1 r2 r3 r12 V1 V2) ac w5.drew o := by
  obtain ⟨hd, hop, hg⟩ := op_of ho (show _ = some (some 66, .slice 30 (.tmp 64) none (some (.tmp 65)) none, none) by kernel_rfl)
  exact fs_hi (Want.plain hg) 66 64 65 hd _ hop (Dep.at K.hn ho (by kernel_rfl)) (Dep.at K.hn ho (by kernel_rfl)) V2 (.int .i64 n) U2 rfl rfl K.s2 d rfl (fun w' h => K.B2.fr0 (Fr.trans' ((Fr.refl _ _).drew) h))
theorem clst15 {Q : Exit → Act → World → Prop} {ac : Act} {w5 : World} {x a b d : List UInt8} {n r0 r1 r2 r3 r12 : Int} {V0 V1 V2 U1 U2 V8 : Value} (K : ClCtx ac w5 x a b d n r0 r1 r2 r3 r12 V0 V1 V2 U1 U2 V8) (o : Oper) (ho : clOps[15]? = some o) : FStep Tryd.prog clOps Q (clF w5.drew.heap.size x a b d n r0 r1 r2 r3 r12 V1 V2) ac w5.drew o := by
  obtain ⟨hd, hop, hg⟩ := op_of ho (show _ = some (some 67, .buildSlice 37 1 #[(0, .tmp 66)], none) by kernel_rfl)
  exact fs_part1 (Want.plain hg) 67 66 hd 37 30 hop Tryd.underlying37 (by kernel_rfl) (Dep.at K.hn ho (by kernel_rfl)) d (fun _ _ h => h) rfl
theorem clst16 {Q : Exit → Act → World → Prop} {ac : Act} {w5 : World} {x a b d : List UInt8} {n r0 r1 r2 r3 r12 : Int} {V0 V1 V2 U1 U2 V8 : Value} (K : ClCtx ac w5 x a b d n r0 r1 r2 r3 r12 V0 V1 V2 U1 U2 V8) (o : Oper) (ho : clOps[16]? = some o) : FStep Tryd.prog clOps Q (clF w5.drew.heap.size x a b d n r0 r1 r2 r3 r12 V1 V2) ac w5.drew o := by
  obtain ⟨hd, hop, hg⟩ := op_of ho (show _ = some (some 68, .call { callee := .value (.func 30), args := #[.tmp 67], argTypes := #[37] }, none) by kernel_rfl)
  exact fs_call (Want.plain hg) 68 hd 30 _ _ hop _ Tryd.func30 (by kernel_rfl) (by kernel_rfl) (fun vals w' hF hv => ⟨_, by rw [map1 (Dep.at K.hn ho (by kernel_rfl)).eval]; exact K.c3 w' _ (Fr.trans' ((Fr.refl _ _).drew) hF) (hv 67 (Dep.at K.hn ho (by kernel_rfl)).dep), fun _ hf => rfl⟩)
theorem clst17 {Q : Exit → Act → World → Prop} {ac : Act} {w5 : World} {x a b d : List UInt8} {n r0 r1 r2 r3 r12 : Int} {V0 V1 V2 U1 U2 V8 : Value} (K : ClCtx ac w5 x a b d n r0 r1 r2 r3 r12 V0 V1 V2 U1 U2 V8) (o : Oper) (ho : clOps[17]? = some o) : FStep Tryd.prog clOps Q (clF w5.drew.heap.size x a b d n r0 r1 r2 r3 r12 V1 V2) ac w5.drew o := by
  obtain ⟨hd, hop, hg⟩ := op_of ho (show _ = some (some 69, .binOp .xor 49 (.tmp 63) (.tmp 68) 49, none) by kernel_rfl)
  exact fs_bin (Want.plain hg) 69 63 68 _ _ _ hd hop (Dep.at K.hn ho (by kernel_rfl)) (Dep.at K.hn ho (by kernel_rfl)) (.int .u32 r12) (.int .u32 r3) (.int .u32 r0) rfl rfl rfl (fun w' => by have := K.x0; go_simp)
theorem clst18 {Q : Exit → Act → World → Prop} {ac : Act} {w5 : World} {x a b d : List UInt8} {n r0 r1 r2 r3 r12 : Int} {V0 V1 V2 U1 U2 V8 : Value} (K : ClCtx ac w5 x a b d n r0 r1 r2 r3 r12 V0 V1 V2 U1 U2 V8) (o : Oper) (ho : clOps[18]? = some o) : FStep Tryd.prog clOps Q (clF w5.drew.heap.size x a b d n r0 r1 r2 r3 r12 V1 V2) ac w5.drew o := by
  obtain ⟨hd, hop, hg⟩ := op_of ho (show _ = some (some 70, .binOp .eql 49 (.tmp 54) (.tmp 69) 49, none) by kernel_rfl)
  exact fs_eql (Want.plain hg) 70 54 69 _ _ hd hop (Dep.at K.hn ho (by kernel_rfl)) (Dep.at K.hn ho (by kernel_rfl)) (.int .u32 r0) (.int .u32 r0) true rfl rfl rfl (fun w' => by go_simp)
theorem clst19 {Q : Exit → Act → World → Prop} {ac : Act} {w5 : World} {x a b d : List UInt8} {n r0 r1 r2 r3 r12 : Int} {V0 V1 V2 U1 U2 V8 : Value} (K : ClCtx ac w5 x a b d n r0 r1 r2 r3 r12 V0 V1 V2 U1 U2 V8) (o : Oper) (ho : clOps[19]? = some o) : FStep Tryd.prog clOps Q (clF w5.drew.heap.size x a b d n r0 r1 r2 r3 r12 V1 V2) ac w5.drew o := by
  obtain ⟨hd, hop, hg⟩ := op_of ho (show _ = some (some 6, .assign (.tmp 70), none) by kernel_rfl)
  exact fs_assign (Want.plain hg) 6 70 hd hop (Dep.at K.hn ho (by kernel_rfl)).mem (Dep.at K.hn ho (by kernel_rfl)).lt (Dep.at K.hn ho (by kernel_rfl)).dep (fun _ _ h => h)
theorem clLen : clOps.length = 20 := by kernel_rfl
theorem cl_region {Q : Exit → Act → World → Prop} {id : Nat} {ac : Act} {w5 : World} {x a b d : List UInt8} {n r0 r1 r2 r3 r12 : Int} {V0 V1 V2 U1 U2 V8 : Value} (K : ClCtx ac w5 x a b d n r0 r1 r2 r3 r12 V0 V1 V2 U1 U2 V8)
    (hQ : ∀ (a' : Act) (w' : World), Fr0 w5 w' → a'.defers = ac.defers → a'.eval (.tmp 6) = .bool true → Q .normal a' w') : (Code.region id clOps.toArray true).wp Tryd.prog Q ac w5 := by
  refine region_facts' (clF w5.drew.heap.size x a b d n r0 r1 r2 r3 r12 V1 V2) (by kernel_rfl) (by kernel_rfl) (by rw [K.hn]; kernel_rfl) (fun i o ho => ?_) (fun vals w' hF hv => ?_)
  · have hi : i < 20 := by rw [← clLen]; exact (List.getElem?_eq_some_iff.1 ho).1
    match i, hi, ho with
    | 0, _, ho => exact clst0 K o ho
    | 1, _, ho => exact clst1 K o ho
    | 2, _, ho => exact clst2 K o ho
    | 3, _, ho => exact clst3 K o ho
    | 4, _, ho => exact clst4 K o ho
    | 5, _, ho => exact clst5 K o ho
    | 6, _, ho => exact clst6 K o ho
    | 7, _, ho => exact clst7 K o ho
    | 8, _, ho => exact clst8 K o ho
    | 9, _, ho => exact clst9 K o ho
    | 10, _, ho => exact clst10 K o ho
    | 11, _, ho => exact clst11 K o ho
    | 12, _, ho => exact clst12 K o ho
    | 13, _, ho => exact clst13 K o ho
    | 14, _, ho => exact clst14 K o ho
    | 15, _, ho => exact clst15 K o ho
    | 16, _, ho => exact clst16 K o ho
    | 17, _, ho => exact clst17 K o ho
    | 18, _, ho => exact clst18 K o ho
    | 19, _, ho => exact clst19 K o ho
  · refine hQ _ w' (Fr.trans' ((Fr.refl _ _).drew) hF) rfl ?_
    have hm : (6 : Nat) ∈ dsts clOps := List.contains_iff_mem.1 (by kernel_rfl)
    rw [frm_eval ac _ vals 6 hm (by rw [K.hn]; decide)]
    exact hv 6 hm
end Go.Proofs.YtcdfflieooopjaaDoor.Crc
