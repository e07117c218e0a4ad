/-
  PackBack's last statement, by phases (made by wip/tools/packback.py).
-/
import Derived.Test.YtheednoklgccdaaPackAwake
import Derived.Test.YtheednoklgccdaaPhase
namespace Go.Proofs.Ytheednoklgccdaa.Pack
open Go.RowKit Base Ph

noncomputable def bkOps : List Oper := (((Try.f5.body.bind (regionOps 7))).getD #[]).toList
/-- the reader, behind so many of its calls -/
def bkJ (g : Nat) (rest T0 T1 T2 T3 T4 : List UInt8) : Nat → World → Prop
  | 0 => fun w => RdAt w g 59 T0 0
  | 1 => fun w => RdAt w g 59 T1 0
  | 2 => fun w => RdAt w g 59 T2 0
  | 3 => fun w => RdAt w g 59 T3 0
  | 4 => fun w => RdAt w g 59 T4 0
  | 5 => fun w => RdAt w g 59 rest 0
  | 6 => fun w => RdAt w g 59 rest 0
  | 7 => fun w => RdAt w g 59 [] 0
  | 8 => fun w => RdAt w g 59 [] 0
  | _ => fun _ => False
structure BkCtx (a : Act) (w5 : World) (g : Nat) (x y z u : Nat) (p rest T0 T1 T2 T3 T4 : List UInt8) (a13 a4 a5 : Option Addr) (n13 c13 c4 c5 : Nat) : Prop where
  hn : a.tmps.size = 108
  h0 : a.eval (.tmp 0) = .int .u8 (x : Int)
  h1 : a.eval (.tmp 1) = .int .u16 (y : Int)
  h2 : a.eval (.tmp 2) = .int .u32 (z : Int)
  h3 : a.eval (.tmp 3) = .int .u64 (u : Int)
  h4 : a.eval (.tmp 4) = .slice a4 p.length c4
  h5 : a.eval (.tmp 5) = .slice a5 rest.length c5
  h13 : a.eval (.tmp 13) = .slice a13 n13 c13
  h14 : a.eval (.tmp 14) = .bool true
  h15 : a.eval (.tmp 15) = .pointer (some ⟨g, 0, none⟩)
  pl : p.length ≤ 2000
  n13e : (n13 : Int) = 17 + (p.length : Int)
  B4 : BytesIs w5.drew (.slice a4 p.length c4) p
  B5 : BytesIs w5.drew (.slice a5 rest.length c5) rest
  l0 : T0.length ≤ 9223372036854775807
  l1 : T1.length ≤ 9223372036854775807
  l2 : T2.length ≤ 9223372036854775807
  l3 : T3.length ≤ 9223372036854775807
  l4 : T4.length ≤ 140737488355328
  l5 : rest.length ≤ 140737488355328
  l6 : -9223372036854775808 ≤ (rest.length : Int) ∧ (rest.length : Int) ≤ 9223372036854775807
  n0 : num (cutOut 1 T0) = x
  r0 : cutRest 1 T0 = T1
  z0 : cutErr 1 T0 0 = 0
  n1 : num (cutOut 2 T1) = y
  r1 : cutRest 2 T1 = T2
  z1 : cutErr 2 T1 0 = 0
  n2 : num (cutOut 4 T2) = z
  r2 : cutRest 4 T2 = T3
  z2 : cutErr 4 T2 0 = 0
  n3 : num (cutOut 8 T3) = u
  r3 : cutRest 8 T3 = T4
  z3 : cutErr 8 T3 0 = 0
  n4 : bytesOut 65535 T4 = p
  r4 : bytesRest 65535 T4 = rest
  z4 : bytesErr 65535 T4 0 = 0
  n6 : takeOut (rest.length : Int) rest = rest
  r6 : takeRest (rest.length : Int) rest = []
  z6 : takeErr (rest.length : Int) rest 0 = 0
def bkF (g : Nat) (x y z u : Nat) (p rest T0 T1 T2 T3 T4 : List UInt8) (a13 a4 a5 : Option Addr) (n13 c13 c4 c5 : Nat) : Nat → Fact (fun k => k = g)
  | 12 => Fact.is (.bool true)
  | 45 => Fact.is (.bool true)
  | 46 => Fact.is (.bool true)
  | 47 => Fact.is (.slice a13 n13 c13)
  | 48 => Fact.is (.int .i64 (n13 : Int))
  | 49 => Fact.is (.slice a4 p.length c4)
  | 50 => Fact.is (.int .i64 (p.length : Int))
  | 51 => Fact.is (.int .i64 (17 + (p.length : Int)))
  | 52 => Fact.is (.bool true)
  | 53 => Fact.is (.bool true)
  | 54 => Fact.is (.bool true)
  | 55 => Fact.is (.pointer (some ⟨g, 0, none⟩))
  | 56 => Fact.is (.int .u8 (x : Int))
  | 57 => Fact.is (.int .u8 (x : Int))
  | 58 => Fact.is (.bool true)
  | 59 => Fact.is (.bool true)
  | 60 => Fact.is (.bool true)
  | 61 => Fact.is (.pointer (some ⟨g, 0, none⟩))
  | 62 => Fact.is (.int .u16 (y : Int))
  | 63 => Fact.is (.int .u16 (y : Int))
  | 64 => Fact.is (.bool true)
  | 65 => Fact.is (.bool true)
  | 66 => Fact.is (.bool true)
  | 67 => Fact.is (.pointer (some ⟨g, 0, none⟩))
  | 68 => Fact.is (.int .u32 (z : Int))
  | 69 => Fact.is (.int .u32 (z : Int))
  | 70 => Fact.is (.bool true)
  | 71 => Fact.is (.bool true)
  | 72 => Fact.is (.bool true)
  | 73 => Fact.is (.pointer (some ⟨g, 0, none⟩))
  | 74 => Fact.is (.int .u64 (u : Int))
  | 75 => Fact.is (.int .u64 (u : Int))
  | 76 => Fact.is (.bool true)
  | 77 => Fact.is (.bool true)
  | 78 => Fact.is (.bool true)
  | 79 => Fact.is (.pointer (some ⟨g, 0, none⟩))
  | 80 => Fact.bytes p
  | 81 => Fact.is (.string ⟨(p).toArray⟩)
  | 82 => Fact.is (.slice a4 p.length c4)
  | 83 => Fact.is (.string ⟨(p).toArray⟩)
  | 84 => Fact.is (.bool true)
  | 85 => Fact.is (.bool true)
  | 86 => Fact.is (.bool true)
  | 87 => Fact.is (.pointer (some ⟨g, 0, none⟩))
  | 88 => Fact.is (.int .i64 (rest.length : Int))
  | 89 => Fact.is (.slice a5 rest.length c5)
  | 90 => Fact.is (.int .i64 (rest.length : Int))
  | 91 => Fact.is (.bool true)
  | 92 => Fact.is (.bool true)
  | 93 => Fact.is (.bool true)
  | 94 => Fact.is (.pointer (some ⟨g, 0, none⟩))
  | 95 => Fact.is (.slice a5 rest.length c5)
  | 96 => Fact.is (.int .i64 (rest.length : Int))
  | 97 => Fact.bytes rest
  | 98 => Fact.is (.string ⟨(rest).toArray⟩)
  | 99 => Fact.is (.slice a5 rest.length c5)
  | 100 => Fact.is (.string ⟨(rest).toArray⟩)
  | 101 => Fact.is (.bool true)
  | 102 => Fact.is (.bool true)
  | 103 => Fact.is (.bool true)
  | 104 => Fact.is (.pointer (some ⟨g, 0, none⟩))
  | 105 => Fact.is (.int .i64 0)
  | 106 => Fact.is (.bool true)
  | 107 => Fact.is (.bool true)
  | _ => Fact.any
theorem bkst0 {Q : Exit → Act → World → Prop} {a : Act} {w5 : World} {g : Nat} {x y z u : Nat} {p rest T0 T1 T2 T3 T4 : List UInt8} {a13 a4 a5 : Option Addr} {n13 c13 c4 c5 : Nat} (K : BkCtx a w5 g x y z u p rest T0 T1 T2 T3 T4 a13 a4 a5 n13 c13 c4 c5) (o : Oper) (ho : bkOps[0]? = some o) (k : Nat) : PStep Try.prog bkOps Q (bkF g x y z u p rest T0 T1 T2 T3 T4 a13 a4 a5 n13 c13 c4 c5) a w5.drew ((bkJ g rest T0 T1 T2 T3 T4) k) ((bkJ g rest T0 T1 T2 T3 T4) k) o := by
  obtain ⟨hd, hop, hg⟩ := op_of ho (show _ = some (some 45, .move (.tmp 14), none) by kernel_rfl)
  exact ph_move (Want.plain hg) 45 hd (.tmp 14) hop _ (Ev.old (by kernel_rfl) K.h14) rfl
theorem bkst1 {Q : Exit → Act → World → Prop} {a : Act} {w5 : World} {g : Nat} {x y z u : Nat} {p rest T0 T1 T2 T3 T4 : List UInt8} {a13 a4 a5 : Option Addr} {n13 c13 c4 c5 : Nat} (K : BkCtx a w5 g x y z u p rest T0 T1 T2 T3 T4 a13 a4 a5 n13 c13 c4 c5) (o : Oper) (ho : bkOps[1]? = some o) (k : Nat) : PStep Try.prog bkOps Q (bkF g x y z u p rest T0 T1 T2 T3 T4 a13 a4 a5 n13 c13 c4 c5) a w5.drew ((bkJ g rest T0 T1 T2 T3 T4) k) ((bkJ g rest T0 T1 T2 T3 T4) k) o := by
  obtain ⟨hd, hop, hg⟩ := op_of ho (show _ = some (some 46, .move (.tmp 45), none) by kernel_rfl)
  exact ph_move (Want.plain hg) 46 hd (.tmp 45) hop _ (Ev.dep (Dep.at K.hn ho (by kernel_rfl)) rfl) rfl
theorem bkst2 {Q : Exit → Act → World → Prop} {a : Act} {w5 : World} {g : Nat} {x y z u : Nat} {p rest T0 T1 T2 T3 T4 : List UInt8} {a13 a4 a5 : Option Addr} {n13 c13 c4 c5 : Nat} (K : BkCtx a w5 g x y z u p rest T0 T1 T2 T3 T4 a13 a4 a5 n13 c13 c4 c5) (o : Oper) (ho : bkOps[2]? = some o) (k : Nat) : PStep Try.prog bkOps Q (bkF g x y z u p rest T0 T1 T2 T3 T4 a13 a4 a5 n13 c13 c4 c5) a w5.drew ((bkJ g rest T0 T1 T2 T3 T4) k) ((bkJ g rest T0 T1 T2 T3 T4) k) o := by
  obtain ⟨hd, hop, hg⟩ := op_of ho (show _ = some (some 47, .move (.tmp 13), some (1, true)) by kernel_rfl)
  exact ph_move (Want.dep 1 true 46 hg (by kernel_rfl) (Dep.at K.hn ho (by kernel_rfl)) rfl) 47 hd (.tmp 13) hop _ (Ev.old (by kernel_rfl) K.h13) rfl
theorem bkst3 {Q : Exit → Act → World → Prop} {a : Act} {w5 : World} {g : Nat} {x y z u : Nat} {p rest T0 T1 T2 T3 T4 : List UInt8} {a13 a4 a5 : Option Addr} {n13 c13 c4 c5 : Nat} (K : BkCtx a w5 g x y z u p rest T0 T1 T2 T3 T4 a13 a4 a5 n13 c13 c4 c5) (o : Oper) (ho : bkOps[3]? = some o) (k : Nat) : PStep Try.prog bkOps Q (bkF g x y z u p rest T0 T1 T2 T3 T4 a13 a4 a5 n13 c13 c4 c5) a w5.drew ((bkJ g rest T0 T1 T2 T3 T4) k) ((bkJ g rest T0 T1 T2 T3 T4) k) o := by
  obtain ⟨hd, hop, hg⟩ := op_of ho (show _ = some (some 48, .call { callee := .builtin .len, args := #[(.tmp 47)], argTypes := #[23] }, some (1, true)) by kernel_rfl)
  exact ph_len (Want.dep 1 true 46 hg (by kernel_rfl) (Dep.at K.hn ho (by kernel_rfl)) rfl) 48 hd 23 (.tmp 47) hop (.slice a13 n13 c13) (.int .i64 (n13 : Int)) (Ev.dep (Dep.at K.hn ho (by kernel_rfl)) rfl) rfl (fun ρ w' h => by simp [execOp, h, resolve, invoke, builtin]; go_simp)
theorem bkst4 {Q : Exit → Act → World → Prop} {a : Act} {w5 : World} {g : Nat} {x y z u : Nat} {p rest T0 T1 T2 T3 T4 : List UInt8} {a13 a4 a5 : Option Addr} {n13 c13 c4 c5 : Nat} (K : BkCtx a w5 g x y z u p rest T0 T1 T2 T3 T4 a13 a4 a5 n13 c13 c4 c5) (o : Oper) (ho : bkOps[4]? = some o) (k : Nat) : PStep Try.prog bkOps Q (bkF g x y z u p rest T0 T1 T2 T3 T4 a13 a4 a5 n13 c13 c4 c5) a w5.drew ((bkJ g rest T0 T1 T2 T3 T4) k) ((bkJ g rest T0 T1 T2 T3 T4) k) o := by
  obtain ⟨hd, hop, hg⟩ := op_of ho (show _ = some (some 49, .move (.tmp 4), some (1, true)) by kernel_rfl)
  exact ph_move (Want.dep 1 true 46 hg (by kernel_rfl) (Dep.at K.hn ho (by kernel_rfl)) rfl) 49 hd (.tmp 4) hop _ (Ev.old (by kernel_rfl) K.h4) rfl
theorem bkst5 {Q : Exit → Act → World → Prop} {a : Act} {w5 : World} {g : Nat} {x y z u : Nat} {p rest T0 T1 T2 T3 T4 : List UInt8} {a13 a4 a5 : Option Addr} {n13 c13 c4 c5 : Nat} (K : BkCtx a w5 g x y z u p rest T0 T1 T2 T3 T4 a13 a4 a5 n13 c13 c4 c5) (o : Oper) (ho : bkOps[5]? = some o) (k : Nat) : PStep Try.prog bkOps Q (bkF g x y z u p rest T0 T1 T2 T3 T4 a13 a4 a5 n13 c13 c4 c5) a w5.drew ((bkJ g rest T0 T1 T2 T3 T4) k) ((bkJ g rest T0 T1 T2 T3 T4) k) o := by
  obtain ⟨hd, hop, hg⟩ := op_of ho (show _ = some (some 50, .call { callee := .builtin .len, args := #[(.tmp 49)], argTypes := #[23] }, some (1, true)) by kernel_rfl)
  exact ph_len (Want.dep 1 true 46 hg (by kernel_rfl) (Dep.at K.hn ho (by kernel_rfl)) rfl) 50 hd 23 (.tmp 49) hop (.slice a4 p.length c4) (.int .i64 (p.length : Int)) (Ev.dep (Dep.at K.hn ho (by kernel_rfl)) rfl) rfl (fun ρ w' h => by simp [execOp, h, resolve, invoke, builtin]; go_simp)
theorem bkst6 {Q : Exit → Act → World → Prop} {a : Act} {w5 : World} {g : Nat} {x y z u : Nat} {p rest T0 T1 T2 T3 T4 : List UInt8} {a13 a4 a5 : Option Addr} {n13 c13 c4 c5 : Nat} (K : BkCtx a w5 g x y z u p rest T0 T1 T2 T3 T4 a13 a4 a5 n13 c13 c4 c5) (o : Oper) (ho : bkOps[6]? = some o) (k : Nat) : PStep Try.prog bkOps Q (bkF g x y z u p rest T0 T1 T2 T3 T4 a13 a4 a5 n13 c13 c4 c5) a w5.drew ((bkJ g rest T0 T1 T2 T3 T4) k) ((bkJ g rest T0 T1 T2 T3 T4) k) o := by
  obtain ⟨hd, hop, hg⟩ := op_of ho (show _ = some (some 51, .binOp .add 3 (.const (.int .i64 17)) (.tmp 50) 3, some (1, true)) by kernel_rfl)
  exact ph_bin (Want.dep 1 true 46 hg (by kernel_rfl) (Dep.at K.hn ho (by kernel_rfl)) rfl) 51 hd .add 3 3 (.const (.int .i64 17)) (.tmp 50) hop (.int .i64 17) (.int .i64 (p.length : Int)) (.int .i64 (17 + (p.length : Int))) (Ev.const _) (Ev.dep (Dep.at K.hn ho (by kernel_rfl)) rfl) rfl (fun w' => by have h := K.pl; go_simp; rw [IntKind.wrap_i64]; omega)
theorem bkst7 {Q : Exit → Act → World → Prop} {a : Act} {w5 : World} {g : Nat} {x y z u : Nat} {p rest T0 T1 T2 T3 T4 : List UInt8} {a13 a4 a5 : Option Addr} {n13 c13 c4 c5 : Nat} (K : BkCtx a w5 g x y z u p rest T0 T1 T2 T3 T4 a13 a4 a5 n13 c13 c4 c5) (o : Oper) (ho : bkOps[7]? = some o) (k : Nat) : PStep Try.prog bkOps Q (bkF g x y z u p rest T0 T1 T2 T3 T4 a13 a4 a5 n13 c13 c4 c5) a w5.drew ((bkJ g rest T0 T1 T2 T3 T4) k) ((bkJ g rest T0 T1 T2 T3 T4) k) o := by
  obtain ⟨hd, hop, hg⟩ := op_of ho (show _ = some (some 52, .binOp .eql 3 (.tmp 48) (.tmp 51) 3, some (1, true)) by kernel_rfl)
  exact ph_bin (Want.dep 1 true 46 hg (by kernel_rfl) (Dep.at K.hn ho (by kernel_rfl)) rfl) 52 hd .eql 3 3 (.tmp 48) (.tmp 51) hop (.int .i64 (n13 : Int)) (.int .i64 (17 + (p.length : Int))) (.bool true) (Ev.dep (Dep.at K.hn ho (by kernel_rfl)) rfl) (Ev.dep (Dep.at K.hn ho (by kernel_rfl)) rfl) rfl (fun w' => by have := K.n13e; go_simp; try omega)
theorem bkst8 {Q : Exit → Act → World → Prop} {a : Act} {w5 : World} {g : Nat} {x y z u : Nat} {p rest T0 T1 T2 T3 T4 : List UInt8} {a13 a4 a5 : Option Addr} {n13 c13 c4 c5 : Nat} (K : BkCtx a w5 g x y z u p rest T0 T1 T2 T3 T4 a13 a4 a5 n13 c13 c4 c5) (o : Oper) (ho : bkOps[8]? = some o) (k : Nat) : PStep Try.prog bkOps Q (bkF g x y z u p rest T0 T1 T2 T3 T4 a13 a4 a5 n13 c13 c4 c5) a w5.drew ((bkJ g rest T0 T1 T2 T3 T4) k) ((bkJ g rest T0 T1 T2 T3 T4) k) o := by
  obtain ⟨hd, hop, hg⟩ := op_of ho (show _ = some (some 53, .pick (.tmp 46) (.tmp 52) (.const (.bool false)), none) by kernel_rfl)
  exact ph_pick (Want.plain hg) 53 hd (.tmp 46) (.tmp 52) (.const (.bool false)) hop true (.bool true) (Ev.dep (Dep.at K.hn ho (by kernel_rfl)) rfl) (fun _ => (Ev.dep (Dep.at K.hn ho (by kernel_rfl)) rfl)) (fun h => by cases h) rfl
theorem bkst9 {Q : Exit → Act → World → Prop} {a : Act} {w5 : World} {g : Nat} {x y z u : Nat} {p rest T0 T1 T2 T3 T4 : List UInt8} {a13 a4 a5 : Option Addr} {n13 c13 c4 c5 : Nat} (K : BkCtx a w5 g x y z u p rest T0 T1 T2 T3 T4 a13 a4 a5 n13 c13 c4 c5) (o : Oper) (ho : bkOps[9]? = some o) (k : Nat) : PStep Try.prog bkOps Q (bkF g x y z u p rest T0 T1 T2 T3 T4 a13 a4 a5 n13 c13 c4 c5) a w5.drew ((bkJ g rest T0 T1 T2 T3 T4) k) ((bkJ g rest T0 T1 T2 T3 T4) k) o := by
  obtain ⟨hd, hop, hg⟩ := op_of ho (show _ = some (some 54, .move (.tmp 53), none) by kernel_rfl)
  exact ph_move (Want.plain hg) 54 hd (.tmp 53) hop _ (Ev.dep (Dep.at K.hn ho (by kernel_rfl)) rfl) rfl
theorem bkst10 {Q : Exit → Act → World → Prop} {a : Act} {w5 : World} {g : Nat} {x y z u : Nat} {p rest T0 T1 T2 T3 T4 : List UInt8} {a13 a4 a5 : Option Addr} {n13 c13 c4 c5 : Nat} (K : BkCtx a w5 g x y z u p rest T0 T1 T2 T3 T4 a13 a4 a5 n13 c13 c4 c5) (o : Oper) (ho : bkOps[10]? = some o) (k : Nat) : PStep Try.prog bkOps Q (bkF g x y z u p rest T0 T1 T2 T3 T4 a13 a4 a5 n13 c13 c4 c5) a w5.drew ((bkJ g rest T0 T1 T2 T3 T4) k) ((bkJ g rest T0 T1 T2 T3 T4) k) o := by
  obtain ⟨hd, hop, hg⟩ := op_of ho (show _ = some (some 55, .move (.tmp 15), some (9, true)) by kernel_rfl)
  exact ph_move (Want.dep 9 true 54 hg (by kernel_rfl) (Dep.at K.hn ho (by kernel_rfl)) rfl) 55 hd (.tmp 15) hop _ (Ev.old (by kernel_rfl) K.h15) rfl
theorem bkst11 {Q : Exit → Act → World → Prop} {a : Act} {w5 : World} {g : Nat} {x y z u : Nat} {p rest T0 T1 T2 T3 T4 : List UInt8} {a13 a4 a5 : Option Addr} {n13 c13 c4 c5 : Nat} (K : BkCtx a w5 g x y z u p rest T0 T1 T2 T3 T4 a13 a4 a5 n13 c13 c4 c5) (o : Oper) (ho : bkOps[11]? = some o) : PStep Try.prog bkOps Q (bkF g x y z u p rest T0 T1 T2 T3 T4 a13 a4 a5 n13 c13 c4 c5) a w5.drew ((bkJ g rest T0 T1 T2 T3 T4) 0) ((bkJ g rest T0 T1 T2 T3 T4) 1) o := by
  obtain ⟨hd, hop, hg⟩ := op_of ho (show _ = some (some 56, .call { callee := .value (.func 12), args := #[(.tmp 55)], argTypes := #[27] }, some (9, true)) by kernel_rfl)
  exact ph_call (Want.dep 9 true 54 hg (by kernel_rfl) (Dep.at K.hn ho (by kernel_rfl)) rfl) 56 hd 12 _ _ hop _ Try.func12 (by kernel_rfl) (by kernel_rfl) #[.pointer (some ⟨g, 0, none⟩)] (ev1 (Ev.dep (Dep.at K.hn ho (by kernel_rfl)) rfl)) (fun w' hG hJ => (ru8_any g T0 0 w' K.l0 hJ).mono fun e w'' ⟨he, hR, hF⟩ => ⟨_, by rw [he, K.n0], rfl, ⟨hF, fun _ _ hb => bytes_fr1 hb hF hJ.noU8⟩, by rw [K.r0, K.z0] at hR; exact hR⟩)
theorem bkst12 {Q : Exit → Act → World → Prop} {a : Act} {w5 : World} {g : Nat} {x y z u : Nat} {p rest T0 T1 T2 T3 T4 : List UInt8} {a13 a4 a5 : Option Addr} {n13 c13 c4 c5 : Nat} (K : BkCtx a w5 g x y z u p rest T0 T1 T2 T3 T4 a13 a4 a5 n13 c13 c4 c5) (o : Oper) (ho : bkOps[12]? = some o) (k : Nat) : PStep Try.prog bkOps Q (bkF g x y z u p rest T0 T1 T2 T3 T4 a13 a4 a5 n13 c13 c4 c5) a w5.drew ((bkJ g rest T0 T1 T2 T3 T4) k) ((bkJ g rest T0 T1 T2 T3 T4) k) o := by
  obtain ⟨hd, hop, hg⟩ := op_of ho (show _ = some (some 57, .move (.tmp 0), some (9, true)) by kernel_rfl)
  exact ph_move (Want.dep 9 true 54 hg (by kernel_rfl) (Dep.at K.hn ho (by kernel_rfl)) rfl) 57 hd (.tmp 0) hop _ (Ev.old (by kernel_rfl) K.h0) rfl
theorem bkst13 {Q : Exit → Act → World → Prop} {a : Act} {w5 : World} {g : Nat} {x y z u : Nat} {p rest T0 T1 T2 T3 T4 : List UInt8} {a13 a4 a5 : Option Addr} {n13 c13 c4 c5 : Nat} (K : BkCtx a w5 g x y z u p rest T0 T1 T2 T3 T4 a13 a4 a5 n13 c13 c4 c5) (o : Oper) (ho : bkOps[13]? = some o) (k : Nat) : PStep Try.prog bkOps Q (bkF g x y z u p rest T0 T1 T2 T3 T4 a13 a4 a5 n13 c13 c4 c5) a w5.drew ((bkJ g rest T0 T1 T2 T3 T4) k) ((bkJ g rest T0 T1 T2 T3 T4) k) o := by
  obtain ⟨hd, hop, hg⟩ := op_of ho (show _ = some (some 58, .binOp .eql 5 (.tmp 56) (.tmp 57) 5, some (9, true)) by kernel_rfl)
  exact ph_bin (Want.dep 9 true 54 hg (by kernel_rfl) (Dep.at K.hn ho (by kernel_rfl)) rfl) 58 hd .eql 5 5 (.tmp 56) (.tmp 57) hop (.int .u8 (x : Int)) (.int .u8 (x : Int)) (.bool true) (Ev.dep (Dep.at K.hn ho (by kernel_rfl)) rfl) (Ev.dep (Dep.at K.hn ho (by kernel_rfl)) rfl) rfl (fun w' => by go_simp)
theorem bkst14 {Q : Exit → Act → World → Prop} {a : Act} {w5 : World} {g : Nat} {x y z u : Nat} {p rest T0 T1 T2 T3 T4 : List UInt8} {a13 a4 a5 : Option Addr} {n13 c13 c4 c5 : Nat} (K : BkCtx a w5 g x y z u p rest T0 T1 T2 T3 T4 a13 a4 a5 n13 c13 c4 c5) (o : Oper) (ho : bkOps[14]? = some o) (k : Nat) : PStep Try.prog bkOps Q (bkF g x y z u p rest T0 T1 T2 T3 T4 a13 a4 a5 n13 c13 c4 c5) a w5.drew ((bkJ g rest T0 T1 T2 T3 T4) k) ((bkJ g rest T0 T1 T2 T3 T4) k) o := by
  obtain ⟨hd, hop, hg⟩ := op_of ho (show _ = some (some 59, .pick (.tmp 54) (.tmp 58) (.const (.bool false)), none) by kernel_rfl)
  exact ph_pick (Want.plain hg) 59 hd (.tmp 54) (.tmp 58) (.const (.bool false)) hop true (.bool true) (Ev.dep (Dep.at K.hn ho (by kernel_rfl)) rfl) (fun _ => (Ev.dep (Dep.at K.hn ho (by kernel_rfl)) rfl)) (fun h => by cases h) rfl
theorem bkst15 {Q : Exit → Act → World → Prop} {a : Act} {w5 : World} {g : Nat} {x y z u : Nat} {p rest T0 T1 T2 T3 T4 : List UInt8} {a13 a4 a5 : Option Addr} {n13 c13 c4 c5 : Nat} (K : BkCtx a w5 g x y z u p rest T0 T1 T2 T3 T4 a13 a4 a5 n13 c13 c4 c5) (o : Oper) (ho : bkOps[15]? = some o) (k : Nat) : PStep Try.prog bkOps Q (bkF g x y z u p rest T0 T1 T2 T3 T4 a13 a4 a5 n13 c13 c4 c5) a w5.drew ((bkJ g rest T0 T1 T2 T3 T4) k) ((bkJ g rest T0 T1 T2 T3 T4) k) o := by
  obtain ⟨hd, hop, hg⟩ := op_of ho (show _ = some (some 60, .move (.tmp 59), none) by kernel_rfl)
  exact ph_move (Want.plain hg) 60 hd (.tmp 59) hop _ (Ev.dep (Dep.at K.hn ho (by kernel_rfl)) rfl) rfl
theorem bkst16 {Q : Exit → Act → World → Prop} {a : Act} {w5 : World} {g : Nat} {x y z u : Nat} {p rest T0 T1 T2 T3 T4 : List UInt8} {a13 a4 a5 : Option Addr} {n13 c13 c4 c5 : Nat} (K : BkCtx a w5 g x y z u p rest T0 T1 T2 T3 T4 a13 a4 a5 n13 c13 c4 c5) (o : Oper) (ho : bkOps[16]? = some o) (k : Nat) : PStep Try.prog bkOps Q (bkF g x y z u p rest T0 T1 T2 T3 T4 a13 a4 a5 n13 c13 c4 c5) a w5.drew ((bkJ g rest T0 T1 T2 T3 T4) k) ((bkJ g rest T0 T1 T2 T3 T4) k) o := by
  obtain ⟨hd, hop, hg⟩ := op_of ho (show _ = some (some 61, .move (.tmp 15), some (15, true)) by kernel_rfl)
  exact ph_move (Want.dep 15 true 60 hg (by kernel_rfl) (Dep.at K.hn ho (by kernel_rfl)) rfl) 61 hd (.tmp 15) hop _ (Ev.old (by kernel_rfl) K.h15) rfl
theorem bkst17 {Q : Exit → Act → World → Prop} {a : Act} {w5 : World} {g : Nat} {x y z u : Nat} {p rest T0 T1 T2 T3 T4 : List UInt8} {a13 a4 a5 : Option Addr} {n13 c13 c4 c5 : Nat} (K : BkCtx a w5 g x y z u p rest T0 T1 T2 T3 T4 a13 a4 a5 n13 c13 c4 c5) (o : Oper) (ho : bkOps[17]? = some o) : PStep Try.prog bkOps Q (bkF g x y z u p rest T0 T1 T2 T3 T4 a13 a4 a5 n13 c13 c4 c5) a w5.drew ((bkJ g rest T0 T1 T2 T3 T4) 1) ((bkJ g rest T0 T1 T2 T3 T4) 2) o := by
  obtain ⟨hd, hop, hg⟩ := op_of ho (show _ = some (some 62, .call { callee := .value (.func 22), args := #[(.tmp 61)], argTypes := #[27] }, some (15, true)) by kernel_rfl)
  exact ph_call (Want.dep 15 true 60 hg (by kernel_rfl) (Dep.at K.hn ho (by kernel_rfl)) rfl) 62 hd 22 _ _ hop _ Try.func22 (by kernel_rfl) (by kernel_rfl) #[.pointer (some ⟨g, 0, none⟩)] (ev1 (Ev.dep (Dep.at K.hn ho (by kernel_rfl)) rfl)) (fun w' hG hJ => (ru16_any g T1 0 w' K.l1 hJ).mono fun e w'' ⟨he, hR, hF⟩ => ⟨_, by rw [he, K.n1], rfl, ⟨hF, fun _ _ hb => bytes_fr1 hb hF hJ.noU8⟩, by rw [K.r1, K.z1] at hR; exact hR⟩)
theorem bkst18 {Q : Exit → Act → World → Prop} {a : Act} {w5 : World} {g : Nat} {x y z u : Nat} {p rest T0 T1 T2 T3 T4 : List UInt8} {a13 a4 a5 : Option Addr} {n13 c13 c4 c5 : Nat} (K : BkCtx a w5 g x y z u p rest T0 T1 T2 T3 T4 a13 a4 a5 n13 c13 c4 c5) (o : Oper) (ho : bkOps[18]? = some o) (k : Nat) : PStep Try.prog bkOps Q (bkF g x y z u p rest T0 T1 T2 T3 T4 a13 a4 a5 n13 c13 c4 c5) a w5.drew ((bkJ g rest T0 T1 T2 T3 T4) k) ((bkJ g rest T0 T1 T2 T3 T4) k) o := by
  obtain ⟨hd, hop, hg⟩ := op_of ho (show _ = some (some 63, .move (.tmp 1), some (15, true)) by kernel_rfl)
  exact ph_move (Want.dep 15 true 60 hg (by kernel_rfl) (Dep.at K.hn ho (by kernel_rfl)) rfl) 63 hd (.tmp 1) hop _ (Ev.old (by kernel_rfl) K.h1) rfl
theorem bkst19 {Q : Exit → Act → World → Prop} {a : Act} {w5 : World} {g : Nat} {x y z u : Nat} {p rest T0 T1 T2 T3 T4 : List UInt8} {a13 a4 a5 : Option Addr} {n13 c13 c4 c5 : Nat} (K : BkCtx a w5 g x y z u p rest T0 T1 T2 T3 T4 a13 a4 a5 n13 c13 c4 c5) (o : Oper) (ho : bkOps[19]? = some o) (k : Nat) : PStep Try.prog bkOps Q (bkF g x y z u p rest T0 T1 T2 T3 T4 a13 a4 a5 n13 c13 c4 c5) a w5.drew ((bkJ g rest T0 T1 T2 T3 T4) k) ((bkJ g rest T0 T1 T2 T3 T4) k) o := by
  obtain ⟨hd, hop, hg⟩ := op_of ho (show _ = some (some 64, .binOp .eql 47 (.tmp 62) (.tmp 63) 47, some (15, true)) by kernel_rfl)
  exact ph_bin (Want.dep 15 true 60 hg (by kernel_rfl) (Dep.at K.hn ho (by kernel_rfl)) rfl) 64 hd .eql 47 47 (.tmp 62) (.tmp 63) hop (.int .u16 (y : Int)) (.int .u16 (y : Int)) (.bool true) (Ev.dep (Dep.at K.hn ho (by kernel_rfl)) rfl) (Ev.dep (Dep.at K.hn ho (by kernel_rfl)) rfl) rfl (fun w' => by go_simp)
theorem bkst20 {Q : Exit → Act → World → Prop} {a : Act} {w5 : World} {g : Nat} {x y z u : Nat} {p rest T0 T1 T2 T3 T4 : List UInt8} {a13 a4 a5 : Option Addr} {n13 c13 c4 c5 : Nat} (K : BkCtx a w5 g x y z u p rest T0 T1 T2 T3 T4 a13 a4 a5 n13 c13 c4 c5) (o : Oper) (ho : bkOps[20]? = some o) (k : Nat) : PStep Try.prog bkOps Q (bkF g x y z u p rest T0 T1 T2 T3 T4 a13 a4 a5 n13 c13 c4 c5) a w5.drew ((bkJ g rest T0 T1 T2 T3 T4) k) ((bkJ g rest T0 T1 T2 T3 T4) k) o := by
  obtain ⟨hd, hop, hg⟩ := op_of ho (show _ = some (some 65, .pick (.tmp 60) (.tmp 64) (.const (.bool false)), none) by kernel_rfl)
  exact ph_pick (Want.plain hg) 65 hd (.tmp 60) (.tmp 64) (.const (.bool false)) hop true (.bool true) (Ev.dep (Dep.at K.hn ho (by kernel_rfl)) rfl) (fun _ => (Ev.dep (Dep.at K.hn ho (by kernel_rfl)) rfl)) (fun h => by cases h) rfl
theorem bkst21 {Q : Exit → Act → World → Prop} {a : Act} {w5 : World} {g : Nat} {x y z u : Nat} {p rest T0 T1 T2 T3 T4 : List UInt8} {a13 a4 a5 : Option Addr} {n13 c13 c4 c5 : Nat} (K : BkCtx a w5 g x y z u p rest T0 T1 T2 T3 T4 a13 a4 a5 n13 c13 c4 c5) (o : Oper) (ho : bkOps[21]? = some o) (k : Nat) : PStep Try.prog bkOps Q (bkF g x y z u p rest T0 T1 T2 T3 T4 a13 a4 a5 n13 c13 c4 c5) a w5.drew ((bkJ g rest T0 T1 T2 T3 T4) k) ((bkJ g rest T0 T1 T2 T3 T4) k) o := by
  obtain ⟨hd, hop, hg⟩ := op_of ho (show _ = some (some 66, .move (.tmp 65), none) by kernel_rfl)
  exact ph_move (Want.plain hg) 66 hd (.tmp 65) hop _ (Ev.dep (Dep.at K.hn ho (by kernel_rfl)) rfl) rfl
theorem bkst22 {Q : Exit → Act → World → Prop} {a : Act} {w5 : World} {g : Nat} {x y z u : Nat} {p rest T0 T1 T2 T3 T4 : List UInt8} {a13 a4 a5 : Option Addr} {n13 c13 c4 c5 : Nat} (K : BkCtx a w5 g x y z u p rest T0 T1 T2 T3 T4 a13 a4 a5 n13 c13 c4 c5) (o : Oper) (ho : bkOps[22]? = some o) (k : Nat) : PStep Try.prog bkOps Q (bkF g x y z u p rest T0 T1 T2 T3 T4 a13 a4 a5 n13 c13 c4 c5) a w5.drew ((bkJ g rest T0 T1 T2 T3 T4) k) ((bkJ g rest T0 T1 T2 T3 T4) k) o := by
  obtain ⟨hd, hop, hg⟩ := op_of ho (show _ = some (some 67, .move (.tmp 15), some (21, true)) by kernel_rfl)
  exact ph_move (Want.dep 21 true 66 hg (by kernel_rfl) (Dep.at K.hn ho (by kernel_rfl)) rfl) 67 hd (.tmp 15) hop _ (Ev.old (by kernel_rfl) K.h15) rfl
theorem bkst23 {Q : Exit → Act → World → Prop} {a : Act} {w5 : World} {g : Nat} {x y z u : Nat} {p rest T0 T1 T2 T3 T4 : List UInt8} {a13 a4 a5 : Option Addr} {n13 c13 c4 c5 : Nat} (K : BkCtx a w5 g x y z u p rest T0 T1 T2 T3 T4 a13 a4 a5 n13 c13 c4 c5) (o : Oper) (ho : bkOps[23]? = some o) : PStep Try.prog bkOps Q (bkF g x y z u p rest T0 T1 T2 T3 T4 a13 a4 a5 n13 c13 c4 c5) a w5.drew ((bkJ g rest T0 T1 T2 T3 T4) 2) ((bkJ g rest T0 T1 T2 T3 T4) 3) o := by
  obtain ⟨hd, hop, hg⟩ := op_of ho (show _ = some (some 68, .call { callee := .value (.func 18), args := #[(.tmp 67)], argTypes := #[27] }, some (21, true)) by kernel_rfl)
  exact ph_call (Want.dep 21 true 66 hg (by kernel_rfl) (Dep.at K.hn ho (by kernel_rfl)) rfl) 68 hd 18 _ _ hop _ Try.func18 (by kernel_rfl) (by kernel_rfl) #[.pointer (some ⟨g, 0, none⟩)] (ev1 (Ev.dep (Dep.at K.hn ho (by kernel_rfl)) rfl)) (fun w' hG hJ => (ru32_any g T2 0 w' K.l2 hJ).mono fun e w'' ⟨he, hR, hF⟩ => ⟨_, by rw [he, K.n2], rfl, ⟨hF, fun _ _ hb => bytes_fr1 hb hF hJ.noU8⟩, by rw [K.r2, K.z2] at hR; exact hR⟩)
theorem bkst24 {Q : Exit → Act → World → Prop} {a : Act} {w5 : World} {g : Nat} {x y z u : Nat} {p rest T0 T1 T2 T3 T4 : List UInt8} {a13 a4 a5 : Option Addr} {n13 c13 c4 c5 : Nat} (K : BkCtx a w5 g x y z u p rest T0 T1 T2 T3 T4 a13 a4 a5 n13 c13 c4 c5) (o : Oper) (ho : bkOps[24]? = some o) (k : Nat) : PStep Try.prog bkOps Q (bkF g x y z u p rest T0 T1 T2 T3 T4 a13 a4 a5 n13 c13 c4 c5) a w5.drew ((bkJ g rest T0 T1 T2 T3 T4) k) ((bkJ g rest T0 T1 T2 T3 T4) k) o := by
  obtain ⟨hd, hop, hg⟩ := op_of ho (show _ = some (some 69, .move (.tmp 2), some (21, true)) by kernel_rfl)
  exact ph_move (Want.dep 21 true 66 hg (by kernel_rfl) (Dep.at K.hn ho (by kernel_rfl)) rfl) 69 hd (.tmp 2) hop _ (Ev.old (by kernel_rfl) K.h2) rfl
theorem bkst25 {Q : Exit → Act → World → Prop} {a : Act} {w5 : World} {g : Nat} {x y z u : Nat} {p rest T0 T1 T2 T3 T4 : List UInt8} {a13 a4 a5 : Option Addr} {n13 c13 c4 c5 : Nat} (K : BkCtx a w5 g x y z u p rest T0 T1 T2 T3 T4 a13 a4 a5 n13 c13 c4 c5) (o : Oper) (ho : bkOps[25]? = some o) (k : Nat) : PStep Try.prog bkOps Q (bkF g x y z u p rest T0 T1 T2 T3 T4 a13 a4 a5 n13 c13 c4 c5) a w5.drew ((bkJ g rest T0 T1 T2 T3 T4) k) ((bkJ g rest T0 T1 T2 T3 T4) k) o := by
  obtain ⟨hd, hop, hg⟩ := op_of ho (show _ = some (some 70, .binOp .eql 36 (.tmp 68) (.tmp 69) 36, some (21, true)) by kernel_rfl)
  exact ph_bin (Want.dep 21 true 66 hg (by kernel_rfl) (Dep.at K.hn ho (by kernel_rfl)) rfl) 70 hd .eql 36 36 (.tmp 68) (.tmp 69) hop (.int .u32 (z : Int)) (.int .u32 (z : Int)) (.bool true) (Ev.dep (Dep.at K.hn ho (by kernel_rfl)) rfl) (Ev.dep (Dep.at K.hn ho (by kernel_rfl)) rfl) rfl (fun w' => by go_simp)
theorem bkst26 {Q : Exit → Act → World → Prop} {a : Act} {w5 : World} {g : Nat} {x y z u : Nat} {p rest T0 T1 T2 T3 T4 : List UInt8} {a13 a4 a5 : Option Addr} {n13 c13 c4 c5 : Nat} (K : BkCtx a w5 g x y z u p rest T0 T1 T2 T3 T4 a13 a4 a5 n13 c13 c4 c5) (o : Oper) (ho : bkOps[26]? = some o) (k : Nat) : PStep Try.prog bkOps Q (bkF g x y z u p rest T0 T1 T2 T3 T4 a13 a4 a5 n13 c13 c4 c5) a w5.drew ((bkJ g rest T0 T1 T2 T3 T4) k) ((bkJ g rest T0 T1 T2 T3 T4) k) o := by
  obtain ⟨hd, hop, hg⟩ := op_of ho (show _ = some (some 71, .pick (.tmp 66) (.tmp 70) (.const (.bool false)), none) by kernel_rfl)
  exact ph_pick (Want.plain hg) 71 hd (.tmp 66) (.tmp 70) (.const (.bool false)) hop true (.bool true) (Ev.dep (Dep.at K.hn ho (by kernel_rfl)) rfl) (fun _ => (Ev.dep (Dep.at K.hn ho (by kernel_rfl)) rfl)) (fun h => by cases h) rfl
theorem bkst27 {Q : Exit → Act → World → Prop} {a : Act} {w5 : World} {g : Nat} {x y z u : Nat} {p rest T0 T1 T2 T3 T4 : List UInt8} {a13 a4 a5 : Option Addr} {n13 c13 c4 c5 : Nat} (K : BkCtx a w5 g x y z u p rest T0 T1 T2 T3 T4 a13 a4 a5 n13 c13 c4 c5) (o : Oper) (ho : bkOps[27]? = some o) (k : Nat) : PStep Try.prog bkOps Q (bkF g x y z u p rest T0 T1 T2 T3 T4 a13 a4 a5 n13 c13 c4 c5) a w5.drew ((bkJ g rest T0 T1 T2 T3 T4) k) ((bkJ g rest T0 T1 T2 T3 T4) k) o := by
  obtain ⟨hd, hop, hg⟩ := op_of ho (show _ = some (some 72, .move (.tmp 71), none) by kernel_rfl)
  exact ph_move (Want.plain hg) 72 hd (.tmp 71) hop _ (Ev.dep (Dep.at K.hn ho (by kernel_rfl)) rfl) rfl
theorem bkst28 {Q : Exit → Act → World → Prop} {a : Act} {w5 : World} {g : Nat} {x y z u : Nat} {p rest T0 T1 T2 T3 T4 : List UInt8} {a13 a4 a5 : Option Addr} {n13 c13 c4 c5 : Nat} (K : BkCtx a w5 g x y z u p rest T0 T1 T2 T3 T4 a13 a4 a5 n13 c13 c4 c5) (o : Oper) (ho : bkOps[28]? = some o) (k : Nat) : PStep Try.prog bkOps Q (bkF g x y z u p rest T0 T1 T2 T3 T4 a13 a4 a5 n13 c13 c4 c5) a w5.drew ((bkJ g rest T0 T1 T2 T3 T4) k) ((bkJ g rest T0 T1 T2 T3 T4) k) o := by
  obtain ⟨hd, hop, hg⟩ := op_of ho (show _ = some (some 73, .move (.tmp 15), some (27, true)) by kernel_rfl)
  exact ph_move (Want.dep 27 true 72 hg (by kernel_rfl) (Dep.at K.hn ho (by kernel_rfl)) rfl) 73 hd (.tmp 15) hop _ (Ev.old (by kernel_rfl) K.h15) rfl
theorem bkst29 {Q : Exit → Act → World → Prop} {a : Act} {w5 : World} {g : Nat} {x y z u : Nat} {p rest T0 T1 T2 T3 T4 : List UInt8} {a13 a4 a5 : Option Addr} {n13 c13 c4 c5 : Nat} (K : BkCtx a w5 g x y z u p rest T0 T1 T2 T3 T4 a13 a4 a5 n13 c13 c4 c5) (o : Oper) (ho : bkOps[29]? = some o) : PStep Try.prog bkOps Q (bkF g x y z u p rest T0 T1 T2 T3 T4 a13 a4 a5 n13 c13 c4 c5) a w5.drew ((bkJ g rest T0 T1 T2 T3 T4) 3) ((bkJ g rest T0 T1 T2 T3 T4) 4) o := by
  obtain ⟨hd, hop, hg⟩ := op_of ho (show _ = some (some 74, .call { callee := .value (.func 15), args := #[(.tmp 73)], argTypes := #[27] }, some (27, true)) by kernel_rfl)
  exact ph_call (Want.dep 27 true 72 hg (by kernel_rfl) (Dep.at K.hn ho (by kernel_rfl)) rfl) 74 hd 15 _ _ hop _ Try.func15 (by kernel_rfl) (by kernel_rfl) #[.pointer (some ⟨g, 0, none⟩)] (ev1 (Ev.dep (Dep.at K.hn ho (by kernel_rfl)) rfl)) (fun w' hG hJ => (ru64_any g T3 0 w' K.l3 hJ).mono fun e w'' ⟨he, hR, hF⟩ => ⟨_, by rw [he, K.n3], rfl, ⟨hF, fun _ _ hb => bytes_fr1 hb hF hJ.noU8⟩, by rw [K.r3, K.z3] at hR; exact hR⟩)
theorem bkst30 {Q : Exit → Act → World → Prop} {a : Act} {w5 : World} {g : Nat} {x y z u : Nat} {p rest T0 T1 T2 T3 T4 : List UInt8} {a13 a4 a5 : Option Addr} {n13 c13 c4 c5 : Nat} (K : BkCtx a w5 g x y z u p rest T0 T1 T2 T3 T4 a13 a4 a5 n13 c13 c4 c5) (o : Oper) (ho : bkOps[30]? = some o) (k : Nat) : PStep Try.prog bkOps Q (bkF g x y z u p rest T0 T1 T2 T3 T4 a13 a4 a5 n13 c13 c4 c5) a w5.drew ((bkJ g rest T0 T1 T2 T3 T4) k) ((bkJ g rest T0 T1 T2 T3 T4) k) o := by
  obtain ⟨hd, hop, hg⟩ := op_of ho (show _ = some (some 75, .move (.tmp 3), some (27, true)) by kernel_rfl)
  exact ph_move (Want.dep 27 true 72 hg (by kernel_rfl) (Dep.at K.hn ho (by kernel_rfl)) rfl) 75 hd (.tmp 3) hop _ (Ev.old (by kernel_rfl) K.h3) rfl
theorem bkst31 {Q : Exit → Act → World → Prop} {a : Act} {w5 : World} {g : Nat} {x y z u : Nat} {p rest T0 T1 T2 T3 T4 : List UInt8} {a13 a4 a5 : Option Addr} {n13 c13 c4 c5 : Nat} (K : BkCtx a w5 g x y z u p rest T0 T1 T2 T3 T4 a13 a4 a5 n13 c13 c4 c5) (o : Oper) (ho : bkOps[31]? = some o) (k : Nat) : PStep Try.prog bkOps Q (bkF g x y z u p rest T0 T1 T2 T3 T4 a13 a4 a5 n13 c13 c4 c5) a w5.drew ((bkJ g rest T0 T1 T2 T3 T4) k) ((bkJ g rest T0 T1 T2 T3 T4) k) o := by
  obtain ⟨hd, hop, hg⟩ := op_of ho (show _ = some (some 76, .binOp .eql 33 (.tmp 74) (.tmp 75) 33, some (27, true)) by kernel_rfl)
  exact ph_bin (Want.dep 27 true 72 hg (by kernel_rfl) (Dep.at K.hn ho (by kernel_rfl)) rfl) 76 hd .eql 33 33 (.tmp 74) (.tmp 75) hop (.int .u64 (u : Int)) (.int .u64 (u : Int)) (.bool true) (Ev.dep (Dep.at K.hn ho (by kernel_rfl)) rfl) (Ev.dep (Dep.at K.hn ho (by kernel_rfl)) rfl) rfl (fun w' => by go_simp)
theorem bkst32 {Q : Exit → Act → World → Prop} {a : Act} {w5 : World} {g : Nat} {x y z u : Nat} {p rest T0 T1 T2 T3 T4 : List UInt8} {a13 a4 a5 : Option Addr} {n13 c13 c4 c5 : Nat} (K : BkCtx a w5 g x y z u p rest T0 T1 T2 T3 T4 a13 a4 a5 n13 c13 c4 c5) (o : Oper) (ho : bkOps[32]? = some o) (k : Nat) : PStep Try.prog bkOps Q (bkF g x y z u p rest T0 T1 T2 T3 T4 a13 a4 a5 n13 c13 c4 c5) a w5.drew ((bkJ g rest T0 T1 T2 T3 T4) k) ((bkJ g rest T0 T1 T2 T3 T4) k) o := by
  obtain ⟨hd, hop, hg⟩ := op_of ho (show _ = some (some 77, .pick (.tmp 72) (.tmp 76) (.const (.bool false)), none) by kernel_rfl)
  exact ph_pick (Want.plain hg) 77 hd (.tmp 72) (.tmp 76) (.const (.bool false)) hop true (.bool true) (Ev.dep (Dep.at K.hn ho (by kernel_rfl)) rfl) (fun _ => (Ev.dep (Dep.at K.hn ho (by kernel_rfl)) rfl)) (fun h => by cases h) rfl
theorem bkst33 {Q : Exit → Act → World → Prop} {a : Act} {w5 : World} {g : Nat} {x y z u : Nat} {p rest T0 T1 T2 T3 T4 : List UInt8} {a13 a4 a5 : Option Addr} {n13 c13 c4 c5 : Nat} (K : BkCtx a w5 g x y z u p rest T0 T1 T2 T3 T4 a13 a4 a5 n13 c13 c4 c5) (o : Oper) (ho : bkOps[33]? = some o) (k : Nat) : PStep Try.prog bkOps Q (bkF g x y z u p rest T0 T1 T2 T3 T4 a13 a4 a5 n13 c13 c4 c5) a w5.drew ((bkJ g rest T0 T1 T2 T3 T4) k) ((bkJ g rest T0 T1 T2 T3 T4) k) o := by
  obtain ⟨hd, hop, hg⟩ := op_of ho (show _ = some (some 78, .move (.tmp 77), none) by kernel_rfl)
  exact ph_move (Want.plain hg) 78 hd (.tmp 77) hop _ (Ev.dep (Dep.at K.hn ho (by kernel_rfl)) rfl) rfl
theorem bkst34 {Q : Exit → Act → World → Prop} {a : Act} {w5 : World} {g : Nat} {x y z u : Nat} {p rest T0 T1 T2 T3 T4 : List UInt8} {a13 a4 a5 : Option Addr} {n13 c13 c4 c5 : Nat} (K : BkCtx a w5 g x y z u p rest T0 T1 T2 T3 T4 a13 a4 a5 n13 c13 c4 c5) (o : Oper) (ho : bkOps[34]? = some o) (k : Nat) : PStep Try.prog bkOps Q (bkF g x y z u p rest T0 T1 T2 T3 T4 a13 a4 a5 n13 c13 c4 c5) a w5.drew ((bkJ g rest T0 T1 T2 T3 T4) k) ((bkJ g rest T0 T1 T2 T3 T4) k) o := by
  obtain ⟨hd, hop, hg⟩ := op_of ho (show _ = some (some 79, .move (.tmp 15), some (33, true)) by kernel_rfl)
  exact ph_move (Want.dep 33 true 78 hg (by kernel_rfl) (Dep.at K.hn ho (by kernel_rfl)) rfl) 79 hd (.tmp 15) hop _ (Ev.old (by kernel_rfl) K.h15) rfl
theorem bkst35 {Q : Exit → Act → World → Prop} {a : Act} {w5 : World} {g : Nat} {x y z u : Nat} {p rest T0 T1 T2 T3 T4 : List UInt8} {a13 a4 a5 : Option Addr} {n13 c13 c4 c5 : Nat} (K : BkCtx a w5 g x y z u p rest T0 T1 T2 T3 T4 a13 a4 a5 n13 c13 c4 c5) (o : Oper) (ho : bkOps[35]? = some o) : PStep Try.prog bkOps Q (bkF g x y z u p rest T0 T1 T2 T3 T4 a13 a4 a5 n13 c13 c4 c5) a w5.drew ((bkJ g rest T0 T1 T2 T3 T4) 4) ((bkJ g rest T0 T1 T2 T3 T4) 5) o := by
  obtain ⟨hd, hop, hg⟩ := op_of ho (show _ = some (some 80, .call { callee := .value (.func 13), args := #[(.tmp 79), (.const (.int .i64 65535))], argTypes := #[27, 3] }, some (33, true)) by kernel_rfl)
  exact ph_call (Want.dep 33 true 78 hg (by kernel_rfl) (Dep.at K.hn ho (by kernel_rfl)) rfl) 80 hd 13 _ _ hop _ Try.func13 (by kernel_rfl) (by kernel_rfl) #[.pointer (some ⟨g, 0, none⟩), .int .i64 65535] (ev2 (Ev.dep (Dep.at K.hn ho (by kernel_rfl)) rfl) (Ev.const _)) (fun w' hG hJ => (rbytes_any g 65535 T4 0 w' (by decide) K.l4 hJ).mono fun e w'' ⟨v, he, hB, hR, hF⟩ => ⟨v, he, by rw [K.n4] at hB; exact hB, ⟨hF, fun _ _ hb => bytes_fr1 hb hF hJ.noU8⟩, by rw [K.r4, K.z4] at hR; exact hR⟩)
theorem bkst36 {Q : Exit → Act → World → Prop} {a : Act} {w5 : World} {g : Nat} {x y z u : Nat} {p rest T0 T1 T2 T3 T4 : List UInt8} {a13 a4 a5 : Option Addr} {n13 c13 c4 c5 : Nat} (K : BkCtx a w5 g x y z u p rest T0 T1 T2 T3 T4 a13 a4 a5 n13 c13 c4 c5) (o : Oper) (ho : bkOps[36]? = some o) (k : Nat) : PStep Try.prog bkOps Q (bkF g x y z u p rest T0 T1 T2 T3 T4 a13 a4 a5 n13 c13 c4 c5) a w5.drew ((bkJ g rest T0 T1 T2 T3 T4) k) ((bkJ g rest T0 T1 T2 T3 T4) k) o := by
  obtain ⟨hd, hop, hg⟩ := op_of ho (show _ = some (some 81, .convert 23 9 (.tmp 80), some (33, true)) by kernel_rfl)
  exact ph_convstr (Want.dep 33 true 78 hg (by kernel_rfl) (Dep.at K.hn ho (by kernel_rfl)) rfl) 81 80 hd 23 5 9 hop Try.underlying23 Try.underlying5 Try.underlying9 (Dep.at K.hn ho (by kernel_rfl)) p rfl rfl
theorem bkst37 {Q : Exit → Act → World → Prop} {a : Act} {w5 : World} {g : Nat} {x y z u : Nat} {p rest T0 T1 T2 T3 T4 : List UInt8} {a13 a4 a5 : Option Addr} {n13 c13 c4 c5 : Nat} (K : BkCtx a w5 g x y z u p rest T0 T1 T2 T3 T4 a13 a4 a5 n13 c13 c4 c5) (o : Oper) (ho : bkOps[37]? = some o) (k : Nat) : PStep Try.prog bkOps Q (bkF g x y z u p rest T0 T1 T2 T3 T4 a13 a4 a5 n13 c13 c4 c5) a w5.drew ((bkJ g rest T0 T1 T2 T3 T4) k) ((bkJ g rest T0 T1 T2 T3 T4) k) o := by
  obtain ⟨hd, hop, hg⟩ := op_of ho (show _ = some (some 82, .move (.tmp 4), some (33, true)) by kernel_rfl)
  exact ph_move (Want.dep 33 true 78 hg (by kernel_rfl) (Dep.at K.hn ho (by kernel_rfl)) rfl) 82 hd (.tmp 4) hop _ (Ev.old (by kernel_rfl) K.h4) rfl
theorem bkst38 {Q : Exit → Act → World → Prop} {a : Act} {w5 : World} {g : Nat} {x y z u : Nat} {p rest T0 T1 T2 T3 T4 : List UInt8} {a13 a4 a5 : Option Addr} {n13 c13 c4 c5 : Nat} (K : BkCtx a w5 g x y z u p rest T0 T1 T2 T3 T4 a13 a4 a5 n13 c13 c4 c5) (o : Oper) (ho : bkOps[38]? = some o) (k : Nat) : PStep Try.prog bkOps Q (bkF g x y z u p rest T0 T1 T2 T3 T4 a13 a4 a5 n13 c13 c4 c5) a w5.drew ((bkJ g rest T0 T1 T2 T3 T4) k) ((bkJ g rest T0 T1 T2 T3 T4) k) o := by
  obtain ⟨hd, hop, hg⟩ := op_of ho (show _ = some (some 83, .convert 23 9 (.tmp 82), some (33, true)) by kernel_rfl)
  exact ph_conv (Want.dep 33 true 78 hg (by kernel_rfl) (Dep.at K.hn ho (by kernel_rfl)) rfl) 83 hd 23 9 (.tmp 82) hop (.slice a4 p.length c4) (.string ⟨(p).toArray⟩) (Ev.dep (Dep.at K.hn ho (by kernel_rfl)) rfl) rfl (fun w' hG => ((hG.bytes _ _ K.B4)).convert 23 9 5 Try.underlying23 Try.underlying5 Try.underlying9)
theorem bkst39 {Q : Exit → Act → World → Prop} {a : Act} {w5 : World} {g : Nat} {x y z u : Nat} {p rest T0 T1 T2 T3 T4 : List UInt8} {a13 a4 a5 : Option Addr} {n13 c13 c4 c5 : Nat} (K : BkCtx a w5 g x y z u p rest T0 T1 T2 T3 T4 a13 a4 a5 n13 c13 c4 c5) (o : Oper) (ho : bkOps[39]? = some o) (k : Nat) : PStep Try.prog bkOps Q (bkF g x y z u p rest T0 T1 T2 T3 T4 a13 a4 a5 n13 c13 c4 c5) a w5.drew ((bkJ g rest T0 T1 T2 T3 T4) k) ((bkJ g rest T0 T1 T2 T3 T4) k) o := by
  obtain ⟨hd, hop, hg⟩ := op_of ho (show _ = some (some 84, .binOp .eql 9 (.tmp 81) (.tmp 83) 9, some (33, true)) by kernel_rfl)
  exact ph_bin (Want.dep 33 true 78 hg (by kernel_rfl) (Dep.at K.hn ho (by kernel_rfl)) rfl) 84 hd .eql 9 9 (.tmp 81) (.tmp 83) hop (.string ⟨(p).toArray⟩) (.string ⟨(p).toArray⟩) (.bool true) (Ev.dep (Dep.at K.hn ho (by kernel_rfl)) rfl) (Ev.dep (Dep.at K.hn ho (by kernel_rfl)) rfl) rfl (fun w' => by go_simp)
theorem bkst40 {Q : Exit → Act → World → Prop} {a : Act} {w5 : World} {g : Nat} {x y z u : Nat} {p rest T0 T1 T2 T3 T4 : List UInt8} {a13 a4 a5 : Option Addr} {n13 c13 c4 c5 : Nat} (K : BkCtx a w5 g x y z u p rest T0 T1 T2 T3 T4 a13 a4 a5 n13 c13 c4 c5) (o : Oper) (ho : bkOps[40]? = some o) (k : Nat) : PStep Try.prog bkOps Q (bkF g x y z u p rest T0 T1 T2 T3 T4 a13 a4 a5 n13 c13 c4 c5) a w5.drew ((bkJ g rest T0 T1 T2 T3 T4) k) ((bkJ g rest T0 T1 T2 T3 T4) k) o := by
  obtain ⟨hd, hop, hg⟩ := op_of ho (show _ = some (some 85, .pick (.tmp 78) (.tmp 84) (.const (.bool false)), none) by kernel_rfl)
  exact ph_pick (Want.plain hg) 85 hd (.tmp 78) (.tmp 84) (.const (.bool false)) hop true (.bool true) (Ev.dep (Dep.at K.hn ho (by kernel_rfl)) rfl) (fun _ => (Ev.dep (Dep.at K.hn ho (by kernel_rfl)) rfl)) (fun h => by cases h) rfl
theorem bkst41 {Q : Exit → Act → World → Prop} {a : Act} {w5 : World} {g : Nat} {x y z u : Nat} {p rest T0 T1 T2 T3 T4 : List UInt8} {a13 a4 a5 : Option Addr} {n13 c13 c4 c5 : Nat} (K : BkCtx a w5 g x y z u p rest T0 T1 T2 T3 T4 a13 a4 a5 n13 c13 c4 c5) (o : Oper) (ho : bkOps[41]? = some o) (k : Nat) : PStep Try.prog bkOps Q (bkF g x y z u p rest T0 T1 T2 T3 T4 a13 a4 a5 n13 c13 c4 c5) a w5.drew ((bkJ g rest T0 T1 T2 T3 T4) k) ((bkJ g rest T0 T1 T2 T3 T4) k) o := by
  obtain ⟨hd, hop, hg⟩ := op_of ho (show _ = some (some 86, .move (.tmp 85), none) by kernel_rfl)
  exact ph_move (Want.plain hg) 86 hd (.tmp 85) hop _ (Ev.dep (Dep.at K.hn ho (by kernel_rfl)) rfl) rfl
theorem bkst42 {Q : Exit → Act → World → Prop} {a : Act} {w5 : World} {g : Nat} {x y z u : Nat} {p rest T0 T1 T2 T3 T4 : List UInt8} {a13 a4 a5 : Option Addr} {n13 c13 c4 c5 : Nat} (K : BkCtx a w5 g x y z u p rest T0 T1 T2 T3 T4 a13 a4 a5 n13 c13 c4 c5) (o : Oper) (ho : bkOps[42]? = some o) (k : Nat) : PStep Try.prog bkOps Q (bkF g x y z u p rest T0 T1 T2 T3 T4 a13 a4 a5 n13 c13 c4 c5) a w5.drew ((bkJ g rest T0 T1 T2 T3 T4) k) ((bkJ g rest T0 T1 T2 T3 T4) k) o := by
  obtain ⟨hd, hop, hg⟩ := op_of ho (show _ = some (some 87, .move (.tmp 15), some (41, true)) by kernel_rfl)
  exact ph_move (Want.dep 41 true 86 hg (by kernel_rfl) (Dep.at K.hn ho (by kernel_rfl)) rfl) 87 hd (.tmp 15) hop _ (Ev.old (by kernel_rfl) K.h15) rfl
theorem bkst43 {Q : Exit → Act → World → Prop} {a : Act} {w5 : World} {g : Nat} {x y z u : Nat} {p rest T0 T1 T2 T3 T4 : List UInt8} {a13 a4 a5 : Option Addr} {n13 c13 c4 c5 : Nat} (K : BkCtx a w5 g x y z u p rest T0 T1 T2 T3 T4 a13 a4 a5 n13 c13 c4 c5) (o : Oper) (ho : bkOps[43]? = some o) : PStep Try.prog bkOps Q (bkF g x y z u p rest T0 T1 T2 T3 T4 a13 a4 a5 n13 c13 c4 c5) a w5.drew ((bkJ g rest T0 T1 T2 T3 T4) 5) ((bkJ g rest T0 T1 T2 T3 T4) 6) o := by
  obtain ⟨hd, hop, hg⟩ := op_of ho (show _ = some (some 88, .call { callee := .value (.func 16), args := #[(.tmp 87)], argTypes := #[27] }, some (41, true)) by kernel_rfl)
  exact ph_call (Want.dep 41 true 86 hg (by kernel_rfl) (Dep.at K.hn ho (by kernel_rfl)) rfl) 88 hd 16 _ _ hop _ Try.func16 (by kernel_rfl) (by kernel_rfl) #[.pointer (some ⟨g, 0, none⟩)] (ev1 (Ev.dep (Dep.at K.hn ho (by kernel_rfl)) rfl)) (fun w' hG hJ => (left_any g rest 0 w' hJ).mono fun e w'' ⟨he, hw⟩ => ⟨_, he, rfl, by subst hw; exact GB.refl _ _, by subst hw; exact hJ⟩)
theorem bkst44 {Q : Exit → Act → World → Prop} {a : Act} {w5 : World} {g : Nat} {x y z u : Nat} {p rest T0 T1 T2 T3 T4 : List UInt8} {a13 a4 a5 : Option Addr} {n13 c13 c4 c5 : Nat} (K : BkCtx a w5 g x y z u p rest T0 T1 T2 T3 T4 a13 a4 a5 n13 c13 c4 c5) (o : Oper) (ho : bkOps[44]? = some o) (k : Nat) : PStep Try.prog bkOps Q (bkF g x y z u p rest T0 T1 T2 T3 T4 a13 a4 a5 n13 c13 c4 c5) a w5.drew ((bkJ g rest T0 T1 T2 T3 T4) k) ((bkJ g rest T0 T1 T2 T3 T4) k) o := by
  obtain ⟨hd, hop, hg⟩ := op_of ho (show _ = some (some 89, .move (.tmp 5), some (41, true)) by kernel_rfl)
  exact ph_move (Want.dep 41 true 86 hg (by kernel_rfl) (Dep.at K.hn ho (by kernel_rfl)) rfl) 89 hd (.tmp 5) hop _ (Ev.old (by kernel_rfl) K.h5) rfl
theorem bkst45 {Q : Exit → Act → World → Prop} {a : Act} {w5 : World} {g : Nat} {x y z u : Nat} {p rest T0 T1 T2 T3 T4 : List UInt8} {a13 a4 a5 : Option Addr} {n13 c13 c4 c5 : Nat} (K : BkCtx a w5 g x y z u p rest T0 T1 T2 T3 T4 a13 a4 a5 n13 c13 c4 c5) (o : Oper) (ho : bkOps[45]? = some o) (k : Nat) : PStep Try.prog bkOps Q (bkF g x y z u p rest T0 T1 T2 T3 T4 a13 a4 a5 n13 c13 c4 c5) a w5.drew ((bkJ g rest T0 T1 T2 T3 T4) k) ((bkJ g rest T0 T1 T2 T3 T4) k) o := by
  obtain ⟨hd, hop, hg⟩ := op_of ho (show _ = some (some 90, .call { callee := .builtin .len, args := #[(.tmp 89)], argTypes := #[23] }, some (41, true)) by kernel_rfl)
  exact ph_len (Want.dep 41 true 86 hg (by kernel_rfl) (Dep.at K.hn ho (by kernel_rfl)) rfl) 90 hd 23 (.tmp 89) hop (.slice a5 rest.length c5) (.int .i64 (rest.length : Int)) (Ev.dep (Dep.at K.hn ho (by kernel_rfl)) rfl) rfl (fun ρ w' h => by simp [execOp, h, resolve, invoke, builtin]; go_simp)
theorem bkst46 {Q : Exit → Act → World → Prop} {a : Act} {w5 : World} {g : Nat} {x y z u : Nat} {p rest T0 T1 T2 T3 T4 : List UInt8} {a13 a4 a5 : Option Addr} {n13 c13 c4 c5 : Nat} (K : BkCtx a w5 g x y z u p rest T0 T1 T2 T3 T4 a13 a4 a5 n13 c13 c4 c5) (o : Oper) (ho : bkOps[46]? = some o) (k : Nat) : PStep Try.prog bkOps Q (bkF g x y z u p rest T0 T1 T2 T3 T4 a13 a4 a5 n13 c13 c4 c5) a w5.drew ((bkJ g rest T0 T1 T2 T3 T4) k) ((bkJ g rest T0 T1 T2 T3 T4) k) o := by
  obtain ⟨hd, hop, hg⟩ := op_of ho (show _ = some (some 91, .binOp .eql 3 (.tmp 88) (.tmp 90) 3, some (41, true)) by kernel_rfl)
  exact ph_bin (Want.dep 41 true 86 hg (by kernel_rfl) (Dep.at K.hn ho (by kernel_rfl)) rfl) 91 hd .eql 3 3 (.tmp 88) (.tmp 90) hop (.int .i64 (rest.length : Int)) (.int .i64 (rest.length : Int)) (.bool true) (Ev.dep (Dep.at K.hn ho (by kernel_rfl)) rfl) (Ev.dep (Dep.at K.hn ho (by kernel_rfl)) rfl) rfl (fun w' => by go_simp)
theorem bkst47 {Q : Exit → Act → World → Prop} {a : Act} {w5 : World} {g : Nat} {x y z u : Nat} {p rest T0 T1 T2 T3 T4 : List UInt8} {a13 a4 a5 : Option Addr} {n13 c13 c4 c5 : Nat} (K : BkCtx a w5 g x y z u p rest T0 T1 T2 T3 T4 a13 a4 a5 n13 c13 c4 c5) (o : Oper) (ho : bkOps[47]? = some o) (k : Nat) : PStep Try.prog bkOps Q (bkF g x y z u p rest T0 T1 T2 T3 T4 a13 a4 a5 n13 c13 c4 c5) a w5.drew ((bkJ g rest T0 T1 T2 T3 T4) k) ((bkJ g rest T0 T1 T2 T3 T4) k) o := by
  obtain ⟨hd, hop, hg⟩ := op_of ho (show _ = some (some 92, .pick (.tmp 86) (.tmp 91) (.const (.bool false)), none) by kernel_rfl)
  exact ph_pick (Want.plain hg) 92 hd (.tmp 86) (.tmp 91) (.const (.bool false)) hop true (.bool true) (Ev.dep (Dep.at K.hn ho (by kernel_rfl)) rfl) (fun _ => (Ev.dep (Dep.at K.hn ho (by kernel_rfl)) rfl)) (fun h => by cases h) rfl
theorem bkst48 {Q : Exit → Act → World → Prop} {a : Act} {w5 : World} {g : Nat} {x y z u : Nat} {p rest T0 T1 T2 T3 T4 : List UInt8} {a13 a4 a5 : Option Addr} {n13 c13 c4 c5 : Nat} (K : BkCtx a w5 g x y z u p rest T0 T1 T2 T3 T4 a13 a4 a5 n13 c13 c4 c5) (o : Oper) (ho : bkOps[48]? = some o) (k : Nat) : PStep Try.prog bkOps Q (bkF g x y z u p rest T0 T1 T2 T3 T4 a13 a4 a5 n13 c13 c4 c5) a w5.drew ((bkJ g rest T0 T1 T2 T3 T4) k) ((bkJ g rest T0 T1 T2 T3 T4) k) o := by
  obtain ⟨hd, hop, hg⟩ := op_of ho (show _ = some (some 93, .move (.tmp 92), none) by kernel_rfl)
  exact ph_move (Want.plain hg) 93 hd (.tmp 92) hop _ (Ev.dep (Dep.at K.hn ho (by kernel_rfl)) rfl) rfl
theorem bkst49 {Q : Exit → Act → World → Prop} {a : Act} {w5 : World} {g : Nat} {x y z u : Nat} {p rest T0 T1 T2 T3 T4 : List UInt8} {a13 a4 a5 : Option Addr} {n13 c13 c4 c5 : Nat} (K : BkCtx a w5 g x y z u p rest T0 T1 T2 T3 T4 a13 a4 a5 n13 c13 c4 c5) (o : Oper) (ho : bkOps[49]? = some o) (k : Nat) : PStep Try.prog bkOps Q (bkF g x y z u p rest T0 T1 T2 T3 T4 a13 a4 a5 n13 c13 c4 c5) a w5.drew ((bkJ g rest T0 T1 T2 T3 T4) k) ((bkJ g rest T0 T1 T2 T3 T4) k) o := by
  obtain ⟨hd, hop, hg⟩ := op_of ho (show _ = some (some 94, .move (.tmp 15), some (48, true)) by kernel_rfl)
  exact ph_move (Want.dep 48 true 93 hg (by kernel_rfl) (Dep.at K.hn ho (by kernel_rfl)) rfl) 94 hd (.tmp 15) hop _ (Ev.old (by kernel_rfl) K.h15) rfl
theorem bkst50 {Q : Exit → Act → World → Prop} {a : Act} {w5 : World} {g : Nat} {x y z u : Nat} {p rest T0 T1 T2 T3 T4 : List UInt8} {a13 a4 a5 : Option Addr} {n13 c13 c4 c5 : Nat} (K : BkCtx a w5 g x y z u p rest T0 T1 T2 T3 T4 a13 a4 a5 n13 c13 c4 c5) (o : Oper) (ho : bkOps[50]? = some o) (k : Nat) : PStep Try.prog bkOps Q (bkF g x y z u p rest T0 T1 T2 T3 T4 a13 a4 a5 n13 c13 c4 c5) a w5.drew ((bkJ g rest T0 T1 T2 T3 T4) k) ((bkJ g rest T0 T1 T2 T3 T4) k) o := by
  obtain ⟨hd, hop, hg⟩ := op_of ho (show _ = some (some 95, .move (.tmp 5), some (48, true)) by kernel_rfl)
  exact ph_move (Want.dep 48 true 93 hg (by kernel_rfl) (Dep.at K.hn ho (by kernel_rfl)) rfl) 95 hd (.tmp 5) hop _ (Ev.old (by kernel_rfl) K.h5) rfl
theorem bkst51 {Q : Exit → Act → World → Prop} {a : Act} {w5 : World} {g : Nat} {x y z u : Nat} {p rest T0 T1 T2 T3 T4 : List UInt8} {a13 a4 a5 : Option Addr} {n13 c13 c4 c5 : Nat} (K : BkCtx a w5 g x y z u p rest T0 T1 T2 T3 T4 a13 a4 a5 n13 c13 c4 c5) (o : Oper) (ho : bkOps[51]? = some o) (k : Nat) : PStep Try.prog bkOps Q (bkF g x y z u p rest T0 T1 T2 T3 T4 a13 a4 a5 n13 c13 c4 c5) a w5.drew ((bkJ g rest T0 T1 T2 T3 T4) k) ((bkJ g rest T0 T1 T2 T3 T4) k) o := by
  obtain ⟨hd, hop, hg⟩ := op_of ho (show _ = some (some 96, .call { callee := .builtin .len, args := #[(.tmp 95)], argTypes := #[23] }, some (48, true)) by kernel_rfl)
  exact ph_len (Want.dep 48 true 93 hg (by kernel_rfl) (Dep.at K.hn ho (by kernel_rfl)) rfl) 96 hd 23 (.tmp 95) hop (.slice a5 rest.length c5) (.int .i64 (rest.length : Int)) (Ev.dep (Dep.at K.hn ho (by kernel_rfl)) rfl) rfl (fun ρ w' h => by simp [execOp, h, resolve, invoke, builtin]; go_simp)
theorem bkst52 {Q : Exit → Act → World → Prop} {a : Act} {w5 : World} {g : Nat} {x y z u : Nat} {p rest T0 T1 T2 T3 T4 : List UInt8} {a13 a4 a5 : Option Addr} {n13 c13 c4 c5 : Nat} (K : BkCtx a w5 g x y z u p rest T0 T1 T2 T3 T4 a13 a4 a5 n13 c13 c4 c5) (o : Oper) (ho : bkOps[52]? = some o) : PStep Try.prog bkOps Q (bkF g x y z u p rest T0 T1 T2 T3 T4 a13 a4 a5 n13 c13 c4 c5) a w5.drew ((bkJ g rest T0 T1 T2 T3 T4) 6) ((bkJ g rest T0 T1 T2 T3 T4) 7) o := by
  obtain ⟨hd, hop, hg⟩ := op_of ho (show _ = some (some 97, .call { callee := .value (.func 17), args := #[(.tmp 94), (.tmp 96)], argTypes := #[27, 3] }, some (48, true)) by kernel_rfl)
  exact ph_call (Want.dep 48 true 93 hg (by kernel_rfl) (Dep.at K.hn ho (by kernel_rfl)) rfl) 97 hd 17 _ _ hop _ Try.func17 (by kernel_rfl) (by kernel_rfl) #[.pointer (some ⟨g, 0, none⟩), .int .i64 (rest.length : Int)] (ev2 (Ev.dep (Dep.at K.hn ho (by kernel_rfl)) rfl) (Ev.dep (Dep.at K.hn ho (by kernel_rfl)) rfl)) (fun w' hG hJ => (take_any g (rest.length : Int) rest 0 w' K.l6 K.l5 hJ).mono fun e w'' ⟨v, he, hB, hR, hF⟩ => ⟨v, he, by rw [K.n6] at hB; exact hB, ⟨hF, fun _ _ hb => bytes_fr1 hb hF hJ.noU8⟩, by rw [K.r6, K.z6] at hR; exact hR⟩)
theorem bkst53 {Q : Exit → Act → World → Prop} {a : Act} {w5 : World} {g : Nat} {x y z u : Nat} {p rest T0 T1 T2 T3 T4 : List UInt8} {a13 a4 a5 : Option Addr} {n13 c13 c4 c5 : Nat} (K : BkCtx a w5 g x y z u p rest T0 T1 T2 T3 T4 a13 a4 a5 n13 c13 c4 c5) (o : Oper) (ho : bkOps[53]? = some o) (k : Nat) : PStep Try.prog bkOps Q (bkF g x y z u p rest T0 T1 T2 T3 T4 a13 a4 a5 n13 c13 c4 c5) a w5.drew ((bkJ g rest T0 T1 T2 T3 T4) k) ((bkJ g rest T0 T1 T2 T3 T4) k) o := by
  obtain ⟨hd, hop, hg⟩ := op_of ho (show _ = some (some 98, .convert 23 9 (.tmp 97), some (48, true)) by kernel_rfl)
  exact ph_convstr (Want.dep 48 true 93 hg (by kernel_rfl) (Dep.at K.hn ho (by kernel_rfl)) rfl) 98 97 hd 23 5 9 hop Try.underlying23 Try.underlying5 Try.underlying9 (Dep.at K.hn ho (by kernel_rfl)) rest rfl rfl
theorem bkst54 {Q : Exit → Act → World → Prop} {a : Act} {w5 : World} {g : Nat} {x y z u : Nat} {p rest T0 T1 T2 T3 T4 : List UInt8} {a13 a4 a5 : Option Addr} {n13 c13 c4 c5 : Nat} (K : BkCtx a w5 g x y z u p rest T0 T1 T2 T3 T4 a13 a4 a5 n13 c13 c4 c5) (o : Oper) (ho : bkOps[54]? = some o) (k : Nat) : PStep Try.prog bkOps Q (bkF g x y z u p rest T0 T1 T2 T3 T4 a13 a4 a5 n13 c13 c4 c5) a w5.drew ((bkJ g rest T0 T1 T2 T3 T4) k) ((bkJ g rest T0 T1 T2 T3 T4) k) o := by
  obtain ⟨hd, hop, hg⟩ := op_of ho (show _ = some (some 99, .move (.tmp 5), some (48, true)) by kernel_rfl)
  exact ph_move (Want.dep 48 true 93 hg (by kernel_rfl) (Dep.at K.hn ho (by kernel_rfl)) rfl) 99 hd (.tmp 5) hop _ (Ev.old (by kernel_rfl) K.h5) rfl
theorem bkst55 {Q : Exit → Act → World → Prop} {a : Act} {w5 : World} {g : Nat} {x y z u : Nat} {p rest T0 T1 T2 T3 T4 : List UInt8} {a13 a4 a5 : Option Addr} {n13 c13 c4 c5 : Nat} (K : BkCtx a w5 g x y z u p rest T0 T1 T2 T3 T4 a13 a4 a5 n13 c13 c4 c5) (o : Oper) (ho : bkOps[55]? = some o) (k : Nat) : PStep Try.prog bkOps Q (bkF g x y z u p rest T0 T1 T2 T3 T4 a13 a4 a5 n13 c13 c4 c5) a w5.drew ((bkJ g rest T0 T1 T2 T3 T4) k) ((bkJ g rest T0 T1 T2 T3 T4) k) o := by
  obtain ⟨hd, hop, hg⟩ := op_of ho (show _ = some (some 100, .convert 23 9 (.tmp 99), some (48, true)) by kernel_rfl)
  exact ph_conv (Want.dep 48 true 93 hg (by kernel_rfl) (Dep.at K.hn ho (by kernel_rfl)) rfl) 100 hd 23 9 (.tmp 99) hop (.slice a5 rest.length c5) (.string ⟨(rest).toArray⟩) (Ev.dep (Dep.at K.hn ho (by kernel_rfl)) rfl) rfl (fun w' hG => ((hG.bytes _ _ K.B5)).convert 23 9 5 Try.underlying23 Try.underlying5 Try.underlying9)
theorem bkst56 {Q : Exit → Act → World → Prop} {a : Act} {w5 : World} {g : Nat} {x y z u : Nat} {p rest T0 T1 T2 T3 T4 : List UInt8} {a13 a4 a5 : Option Addr} {n13 c13 c4 c5 : Nat} (K : BkCtx a w5 g x y z u p rest T0 T1 T2 T3 T4 a13 a4 a5 n13 c13 c4 c5) (o : Oper) (ho : bkOps[56]? = some o) (k : Nat) : PStep Try.prog bkOps Q (bkF g x y z u p rest T0 T1 T2 T3 T4 a13 a4 a5 n13 c13 c4 c5) a w5.drew ((bkJ g rest T0 T1 T2 T3 T4) k) ((bkJ g rest T0 T1 T2 T3 T4) k) o := by
  obtain ⟨hd, hop, hg⟩ := op_of ho (show _ = some (some 101, .binOp .eql 9 (.tmp 98) (.tmp 100) 9, some (48, true)) by kernel_rfl)
  exact ph_bin (Want.dep 48 true 93 hg (by kernel_rfl) (Dep.at K.hn ho (by kernel_rfl)) rfl) 101 hd .eql 9 9 (.tmp 98) (.tmp 100) hop (.string ⟨(rest).toArray⟩) (.string ⟨(rest).toArray⟩) (.bool true) (Ev.dep (Dep.at K.hn ho (by kernel_rfl)) rfl) (Ev.dep (Dep.at K.hn ho (by kernel_rfl)) rfl) rfl (fun w' => by go_simp)
theorem bkst57 {Q : Exit → Act → World → Prop} {a : Act} {w5 : World} {g : Nat} {x y z u : Nat} {p rest T0 T1 T2 T3 T4 : List UInt8} {a13 a4 a5 : Option Addr} {n13 c13 c4 c5 : Nat} (K : BkCtx a w5 g x y z u p rest T0 T1 T2 T3 T4 a13 a4 a5 n13 c13 c4 c5) (o : Oper) (ho : bkOps[57]? = some o) (k : Nat) : PStep Try.prog bkOps Q (bkF g x y z u p rest T0 T1 T2 T3 T4 a13 a4 a5 n13 c13 c4 c5) a w5.drew ((bkJ g rest T0 T1 T2 T3 T4) k) ((bkJ g rest T0 T1 T2 T3 T4) k) o := by
  obtain ⟨hd, hop, hg⟩ := op_of ho (show _ = some (some 102, .pick (.tmp 93) (.tmp 101) (.const (.bool false)), none) by kernel_rfl)
  exact ph_pick (Want.plain hg) 102 hd (.tmp 93) (.tmp 101) (.const (.bool false)) hop true (.bool true) (Ev.dep (Dep.at K.hn ho (by kernel_rfl)) rfl) (fun _ => (Ev.dep (Dep.at K.hn ho (by kernel_rfl)) rfl)) (fun h => by cases h) rfl
theorem bkst58 {Q : Exit → Act → World → Prop} {a : Act} {w5 : World} {g : Nat} {x y z u : Nat} {p rest T0 T1 T2 T3 T4 : List UInt8} {a13 a4 a5 : Option Addr} {n13 c13 c4 c5 : Nat} (K : BkCtx a w5 g x y z u p rest T0 T1 T2 T3 T4 a13 a4 a5 n13 c13 c4 c5) (o : Oper) (ho : bkOps[58]? = some o) (k : Nat) : PStep Try.prog bkOps Q (bkF g x y z u p rest T0 T1 T2 T3 T4 a13 a4 a5 n13 c13 c4 c5) a w5.drew ((bkJ g rest T0 T1 T2 T3 T4) k) ((bkJ g rest T0 T1 T2 T3 T4) k) o := by
  obtain ⟨hd, hop, hg⟩ := op_of ho (show _ = some (some 103, .move (.tmp 102), none) by kernel_rfl)
  exact ph_move (Want.plain hg) 103 hd (.tmp 102) hop _ (Ev.dep (Dep.at K.hn ho (by kernel_rfl)) rfl) rfl
theorem bkst59 {Q : Exit → Act → World → Prop} {a : Act} {w5 : World} {g : Nat} {x y z u : Nat} {p rest T0 T1 T2 T3 T4 : List UInt8} {a13 a4 a5 : Option Addr} {n13 c13 c4 c5 : Nat} (K : BkCtx a w5 g x y z u p rest T0 T1 T2 T3 T4 a13 a4 a5 n13 c13 c4 c5) (o : Oper) (ho : bkOps[59]? = some o) (k : Nat) : PStep Try.prog bkOps Q (bkF g x y z u p rest T0 T1 T2 T3 T4 a13 a4 a5 n13 c13 c4 c5) a w5.drew ((bkJ g rest T0 T1 T2 T3 T4) k) ((bkJ g rest T0 T1 T2 T3 T4) k) o := by
  obtain ⟨hd, hop, hg⟩ := op_of ho (show _ = some (some 104, .move (.tmp 15), some (58, true)) by kernel_rfl)
  exact ph_move (Want.dep 58 true 103 hg (by kernel_rfl) (Dep.at K.hn ho (by kernel_rfl)) rfl) 104 hd (.tmp 15) hop _ (Ev.old (by kernel_rfl) K.h15) rfl
theorem bkst60 {Q : Exit → Act → World → Prop} {a : Act} {w5 : World} {g : Nat} {x y z u : Nat} {p rest T0 T1 T2 T3 T4 : List UInt8} {a13 a4 a5 : Option Addr} {n13 c13 c4 c5 : Nat} (K : BkCtx a w5 g x y z u p rest T0 T1 T2 T3 T4 a13 a4 a5 n13 c13 c4 c5) (o : Oper) (ho : bkOps[60]? = some o) : PStep Try.prog bkOps Q (bkF g x y z u p rest T0 T1 T2 T3 T4 a13 a4 a5 n13 c13 c4 c5) a w5.drew ((bkJ g rest T0 T1 T2 T3 T4) 7) ((bkJ g rest T0 T1 T2 T3 T4) 8) o := by
  obtain ⟨hd, hop, hg⟩ := op_of ho (show _ = some (some 105, .call { callee := .value (.func 14), args := #[(.tmp 104)], argTypes := #[27] }, some (58, true)) by kernel_rfl)
  exact ph_call (Want.dep 58 true 103 hg (by kernel_rfl) (Dep.at K.hn ho (by kernel_rfl)) rfl) 105 hd 14 _ _ hop _ Try.func14 (by kernel_rfl) (by kernel_rfl) #[.pointer (some ⟨g, 0, none⟩)] (ev1 (Ev.dep (Dep.at K.hn ho (by kernel_rfl)) rfl)) (fun w' hG hJ => (err_any g [] 0 w' hJ).mono fun e w'' ⟨he, hw⟩ => ⟨_, he, rfl, by subst hw; exact GB.refl _ _, by subst hw; exact hJ⟩)
theorem bkst61 {Q : Exit → Act → World → Prop} {a : Act} {w5 : World} {g : Nat} {x y z u : Nat} {p rest T0 T1 T2 T3 T4 : List UInt8} {a13 a4 a5 : Option Addr} {n13 c13 c4 c5 : Nat} (K : BkCtx a w5 g x y z u p rest T0 T1 T2 T3 T4 a13 a4 a5 n13 c13 c4 c5) (o : Oper) (ho : bkOps[61]? = some o) (k : Nat) : PStep Try.prog bkOps Q (bkF g x y z u p rest T0 T1 T2 T3 T4 a13 a4 a5 n13 c13 c4 c5) a w5.drew ((bkJ g rest T0 T1 T2 T3 T4) k) ((bkJ g rest T0 T1 T2 T3 T4) k) o := by
  obtain ⟨hd, hop, hg⟩ := op_of ho (show _ = some (some 106, .binOp .eql 31 (.tmp 105) (.const (.int .i64 0)) 31, some (58, true)) by kernel_rfl)
  exact ph_bin (Want.dep 58 true 103 hg (by kernel_rfl) (Dep.at K.hn ho (by kernel_rfl)) rfl) 106 hd .eql 31 31 (.tmp 105) (.const (.int .i64 0)) hop (.int .i64 0) (.int .i64 0) (.bool true) (Ev.dep (Dep.at K.hn ho (by kernel_rfl)) rfl) (Ev.const _) rfl (fun w' => by go_simp)
theorem bkst62 {Q : Exit → Act → World → Prop} {a : Act} {w5 : World} {g : Nat} {x y z u : Nat} {p rest T0 T1 T2 T3 T4 : List UInt8} {a13 a4 a5 : Option Addr} {n13 c13 c4 c5 : Nat} (K : BkCtx a w5 g x y z u p rest T0 T1 T2 T3 T4 a13 a4 a5 n13 c13 c4 c5) (o : Oper) (ho : bkOps[62]? = some o) (k : Nat) : PStep Try.prog bkOps Q (bkF g x y z u p rest T0 T1 T2 T3 T4 a13 a4 a5 n13 c13 c4 c5) a w5.drew ((bkJ g rest T0 T1 T2 T3 T4) k) ((bkJ g rest T0 T1 T2 T3 T4) k) o := by
  obtain ⟨hd, hop, hg⟩ := op_of ho (show _ = some (some 107, .pick (.tmp 103) (.tmp 106) (.const (.bool false)), none) by kernel_rfl)
  exact ph_pick (Want.plain hg) 107 hd (.tmp 103) (.tmp 106) (.const (.bool false)) hop true (.bool true) (Ev.dep (Dep.at K.hn ho (by kernel_rfl)) rfl) (fun _ => (Ev.dep (Dep.at K.hn ho (by kernel_rfl)) rfl)) (fun h => by cases h) rfl
theorem bkst63 {Q : Exit → Act → World → Prop} {a : Act} {w5 : World} {g : Nat} {x y z u : Nat} {p rest T0 T1 T2 T3 T4 : List UInt8} {a13 a4 a5 : Option Addr} {n13 c13 c4 c5 : Nat} (K : BkCtx a w5 g x y z u p rest T0 T1 T2 T3 T4 a13 a4 a5 n13 c13 c4 c5) (o : Oper) (ho : bkOps[63]? = some o) (k : Nat) : PStep Try.prog bkOps Q (bkF g x y z u p rest T0 T1 T2 T3 T4 a13 a4 a5 n13 c13 c4 c5) a w5.drew ((bkJ g rest T0 T1 T2 T3 T4) k) ((bkJ g rest T0 T1 T2 T3 T4) k) o := by
  obtain ⟨hd, hop, hg⟩ := op_of ho (show _ = some (some 12, .assign (.tmp 107), none) by kernel_rfl)
  exact ph_assign (Want.plain hg) 12 hd (.tmp 107) hop _ (Ev.dep (Dep.at K.hn ho (by kernel_rfl)) rfl) rfl
theorem bkLen : bkOps.length = 64 := by kernel_rfl
theorem bk_region {Q : Exit → Act → World → Prop} {id : Nat} {a : Act} {w5 : World} {g : Nat} {x y z u : Nat} {p rest T0 T1 T2 T3 T4 : List UInt8} {a13 a4 a5 : Option Addr} {n13 c13 c4 c5 : Nat} (K : BkCtx a w5 g x y z u p rest T0 T1 T2 T3 T4 a13 a4 a5 n13 c13 c4 c5) (h0 : (bkJ g rest T0 T1 T2 T3 T4) 0 w5.drew)
    (hQ : ∀ (a' : Act) (w' : World), GB (fun k => k = g) w5 w' → (bkJ g rest T0 T1 T2 T3 T4) 8 w' → a'.defers = a.defers → a'.eval (.tmp 12) = .bool true → Q .normal a' w') : (Code.region id bkOps.toArray true).wp Try.prog Q a w5 := by
  refine region_phase (bkF g x y z u p rest T0 T1 T2 T3 T4 a13 a4 a5 n13 c13 c4 c5) (bkJ g rest T0 T1 T2 T3 T4) [11, 17, 23, 29, 35, 43, 52, 60] (by kernel_rfl) (by kernel_rfl) (by rw [K.hn]; kernel_rfl) (by kernel_rfl) h0 (fun i o ho hni k hk => ?_) (fun k i o hk ho => ?_) (by rw [bkLen]; decide) (fun vals w' hF hJ hv => ?_)
  · have hi : i < 64 := by rw [← bkLen]; exact (List.getElem?_eq_some_iff.1 ho).1
    match i, hi, ho with
    | 0, _, ho => exact bkst0 K o ho k
    | 1, _, ho => exact bkst1 K o ho k
    | 2, _, ho => exact bkst2 K o ho k
    | 3, _, ho => exact bkst3 K o ho k
    | 4, _, ho => exact bkst4 K o ho k
    | 5, _, ho => exact bkst5 K o ho k
    | 6, _, ho => exact bkst6 K o ho k
    | 7, _, ho => exact bkst7 K o ho k
    | 8, _, ho => exact bkst8 K o ho k
    | 9, _, ho => exact bkst9 K o ho k
    | 10, _, ho => exact bkst10 K o ho k
    | 11, _, ho => exact absurd (by decide) hni
    | 12, _, ho => exact bkst12 K o ho k
    | 13, _, ho => exact bkst13 K o ho k
    | 14, _, ho => exact bkst14 K o ho k
    | 15, _, ho => exact bkst15 K o ho k
    | 16, _, ho => exact bkst16 K o ho k
    | 17, _, ho => exact absurd (by decide) hni
    | 18, _, ho => exact bkst18 K o ho k
    | 19, _, ho => exact bkst19 K o ho k
    | 20, _, ho => exact bkst20 K o ho k
    | 21, _, ho => exact bkst21 K o ho k
    | 22, _, ho => exact bkst22 K o ho k
    | 23, _, ho => exact absurd (by decide) hni
    | 24, _, ho => exact bkst24 K o ho k
    | 25, _, ho => exact bkst25 K o ho k
    | 26, _, ho => exact bkst26 K o ho k
    | 27, _, ho => exact bkst27 K o ho k
    | 28, _, ho => exact bkst28 K o ho k
    | 29, _, ho => exact absurd (by decide) hni
    | 30, _, ho => exact bkst30 K o ho k
    | 31, _, ho => exact bkst31 K o ho k
    | 32, _, ho => exact bkst32 K o ho k
    | 33, _, ho => exact bkst33 K o ho k
    | 34, _, ho => exact bkst34 K o ho k
    | 35, _, ho => exact absurd (by decide) hni
    | 36, _, ho => exact bkst36 K o ho k
    | 37, _, ho => exact bkst37 K o ho k
    | 38, _, ho => exact bkst38 K o ho k
    | 39, _, ho => exact bkst39 K o ho k
    | 40, _, ho => exact bkst40 K o ho k
    | 41, _, ho => exact bkst41 K o ho k
    | 42, _, ho => exact bkst42 K o ho k
    | 43, _, ho => exact absurd (by decide) hni
    | 44, _, ho => exact bkst44 K o ho k
    | 45, _, ho => exact bkst45 K o ho k
    | 46, _, ho => exact bkst46 K o ho k
    | 47, _, ho => exact bkst47 K o ho k
    | 48, _, ho => exact bkst48 K o ho k
    | 49, _, ho => exact bkst49 K o ho k
    | 50, _, ho => exact bkst50 K o ho k
    | 51, _, ho => exact bkst51 K o ho k
    | 52, _, ho => exact absurd (by decide) hni
    | 53, _, ho => exact bkst53 K o ho k
    | 54, _, ho => exact bkst54 K o ho k
    | 55, _, ho => exact bkst55 K o ho k
    | 56, _, ho => exact bkst56 K o ho k
    | 57, _, ho => exact bkst57 K o ho k
    | 58, _, ho => exact bkst58 K o ho k
    | 59, _, ho => exact bkst59 K o ho k
    | 60, _, ho => exact absurd (by decide) hni
    | 61, _, ho => exact bkst61 K o ho k
    | 62, _, ho => exact bkst62 K o ho k
    | 63, _, ho => exact bkst63 K o ho k
  · match k, hk with
    | 0, hk =>
      obtain rfl : 11 = i := Option.some.inj hk
      exact bkst11 K o ho
    | 1, hk =>
      obtain rfl : 17 = i := Option.some.inj hk
      exact bkst17 K o ho
    | 2, hk =>
      obtain rfl : 23 = i := Option.some.inj hk
      exact bkst23 K o ho
    | 3, hk =>
      obtain rfl : 29 = i := Option.some.inj hk
      exact bkst29 K o ho
    | 4, hk =>
      obtain rfl : 35 = i := Option.some.inj hk
      exact bkst35 K o ho
    | 5, hk =>
      obtain rfl : 43 = i := Option.some.inj hk
      exact bkst43 K o ho
    | 6, hk =>
      obtain rfl : 52 = i := Option.some.inj hk
      exact bkst52 K o ho
    | 7, hk =>
      obtain rfl : 60 = i := Option.some.inj hk
      exact bkst60 K o ho
    | k + 8, hk => simp at hk
  · refine hQ _ w' (GB.trans (GB.of_fr0 ((Fr.refl _ _).drew)) hF) hJ rfl  ?_
    · have hm : (12 : Nat) ∈ dsts bkOps := List.contains_iff_mem.1 (by kernel_rfl)
      rw [frm_eval a _ vals 12 hm (by rw [K.hn]; decide)]
      exact hv 12 hm
end Go.Proofs.Ytheednoklgccdaa.Pack
