/-
  The reference's schedule, a word a round: the branch of Sum's rounds beyond the sixteenth, cut out (made by wip/tools/mkref.py).
-/
import Derived.Test.YteafnknghnhlgaaDoorRefW
import Derived.BigQuiet
namespace Go.Proofs.YteafnknghnhlgaaDoor.Sha
open Go.RowKit Base

def condOf (t : Nat) : Code → Option Code
  | .cond (.tmp k) a b => if k = t then some a else match condOf t a with
    | some c => some c
    | none => condOf t b
  | .seq a b => match condOf t a with
    | some c => some c
    | none => condOf t b
  | .loop c => condOf t c
  | .block _ c => condOf t c
  | _ => none
noncomputable def hiCode : Code := ((Tryd.f30.body.bind (condOf 103)).getD .skip)

/-- it ends as it should, and in no other way -/
def Only (K : Act → World → Prop) : Exit → Act → World → Prop := fun e a w => match e with
  | .normal => K a w
  | _ => False
theorem quiet_eq2 {P : Program} {f : FuncId} {args : Array Value} {w : World} {k n : Nat} {v : Value} (h : Calls P f args (w.drewN (k + n)) fun e w' => e = .returned v ∧ w.drewN (k + n) = w') :
    Calls P f args (w.drewN (k + n)) fun e w'' => e = .returned v ∧ ∃ m, w'' = w.drewN (k + m) :=
  h.mono fun _ _ ⟨he, hm⟩ => ⟨he, n, hm.symm⟩
set_option maxHeartbeats 4000000 in
set_option maxRecDepth 1000000 in
theorem hi_step (B : Nat → Int) (k g cap base : Nat) (h15 : 15 < k) (h64 : k < 64) (w : World) (K0 : Act → World → Prop)
    (hown : w.ownsRow base 59 1 (.slice (some ⟨g, 0, none⟩) k cap) k ((sch B k).map (.int .u32))) (hbase : base ≤ w.heap.size)
    (c0 c1 c2 c3 c4 c5 c7 c8 c9 c10 c11 c12 c13 c14 c15 c17 c18 c19 c20 c21 c22 c23 c24 c25 c26 c27 c28 c29 c30 c31 c32 c33 c34 c35 c36 c37 c38 c39 c40 c41 c42 c43 c44 c45 c46 c47 c48 c49 c50 c51 c52 c53 c54 c55 c56 c57 c58 c59 c60 c61 c62 c63 c64 c65 c66 c67 c68 c69 c70 c71 c72 c73 c74 c75 c76 c77 c78 c79 c80 c81 c82 c83 c84 c85 c86 c87 c88 c89 c90 c91 c92 c93 c94 c95 c96 c97 c98 c99 c100 c101 c102 c103 c104 c105 c106 c107 c108 c109 c110 c111 c112 c113 c114 c115 c116 c117 c118 c119 c120 c121 c122 c123 c124 c125 c126 c127 c128 c129 c130 c131 c132 c133 c134 c135 c136 c137 c138 c139 c140 c141 c142 c143 c144 c145 c146 c147 c148 c149 c150 c151 c152 c153 c154 c155 c156 c157 c158 c159 c160 c161 c162 c163 c164 c165 c166 c167 c168 c169 c170 c171 c172 c173 c174 c175 c176 c177 c178 c179 c180 c181 c182 c183 c184 c185 c186 c187 c188 c189 c190 c191 c192 c193 c194 c195 c196 c197 c198 c199 c200 c201 c202 c203 c204 c205 c206 c207 c208 c209 c210 c211 c212 c213 c214 c215 c216 c217 c218 c219 c220 c221 c222 c223 c224 c225 c226 c227 c228 c229 c230 c231 c232 c233 c234 c235 c236 c237 c238 c239 c240 c241 c242 c243 c244 c245 c246 c247 c248 c249 c250 c251 c252 c253 c254 c255 c256 c257 c258 c259 c260 c261 c262 : Value)
    (hQ : ∀ (g' cap' : Nat) (u17 u18 u104 u105 u106 u107 u108 u109 u110 u111 u112 u113 u114 u115 u116 u117 u118 u119 u120 u121 u122 u123 u124 u125 u126 u127 u128 u129 u130 u131 u132 u133 u134 u135 u136 u137 u138 u139 u140 u141 u142 u143 u144 u145 u146 u147 u148 u149 u150 u151 u152 u153 u154 u155 u156 u157 u158 u159 u160 u161 : Value) (w2 : World), w2.ownsRow base 59 1 (.slice (some ⟨g', 0, none⟩) (k + 1) cap') (k + 1) ((sch B (k + 1)).map (.int .u32)) → Fr (fun b => base ≤ b) w w2 →
      K0 ⟨#[c0, c1, c2, c3, c4, c5, (.slice (some ⟨g', 0, none⟩) (k + 1) cap'), c7, c8, c9, c10, c11, c12, c13, c14, c15, (.int .i64 (k : Int)), u17, u18, c19, c20, c21, c22, c23, c24, c25, c26, c27, c28, c29, c30, c31, c32, c33, c34, c35, c36, c37, c38, c39, c40, c41, c42, c43, c44, c45, c46, c47, c48, c49, c50, c51, c52, c53, c54, c55, c56, c57, c58, c59, c60, c61, c62, c63, c64, c65, c66, c67, c68, c69, c70, c71, c72, c73, c74, c75, c76, c77, c78, c79, c80, c81, c82, c83, c84, c85, c86, c87, c88, c89, c90, c91, c92, c93, c94, c95, c96, c97, c98, c99, c100, c101, c102, c103, u104, u105, u106, u107, u108, u109, u110, u111, u112, u113, u114, u115, u116, u117, u118, u119, u120, u121, u122, u123, u124, u125, u126, u127, u128, u129, u130, u131, u132, u133, u134, u135, u136, u137, u138, u139, u140, u141, u142, u143, u144, u145, u146, u147, u148, u149, u150, u151, u152, u153, u154, u155, u156, u157, u158, u159, u160, u161, c162, c163, c164, c165, c166, c167, c168, c169, c170, c171, c172, c173, c174, c175, c176, c177, c178, c179, c180, c181, c182, c183, c184, c185, c186, c187, c188, c189, c190, c191, c192, c193, c194, c195, c196, c197, c198, c199, c200, c201, c202, c203, c204, c205, c206, c207, c208, c209, c210, c211, c212, c213, c214, c215, c216, c217, c218, c219, c220, c221, c222, c223, c224, c225, c226, c227, c228, c229, c230, c231, c232, c233, c234, c235, c236, c237, c238, c239, c240, c241, c242, c243, c244, c245, c246, c247, c248, c249, c250, c251, c252, c253, c254, c255, c256, c257, c258, c259, c260, c261, c262], []⟩ w2) :
    Code.wp Tryd.prog hiCode (Only K0) ⟨#[c0, c1, c2, c3, c4, c5, (.slice (some ⟨g, 0, none⟩) k cap), c7, c8, c9, c10, c11, c12, c13, c14, c15, (.int .i64 (k : Int)), c17, c18, c19, c20, c21, c22, c23, c24, c25, c26, c27, c28, c29, c30, c31, c32, c33, c34, c35, c36, c37, c38, c39, c40, c41, c42, c43, c44, c45, c46, c47, c48, c49, c50, c51, c52, c53, c54, c55, c56, c57, c58, c59, c60, c61, c62, c63, c64, c65, c66, c67, c68, c69, c70, c71, c72, c73, c74, c75, c76, c77, c78, c79, c80, c81, c82, c83, c84, c85, c86, c87, c88, c89, c90, c91, c92, c93, c94, c95, c96, c97, c98, c99, c100, c101, c102, c103, c104, c105, c106, c107, c108, c109, c110, c111, c112, c113, c114, c115, c116, c117, c118, c119, c120, c121, c122, c123, c124, c125, c126, c127, c128, c129, c130, c131, c132, c133, c134, c135, c136, c137, c138, c139, c140, c141, c142, c143, c144, c145, c146, c147, c148, c149, c150, c151, c152, c153, c154, c155, c156, c157, c158, c159, c160, c161, c162, c163, c164, c165, c166, c167, c168, c169, c170, c171, c172, c173, c174, c175, c176, c177, c178, c179, c180, c181, c182, c183, c184, c185, c186, c187, c188, c189, c190, c191, c192, c193, c194, c195, c196, c197, c198, c199, c200, c201, c202, c203, c204, c205, c206, c207, c208, c209, c210, c211, c212, c213, c214, c215, c216, c217, c218, c219, c220, c221, c222, c223, c224, c225, c226, c227, c228, c229, c230, c231, c232, c233, c234, c235, c236, c237, c238, c239, c240, c241, c242, c243, c244, c245, c246, c247, c248, c249, c250, c251, c252, c253, c254, c255, c256, c257, c258, c259, c260, c261, c262], []⟩ w := by
  have HOWN := Lib.hid hown
  have hcells : ∀ i, i < k → w.cell? ⟨g, i, none⟩ = some (.int .u32 (W B i)) := fun i hi => by
    rw [HOWN.out.cellAt i (by omega)]
    exact words_get _ k i hi (by omega)
  clear hown
  have e15 := hcells (k - 15) (by omega)
  have e2 := hcells (k - 2) (by omega)
  have e16 := hcells (k - 16) (by omega)
  have e7 := hcells (k - 7) (by omega)
  have hnx := W_hi_wrap B k h15 h64
  have b15 := W_lt B (k - 15) (by omega)
  have b2 := W_lt B (k - 2) (by omega)
  have b16 := W_lt B (k - 16) (by omega)
  have b7 := W_lt B (k - 7) (by omega)
  have HNX := Lib.hid hnx
  have HQ := Lib.hid hQ
  clear hcells hnx hQ
  have hk16 : 16 ≤ k := h15
  clear h15
  have q15 : IntKind.i64.wrap ((k : Int) - 15) = (k : Int) - 15 := by rw [IntKind.wrap_i64]; omega
  have l15 : (k : Int) - 15 < k := by omega
  have m15 : 15 ≤ (k : Int) := by omega
  have n15 : ((k : Int) - 15).toNat = k - 15 := by omega
  have q2 : IntKind.i64.wrap ((k : Int) - 2) = (k : Int) - 2 := by rw [IntKind.wrap_i64]; omega
  have l2 : (k : Int) - 2 < k := by omega
  have m2 : 2 ≤ (k : Int) := by omega
  have n2 : ((k : Int) - 2).toNat = k - 2 := by omega
  have q16 : IntKind.i64.wrap ((k : Int) - 16) = (k : Int) - 16 := by rw [IntKind.wrap_i64]; omega
  have l16 : (k : Int) - 16 < k := by omega
  have m16 : 16 ≤ (k : Int) := by omega
  have n16 : ((k : Int) - 16).toNat = k - 16 := by omega
  have q7 : IntKind.i64.wrap ((k : Int) - 7) = (k : Int) - 7 := by rw [IntKind.wrap_i64]; omega
  have l7 : (k : Int) - 7 < k := by omega
  have m7 : 7 ≤ (k : Int) := by omega
  have n7 : ((k : Int) - 7).toNat = k - 7 := by omega
  conv => arg 2; whnf
  go_wp2_with fail
  go_quiet ((go_at_call 37; exact quiet_eq (rightZ _ _ b15.1 b15.2 (by decide) (by decide) _)))
  go_wp2_with fail
  go_quiet ((go_at_call 37; exact quiet_eq2 (rightZ _ _ b2.1 b2.2 (by decide) (by decide) _)))
  go_wp2_with fail
  obtain ⟨e5, hi5, hz0, hz1, hz2⟩ := info_parts infoU32
  go_name_world wa hwa
  have hF : Fr (fun b => base ≤ b) w wa := by rw [← hwa]; exact ((Fr.refl _ _).drewN _).drewN _
  have hsa : wa.heap.size = w.heap.size := by rw [← hwa]; rfl
  have f16 : wa.cell? ⟨g, k - 16, none⟩ = some (.int .u32 (W B (k - 16))) := by rw [← hwa]; exact e16
  have f7 : wa.cell? ⟨g, k - 7, none⟩ = some (.int .u32 (W B (k - 7))) := by rw [← hwa]; exact e7
  have hoa : wa.ownsRow base 59 1 (.slice (some ⟨g, 0, none⟩) k cap) k ((sch B k).map (.int .u32)) := by rw [← hwa]; exact HOWN.out
  have HOA := Lib.hid hoa
  have HFA := Lib.hid hF
  have hba : base ≤ wa.heap.size := by omega
  clear hwa hoa hF HOWN e15 e2 e16 e7 q15 q2 l15 l2 m15 m2 n15 n2 hsa
  go_region_law (refine step_append_lies _ rfl (.tmp 144) (.tmp 160) 67 rfl base 59 e5 (.int .u32 0) 1 4 Tryd.underlying67 hi5 hz0 hz1 hz2 rfl (by decide) _ k _ rfl (HOA.out.alloc _).drew ⟨wa.heap.size, 0, none⟩ 1 1 _ rfl rfl (one_cell_drew wa _ _) (by intro u hu; simp at hu; subst hu; rfl) (by omega) (by unfold maxLen; omega) (by omega) (by simp; omega) (wa.heap.size + 1) (by simp) ?_; intro g' cap' w2 hown2 hgr2 hor hlt2)
  all_goals
    have HX : Hid (w2.ownsRow base 59 1 (.slice (some ⟨g', 0, none⟩) (k + 1) cap') (k + 1) ((sch B (k + 1)).map (.int .u32))) := Lib.hid (by
      rw [words_next _ _ h64, ← HNX.out]; unfold near far x3; exact hown2)
    have HFX : Hid (Fr (fun b => base ≤ b) w w2) := Lib.hid (HFA.out.trans' (Fr.grown (Fr.drew (Fr.alloc (Fr.refl _ _) _)) hgr2 (fun q' hq' e => (HOA.out.lt q' e).1)))
    clear hown2 hgr2 hor
    refine HQ.out g' cap' _ _ _ _ _ _ _ _ _ _ _ _ _ _ _ _ _ _ _ _ _ _ _ _ _ _ _ _ _ _ _ _ _ _ _ _ _ _ _ _ _ _ _ _ _ _ _ _ _ _ _ _ _ _ _ _ _ _ _ _ w2 HX.out HFX.out
end Go.Proofs.YteafnknghnhlgaaDoor.Sha
