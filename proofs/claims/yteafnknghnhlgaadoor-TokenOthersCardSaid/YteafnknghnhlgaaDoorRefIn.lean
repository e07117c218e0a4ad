/-
  Pieces of the reference's Sum, each a declaration of its own (made by wip/tools/mkpiece.py).
  The 64 rounds of the reference's Sum (made by wip/tools/mkpiece.py).
  The 64 rounds of the reference's Sum, the loop (made by wip/tools/mkpiece.py).
-/
import Derived.Test.YteafnknghnhlgaaDoorRefHi
import Derived.Test.YteafnknghnhlgaaDoorHeld
import Derived.Test.YteafnknghnhlgaaDoorFm
namespace Go.Proofs.YteafnknghnhlgaaDoor.Sha
open Go.RowKit Base

/-- the code from a region on, to its block's end -/
def fromRegion (n : Nat) : Code → Option Code
  | .seq (.region k ops b) rest => if k = n then some (.seq (.region k ops b) rest) else fromRegion n rest
  | .seq a b => match fromRegion n a with
    | some c => some c
    | none => fromRegion n b
  | .cond _ a b => match fromRegion n a with
    | some c => some c
    | none => fromRegion n b
  | .loop c => fromRegion n c
  | .block _ c => fromRegion n c
  | .scope c => fromRegion n c
  | _ => none
noncomputable def tail4Code : Code := ((Tryd.f30.body.bind (fromRegion 23)).getD .skip)
set_option maxHeartbeats 4000000 in
set_option maxRecDepth 1000000 in
theorem tail4 (k n g cap : Nat) (ta tb tc td te tf tg th wk : Int) (hk : k < 64) (hkn : k < n) (w : World) (K0 : Act → World → Prop)
    (ba : 0 ≤ ta ∧ ta < 4294967296) (bb : 0 ≤ tb ∧ tb < 4294967296) (bc : 0 ≤ tc ∧ tc < 4294967296) (bd : 0 ≤ td ∧ td < 4294967296) (be : 0 ≤ te ∧ te < 4294967296) (bf : 0 ≤ tf ∧ tf < 4294967296) (bg : 0 ≤ tg ∧ tg < 4294967296) (bh : 0 ≤ th ∧ th < 4294967296)
    (hcell : w.cell? ⟨g, k, none⟩ = some (.int .u32 wk))
    (c0 c1 c2 c3 c4 c5 c7 c17 c18 c19 c20 c21 c22 c23 c24 c25 c26 c27 c28 c29 c30 c31 c32 c33 c34 c35 c36 c37 c38 c39 c40 c41 c42 c43 c44 c45 c46 c47 c48 c49 c50 c51 c52 c53 c54 c55 c56 c57 c58 c59 c60 c61 c62 c63 c64 c65 c66 c67 c68 c69 c70 c71 c72 c73 c74 c75 c76 c77 c78 c79 c80 c81 c82 c83 c84 c85 c86 c87 c88 c89 c90 c91 c92 c93 c94 c95 c96 c97 c98 c99 c100 c101 c102 c103 c104 c105 c106 c107 c108 c109 c110 c111 c112 c113 c114 c115 c116 c117 c118 c119 c120 c121 c122 c123 c124 c125 c126 c127 c128 c129 c130 c131 c132 c133 c134 c135 c136 c137 c138 c139 c140 c141 c142 c143 c144 c145 c146 c147 c148 c149 c150 c151 c152 c153 c154 c155 c156 c157 c158 c159 c160 c161 c162 c163 c164 c165 c166 c167 c168 c169 c170 c171 c172 c173 c174 c175 c176 c177 c178 c179 c180 c181 c182 c183 c184 c185 c186 c187 c188 c189 c190 c191 c192 c193 c194 c195 c196 c197 c198 c199 c200 c201 c202 c203 c204 c205 c206 c207 c208 c209 c210 c211 c212 c213 c214 c215 c216 c217 c218 c219 c220 c221 c222 c223 c224 c225 c226 c227 c228 c229 c230 c231 c232 c233 c234 c235 c236 c237 c238 c239 c240 c241 c242 c243 c244 c245 c246 c247 c248 c249 c250 c251 c252 c253 c254 c255 c256 c257 c258 c259 c260 c261 c262 : Value)
    (hQ : ∀ (v8 v12 : Value) (u19 u20 u21 u22 u162 u163 u164 u165 u166 u167 u168 u169 u170 u171 u172 u173 u174 u175 u176 u177 u178 u179 u180 u181 u182 u183 u184 u185 u186 u187 u188 u189 u190 u191 u192 u193 u194 u195 u196 u197 u198 u199 u200 u201 u202 u203 u204 u205 u206 u207 u208 u209 u210 u211 u212 u213 u214 u215 u216 u217 u218 u219 u220 u221 u222 : Value) (w2 : World), v8 = .int .u32 ((first (K k) wk ⟨ta, tb, tc, td, te, tf, tg, th⟩ + second ⟨ta, tb, tc, td, te, tf, tg, th⟩) % 4294967296) → v12 = .int .u32 ((td + first (K k) wk ⟨ta, tb, tc, td, te, tf, tg, th⟩) % 4294967296) → Fr0 w w2 →
      K0 ⟨#[c0, c1, c2, c3, c4, c5, (.slice (some ⟨g, 0, none⟩) n cap), c7, v8, (.int .u32 ta), (.int .u32 tb), (.int .u32 tc), v12, (.int .u32 te), (.int .u32 tf), (.int .u32 tg), (.int .i64 (k : Int)), c17, c18, u19, u20, u21, u22, c23, c24, c25, c26, c27, c28, c29, c30, c31, c32, c33, c34, c35, c36, c37, c38, c39, c40, c41, c42, c43, c44, c45, c46, c47, c48, c49, c50, c51, c52, c53, c54, c55, c56, c57, c58, c59, c60, c61, c62, c63, c64, c65, c66, c67, c68, c69, c70, c71, c72, c73, c74, c75, c76, c77, c78, c79, c80, c81, c82, c83, c84, c85, c86, c87, c88, c89, c90, c91, c92, c93, c94, c95, c96, c97, c98, c99, c100, c101, c102, c103, c104, c105, c106, c107, c108, c109, c110, c111, c112, c113, c114, c115, c116, c117, c118, c119, c120, c121, c122, c123, c124, c125, c126, c127, c128, c129, c130, c131, c132, c133, c134, c135, c136, c137, c138, c139, c140, c141, c142, c143, c144, c145, c146, c147, c148, c149, c150, c151, c152, c153, c154, c155, c156, c157, c158, c159, c160, c161, u162, u163, u164, u165, u166, u167, u168, u169, u170, u171, u172, u173, u174, u175, u176, u177, u178, u179, u180, u181, u182, u183, u184, u185, u186, u187, u188, u189, u190, u191, u192, u193, u194, u195, u196, u197, u198, u199, u200, u201, u202, u203, u204, u205, u206, u207, u208, u209, u210, u211, u212, u213, u214, u215, u216, u217, u218, u219, u220, u221, u222, c223, c224, c225, c226, c227, c228, c229, c230, c231, c232, c233, c234, c235, c236, c237, c238, c239, c240, c241, c242, c243, c244, c245, c246, c247, c248, c249, c250, c251, c252, c253, c254, c255, c256, c257, c258, c259, c260, c261, c262], []⟩ w2) :
    Code.wp Tryd.prog tail4Code (Only K0) ⟨#[c0, c1, c2, c3, c4, c5, (.slice (some ⟨g, 0, none⟩) n cap), c7, (.int .u32 ta), (.int .u32 tb), (.int .u32 tc), (.int .u32 td), (.int .u32 te), (.int .u32 tf), (.int .u32 tg), (.int .u32 th), (.int .i64 (k : Int)), c17, c18, c19, c20, c21, c22, c23, c24, c25, c26, c27, c28, c29, c30, c31, c32, c33, c34, c35, c36, c37, c38, c39, c40, c41, c42, c43, c44, c45, c46, c47, c48, c49, c50, c51, c52, c53, c54, c55, c56, c57, c58, c59, c60, c61, c62, c63, c64, c65, c66, c67, c68, c69, c70, c71, c72, c73, c74, c75, c76, c77, c78, c79, c80, c81, c82, c83, c84, c85, c86, c87, c88, c89, c90, c91, c92, c93, c94, c95, c96, c97, c98, c99, c100, c101, c102, c103, c104, c105, c106, c107, c108, c109, c110, c111, c112, c113, c114, c115, c116, c117, c118, c119, c120, c121, c122, c123, c124, c125, c126, c127, c128, c129, c130, c131, c132, c133, c134, c135, c136, c137, c138, c139, c140, c141, c142, c143, c144, c145, c146, c147, c148, c149, c150, c151, c152, c153, c154, c155, c156, c157, c158, c159, c160, c161, c162, c163, c164, c165, c166, c167, c168, c169, c170, c171, c172, c173, c174, c175, c176, c177, c178, c179, c180, c181, c182, c183, c184, c185, c186, c187, c188, c189, c190, c191, c192, c193, c194, c195, c196, c197, c198, c199, c200, c201, c202, c203, c204, c205, c206, c207, c208, c209, c210, c211, c212, c213, c214, c215, c216, c217, c218, c219, c220, c221, c222, c223, c224, c225, c226, c227, c228, c229, c230, c231, c232, c233, c234, c235, c236, c237, c238, c239, c240, c241, c242, c243, c244, c245, c246, c247, c248, c249, c250, c251, c252, c253, c254, c255, c256, c257, c258, c259, c260, c261, c262], []⟩ w := by
  have HC := Lib.hid hcell
  have HQ := Lib.hid hQ
  have hk0 : (0 : Int) ≤ (k : Int) := by omega
  have hkn' : (k : Int) < (n : Int) := by omega
  clear hcell hQ
  obtain ⟨X, hX⟩ : ∃ X, X = first (K k) wk ⟨ta, tb, tc, td, te, tf, tg, th⟩ := ⟨_, rfl⟩
  have hXe : (th + up1 te + choose te tf tg + K k + wk) % 4294967296 = X := hX.symm
  have bX : 0 ≤ X ∧ X < 4294967296 := by rw [hX]; unfold first; omega
  have HX := Lib.hid hX
  have HXE := Lib.hid hXe
  clear hX hXe
  conv => arg 2; whnf
  go_wp2_with fail
  refine region_held (Fr0 w) (by kernel_rfl) (by kernel_rfl) ((Fr.refl _ _).drew) ?_
  refine heldVal (.int .u32 th) rfl (fun wx h => by go_simp) ?_
  go_frame
  refine heldVal (.int .u32 te) rfl (fun wx h => by go_simp) ?_
  go_frame
  refine heldCall 37 #[.int .u32 te, .int .i64 6] (.int .u32 (rl te 26)) rfl (fun wx h => by go_simp) (fun wx h => (rightZ te 6 be.1 be.2 (by decide) (by decide) wx).mono fun e w' ⟨he, hf⟩ => ⟨he, by subst hf; exact h⟩) ?_
  go_frame
  refine heldVal (.int .u32 te) rfl (fun wx h => by go_simp) ?_
  go_frame
  refine heldCall 37 #[.int .u32 te, .int .i64 11] (.int .u32 (rl te 21)) rfl (fun wx h => by go_simp) (fun wx h => (rightZ te 11 be.1 be.2 (by decide) (by decide) wx).mono fun e w' ⟨he, hf⟩ => ⟨he, by subst hf; exact h⟩) ?_
  go_frame
  refine heldVal (.int .u32 (bits .xor .u32 (rl te 26) (rl te 21))) rfl (fun wx h => by go_simp) ?_
  go_frame
  refine heldVal (.int .u32 te) rfl (fun wx h => by go_simp) ?_
  go_frame
  refine heldCall 37 #[.int .u32 te, .int .i64 25] (.int .u32 (rl te 7)) rfl (fun wx h => by go_simp) (fun wx h => (rightZ te 25 be.1 be.2 (by decide) (by decide) wx).mono fun e w' ⟨he, hf⟩ => ⟨he, by subst hf; exact h⟩) ?_
  go_frame
  refine heldVal (.int .u32 (up1 te)) rfl (fun wx h => by go_simp; rfl) ?_
  go_frame
  refine heldVal (.int .u32 ((th + up1 te) % 4294967296)) rfl (fun wx h => by go_simp; rw [IntKind.wrap_u32']) ?_
  go_frame
  refine heldVal (.int .u32 (choose te tf tg)) rfl (fun wx h => by go_simp; rfl) ?_
  go_frame
  refine heldVal (.int .u32 ((th + up1 te + choose te tf tg) % 4294967296)) rfl (fun wx h => by go_simp; rw [IntKind.wrap_u32']; omega) ?_
  go_frame
  refine heldVal (.int .i64 (k : Int)) rfl (fun wx h => by go_simp) ?_
  go_frame
  refine heldCall 38 #[.int .i64 (k : Int)] (.int .u32 (K k)) rfl (fun wx h => by go_simp) (fun wx h => (round_any k hk wx).mono fun e w' ⟨he, hf⟩ => ⟨he, h.trans' hf⟩) ?_
  go_frame
  refine heldVal (.int .u32 ((th + up1 te + choose te tf tg + K k) % 4294967296)) rfl (fun wx h => by go_simp; rw [IntKind.wrap_u32']; omega) ?_
  go_frame
  refine heldVal (.slice (some ⟨g, 0, none⟩) n cap) rfl (fun wx h => by go_simp) ?_
  go_frame
  refine heldVal (.int .i64 (k : Int)) rfl (fun wx h => by go_simp) ?_
  go_frame
  refine heldVal (.pointer (some ⟨g, k, none⟩)) rfl (fun wx h => by go_simp) ?_
  go_frame
  refine heldVal (.int .u32 wk) rfl (fun wx h => by have hcx : wx.cell? ⟨g, k, none⟩ = some (.int .u32 wk) := (h.cell (p := ⟨g, k, none⟩) (World.block_lt_of_cell? w _ HC.out) (fun f => f)).trans HC.out; go_simp) ?_
  go_frame
  refine heldVal (.int .u32 X) rfl (fun wx h => by go_simp; rw [IntKind.wrap_u32', ← HXE.out]; omega) ?_
  go_frame
  refine heldVal (.int .u32 X) rfl (fun wx h => by go_simp) ?_
  go_frame
  refine wpQuiet_nil ?_
  intro w2 hw2
  have HF := Lib.hid hw2
  clear hw2
  go_wp2_with fail
  refine (rightZ ta 2 ba.1 ba.2 (by decide) (by decide) _).mono ?_
  rintro e w' ⟨rfl, rfl⟩
  go_wp2_with fail
  refine (rightZ ta 13 ba.1 ba.2 (by decide) (by decide) _).mono ?_
  rintro e w' ⟨rfl, rfl⟩
  go_wp2_with fail
  refine (rightZ ta 22 ba.1 ba.2 (by decide) (by decide) _).mono ?_
  rintro e w' ⟨rfl, rfl⟩
  go_wp2_with fail
  refine HQ.out _ _ _ _ _ _ _ _ _ _ _ _ _ _ _ _ _ _ _ _ _ _ _ _ _ _ _ _ _ _ _ _ _ _ _ _ _ _ _ _ _ _ _ _ _ _ _ _ _ _ _ _ _ _ _ _ _ _ _ _ _ _ _ _ _ _ _ w2 ?_ ?_ HF.out
  · rw [← HX.out]
    unfold second up0 most x3
    simp only [IntKind.wrap_u32']
  · rw [← HX.out]
def condFull (t : Nat) : Code → Option Code
  | .cond (.tmp k) a b => if k = t then some (.cond (.tmp k) a b) else match condFull t a with
    | some c => some c
    | none => condFull t b
  | .seq a b => match condFull t a with
    | some c => some c
    | none => condFull t b
  | .loop c => condFull t c
  | .block _ c => condFull t c
  | _ => none
noncomputable def cond103 : Code := ((Tryd.f30.body.bind (condFull 103)).getD .skip)
theorem cond103_is : cond103 = .cond (.tmp 103) hiCode .skip := by kernel_rfl
theorem Only.then {K : Act → World → Prop} {Q : Exit → Act → World → Prop} : ∀ (e : Exit) (a : Act) (w : World), Only K e a w → Exit.then K Q e a w := fun e a w h => by
  cases e <;> first | exact h | exact (h : False).elim
set_option maxHeartbeats 4000000 in
set_option maxRecDepth 1000000 in
theorem cond_step (B : Nat → Int) (k n g cap base : Nat) (hn : n = if k < 16 then 16 else k) (h64 : k < 64) (w : World) (K0 : Act → World → Prop)
    (hown : w.ownsRow base 59 1 (.slice (some ⟨g, 0, none⟩) n cap) n ((sch B n).map (.int .u32))) (hbase : base ≤ w.heap.size)
    (c0 c1 c2 c3 c4 c5 c7 c8 c9 c10 c11 c12 c13 c14 c15 c17 c18 c19 c20 c21 c22 c23 c24 c25 c26 c27 c28 c29 c30 c31 c32 c33 c34 c35 c36 c37 c38 c39 c40 c41 c42 c43 c44 c45 c46 c47 c48 c49 c50 c51 c52 c53 c54 c55 c56 c57 c58 c59 c60 c61 c62 c63 c64 c65 c66 c67 c68 c69 c70 c71 c72 c73 c74 c75 c76 c77 c78 c79 c80 c81 c82 c83 c84 c85 c86 c87 c88 c89 c90 c91 c92 c93 c94 c95 c96 c97 c98 c99 c100 c101 c102 c104 c105 c106 c107 c108 c109 c110 c111 c112 c113 c114 c115 c116 c117 c118 c119 c120 c121 c122 c123 c124 c125 c126 c127 c128 c129 c130 c131 c132 c133 c134 c135 c136 c137 c138 c139 c140 c141 c142 c143 c144 c145 c146 c147 c148 c149 c150 c151 c152 c153 c154 c155 c156 c157 c158 c159 c160 c161 c162 c163 c164 c165 c166 c167 c168 c169 c170 c171 c172 c173 c174 c175 c176 c177 c178 c179 c180 c181 c182 c183 c184 c185 c186 c187 c188 c189 c190 c191 c192 c193 c194 c195 c196 c197 c198 c199 c200 c201 c202 c203 c204 c205 c206 c207 c208 c209 c210 c211 c212 c213 c214 c215 c216 c217 c218 c219 c220 c221 c222 c223 c224 c225 c226 c227 c228 c229 c230 c231 c232 c233 c234 c235 c236 c237 c238 c239 c240 c241 c242 c243 c244 c245 c246 c247 c248 c249 c250 c251 c252 c253 c254 c255 c256 c257 c258 c259 c260 c261 c262 : Value)
    (hQ : ∀ (g' n' cap' : Nat) (u17 u18 u104 u105 u106 u107 u108 u109 u110 u111 u112 u113 u114 u115 u116 u117 u118 u119 u120 u121 u122 u123 u124 u125 u126 u127 u128 u129 u130 u131 u132 u133 u134 u135 u136 u137 u138 u139 u140 u141 u142 u143 u144 u145 u146 u147 u148 u149 u150 u151 u152 u153 u154 u155 u156 u157 u158 u159 u160 u161 : Value) (w2 : World), n' = (if k + 1 < 16 then 16 else k + 1) → w2.ownsRow base 59 1 (.slice (some ⟨g', 0, none⟩) n' cap') n' ((sch B n').map (.int .u32)) → Fr (fun b => base ≤ b) w w2 →
      K0 ⟨#[c0, c1, c2, c3, c4, c5, (.slice (some ⟨g', 0, none⟩) n' cap'), c7, c8, c9, c10, c11, c12, c13, c14, c15, (.int .i64 (k : Int)), u17, u18, c19, c20, c21, c22, c23, c24, c25, c26, c27, c28, c29, c30, c31, c32, c33, c34, c35, c36, c37, c38, c39, c40, c41, c42, c43, c44, c45, c46, c47, c48, c49, c50, c51, c52, c53, c54, c55, c56, c57, c58, c59, c60, c61, c62, c63, c64, c65, c66, c67, c68, c69, c70, c71, c72, c73, c74, c75, c76, c77, c78, c79, c80, c81, c82, c83, c84, c85, c86, c87, c88, c89, c90, c91, c92, c93, c94, c95, c96, c97, c98, c99, c100, c101, c102, (.bool (decide (15 < (k : Int)))), u104, u105, u106, u107, u108, u109, u110, u111, u112, u113, u114, u115, u116, u117, u118, u119, u120, u121, u122, u123, u124, u125, u126, u127, u128, u129, u130, u131, u132, u133, u134, u135, u136, u137, u138, u139, u140, u141, u142, u143, u144, u145, u146, u147, u148, u149, u150, u151, u152, u153, u154, u155, u156, u157, u158, u159, u160, u161, c162, c163, c164, c165, c166, c167, c168, c169, c170, c171, c172, c173, c174, c175, c176, c177, c178, c179, c180, c181, c182, c183, c184, c185, c186, c187, c188, c189, c190, c191, c192, c193, c194, c195, c196, c197, c198, c199, c200, c201, c202, c203, c204, c205, c206, c207, c208, c209, c210, c211, c212, c213, c214, c215, c216, c217, c218, c219, c220, c221, c222, c223, c224, c225, c226, c227, c228, c229, c230, c231, c232, c233, c234, c235, c236, c237, c238, c239, c240, c241, c242, c243, c244, c245, c246, c247, c248, c249, c250, c251, c252, c253, c254, c255, c256, c257, c258, c259, c260, c261, c262], []⟩ w2) :
    Code.wp Tryd.prog cond103 (Only K0) ⟨#[c0, c1, c2, c3, c4, c5, (.slice (some ⟨g, 0, none⟩) n cap), c7, c8, c9, c10, c11, c12, c13, c14, c15, (.int .i64 (k : Int)), c17, c18, c19, c20, c21, c22, c23, c24, c25, c26, c27, c28, c29, c30, c31, c32, c33, c34, c35, c36, c37, c38, c39, c40, c41, c42, c43, c44, c45, c46, c47, c48, c49, c50, c51, c52, c53, c54, c55, c56, c57, c58, c59, c60, c61, c62, c63, c64, c65, c66, c67, c68, c69, c70, c71, c72, c73, c74, c75, c76, c77, c78, c79, c80, c81, c82, c83, c84, c85, c86, c87, c88, c89, c90, c91, c92, c93, c94, c95, c96, c97, c98, c99, c100, c101, c102, (.bool (decide (15 < (k : Int)))), c104, c105, c106, c107, c108, c109, c110, c111, c112, c113, c114, c115, c116, c117, c118, c119, c120, c121, c122, c123, c124, c125, c126, c127, c128, c129, c130, c131, c132, c133, c134, c135, c136, c137, c138, c139, c140, c141, c142, c143, c144, c145, c146, c147, c148, c149, c150, c151, c152, c153, c154, c155, c156, c157, c158, c159, c160, c161, c162, c163, c164, c165, c166, c167, c168, c169, c170, c171, c172, c173, c174, c175, c176, c177, c178, c179, c180, c181, c182, c183, c184, c185, c186, c187, c188, c189, c190, c191, c192, c193, c194, c195, c196, c197, c198, c199, c200, c201, c202, c203, c204, c205, c206, c207, c208, c209, c210, c211, c212, c213, c214, c215, c216, c217, c218, c219, c220, c221, c222, c223, c224, c225, c226, c227, c228, c229, c230, c231, c232, c233, c234, c235, c236, c237, c238, c239, c240, c241, c242, c243, c244, c245, c246, c247, c248, c249, c250, c251, c252, c253, c254, c255, c256, c257, c258, c259, c260, c261, c262], []⟩ w := by
  rw [cond103_is]
  by_cases h15 : 15 < k
  · have hn' : n = k := by rw [hn, if_neg (by omega)]
    subst hn'
    have hd : decide (15 < (n : Int)) = true := by rw [decide_eq_true_eq]; omega
    rw [hd] at hQ ⊢
    refine wp_cond_true rfl ?_
    exact hi_step B n g cap base h15 h64 w K0 hown hbase _ _ _ _ _ _ _ _ _ _ _ _ _ _ _ _ _ _ _ _ _ _ _ _ _ _ _ _ _ _ _ _ _ _ _ _ _ _ _ _ _ _ _ _ _ _ _ _ _ _ _ _ _ _ _ _ _ _ _ _ _ _ _ _ _ _ _ _ _ _ _ _ _ _ _ _ _ _ _ _ _ _ _ _ _ _ _ _ _ _ _ _ _ _ _ _ _ _ _ _ _ _ _ _ _ _ _ _ _ _ _ _ _ _ _ _ _ _ _ _ _ _ _ _ _ _ _ _ _ _ _ _ _ _ _ _ _ _ _ _ _ _ _ _ _ _ _ _ _ _ _ _ _ _ _ _ _ _ _ _ _ _ _ _ _ _ _ _ _ _ _ _ _ _ _ _ _ _ _ _ _ _ _ _ _ _ _ _ _ _ _ _ _ _ _ _ _ _ _ _ _ _ _ _ _ _ _ _ _ _ _ _ _ _ _ _ _ _ _ _ _ _ _ _ _ _ _ _ _ _ _ _ _ _ _ _ _ _ _ _ _ _ _ _ _ _ _ _ _ _ _ _ _ _ _ _ _ _ _ _ _ (fun g' cap' u17 u18 u104 u105 u106 u107 u108 u109 u110 u111 u112 u113 u114 u115 u116 u117 u118 u119 u120 u121 u122 u123 u124 u125 u126 u127 u128 u129 u130 u131 u132 u133 u134 u135 u136 u137 u138 u139 u140 u141 u142 u143 u144 u145 u146 u147 u148 u149 u150 u151 u152 u153 u154 u155 u156 u157 u158 u159 u160 u161 w2 h1 h2 => hQ g' (n + 1) cap' _ _ _ _ _ _ _ _ _ _ _ _ _ _ _ _ _ _ _ _ _ _ _ _ _ _ _ _ _ _ _ _ _ _ _ _ _ _ _ _ _ _ _ _ _ _ _ _ _ _ _ _ _ _ _ _ _ _ _ _ w2 (by rw [if_neg (by omega)]) h1 h2)
  · have hd : decide (15 < (k : Int)) = false := by rw [decide_eq_false_iff_not]; omega
    rw [hd] at hQ ⊢
    refine wp_cond_false rfl ?_
    refine wp_skip ?_
    exact hQ g n cap _ _ _ _ _ _ _ _ _ _ _ _ _ _ _ _ _ _ _ _ _ _ _ _ _ _ _ _ _ _ _ _ _ _ _ _ _ _ _ _ _ _ _ _ _ _ _ _ _ _ _ _ _ _ _ _ _ _ _ _ w (by rw [hn, if_pos (by omega)]; split <;> omega) hown (Fr.refl _ _)
end Go.Proofs.YteafnknghnhlgaaDoor.Sha
namespace Go.Proofs.YteafnknghnhlgaaDoor.Sha
open Go.RowKit Base

def oneRegion (n : Nat) : Code → Option Code
  | .region k ops b => if k = n then some (.region k ops b) else none
  | .seq a b => match oneRegion n a with
    | some c => some c
    | none => oneRegion n b
  | .cond _ a b => match oneRegion n a with
    | some c => some c
    | none => oneRegion n b
  | .loop c => oneRegion n c
  | .block _ c => oneRegion n c
  | .scope c => oneRegion n c
  | _ => none
def blockFull (n : Nat) : Code → Option Code
  | .block k c => if k = n then some (.block k c) else blockFull n c
  | .seq a b => match blockFull n a with
    | some c => some c
    | none => blockFull n b
  | .cond _ a b => match blockFull n a with
    | some c => some c
    | none => blockFull n b
  | .loop c => blockFull n c
  | .scope c => blockFull n c
  | _ => none
theorem Only.inBlock {id : Nat} {K : Act → World → Prop} {Q : Exit → Act → World → Prop} : ∀ (e : Exit) (a : Act) (w : World), Only K e a w → Exit.inBlock id (Exit.then K Q) e a w := fun e a w h => by
  cases e <;> first | exact h | exact (h : False).elim
set_option maxHeartbeats 4000000 in
set_option maxRecDepth 1000000 in
theorem tail4F (k n g cap : Nat) (ta tb tc td te tf tg th wk : Int) (hk : k < 64) (hkn : k < n) (f : Nat → Value) (hf : ∀ p ∈ ([(6, (.slice (some ⟨g, 0, none⟩) n cap)), (8, (.int .u32 ta)), (9, (.int .u32 tb)), (10, (.int .u32 tc)), (11, (.int .u32 td)), (12, (.int .u32 te)), (13, (.int .u32 tf)), (14, (.int .u32 tg)), (15, (.int .u32 th)), (16, (.int .i64 (k : Int)))] : List (Nat × Value)), f p.1 = p.2) (w : World) (K0 : Act → World → Prop) (ba : 0 ≤ ta ∧ ta < 4294967296) (bb : 0 ≤ tb ∧ tb < 4294967296) (bc : 0 ≤ tc ∧ tc < 4294967296) (bd : 0 ≤ td ∧ td < 4294967296) (be : 0 ≤ te ∧ te < 4294967296) (bf : 0 ≤ tf ∧ tf < 4294967296) (bg : 0 ≤ tg ∧ tg < 4294967296) (bh : 0 ≤ th ∧ th < 4294967296) (hcell : w.cell? ⟨g, k, none⟩ = some (.int .u32 wk))
    (hQ : ∀ (f' : Nat → Value) (w2 : World) , Fr0 w w2 → f' 8 = .int .u32 ((first (K k) wk ⟨ta, tb, tc, td, te, tf, tg, th⟩ + second ⟨ta, tb, tc, td, te, tf, tg, th⟩) % 4294967296) → f' 9 = .int .u32 ta → f' 10 = .int .u32 tb → f' 11 = .int .u32 tc → f' 12 = .int .u32 ((td + first (K k) wk ⟨ta, tb, tc, td, te, tf, tg, th⟩) % 4294967296) → f' 13 = .int .u32 te → f' 14 = .int .u32 tf → f' 15 = .int .u32 tg → (∀ j ∈ [2, 3, 4, 5, 6, 7, 16], f' j = f j) → K0 (Fm 263 f') w2) :
    Code.wp Tryd.prog tail4Code (Only K0) (Fm 263 f) w := by
  have e : Fm 263 f = ⟨#[f 0, f 1, f 2, f 3, f 4, f 5, (.slice (some ⟨g, 0, none⟩) n cap), f 7, (.int .u32 ta), (.int .u32 tb), (.int .u32 tc), (.int .u32 td), (.int .u32 te), (.int .u32 tf), (.int .u32 tg), (.int .u32 th), (.int .i64 (k : Int)), f 17, f 18, f 19, f 20, f 21, f 22, f 23, f 24, f 25, f 26, f 27, f 28, f 29, f 30, f 31, f 32, f 33, f 34, f 35, f 36, f 37, f 38, f 39, f 40, f 41, f 42, f 43, f 44, f 45, f 46, f 47, f 48, f 49, f 50, f 51, f 52, f 53, f 54, f 55, f 56, f 57, f 58, f 59, f 60, f 61, f 62, f 63, f 64, f 65, f 66, f 67, f 68, f 69, f 70, f 71, f 72, f 73, f 74, f 75, f 76, f 77, f 78, f 79, f 80, f 81, f 82, f 83, f 84, f 85, f 86, f 87, f 88, f 89, f 90, f 91, f 92, f 93, f 94, f 95, f 96, f 97, f 98, f 99, f 100, f 101, f 102, f 103, f 104, f 105, f 106, f 107, f 108, f 109, f 110, f 111, f 112, f 113, f 114, f 115, f 116, f 117, f 118, f 119, f 120, f 121, f 122, f 123, f 124, f 125, f 126, f 127, f 128, f 129, f 130, f 131, f 132, f 133, f 134, f 135, f 136, f 137, f 138, f 139, f 140, f 141, f 142, f 143, f 144, f 145, f 146, f 147, f 148, f 149, f 150, f 151, f 152, f 153, f 154, f 155, f 156, f 157, f 158, f 159, f 160, f 161, f 162, f 163, f 164, f 165, f 166, f 167, f 168, f 169, f 170, f 171, f 172, f 173, f 174, f 175, f 176, f 177, f 178, f 179, f 180, f 181, f 182, f 183, f 184, f 185, f 186, f 187, f 188, f 189, f 190, f 191, f 192, f 193, f 194, f 195, f 196, f 197, f 198, f 199, f 200, f 201, f 202, f 203, f 204, f 205, f 206, f 207, f 208, f 209, f 210, f 211, f 212, f 213, f 214, f 215, f 216, f 217, f 218, f 219, f 220, f 221, f 222, f 223, f 224, f 225, f 226, f 227, f 228, f 229, f 230, f 231, f 232, f 233, f 234, f 235, f 236, f 237, f 238, f 239, f 240, f 241, f 242, f 243, f 244, f 245, f 246, f 247, f 248, f 249, f 250, f 251, f 252, f 253, f 254, f 255, f 256, f 257, f 258, f 259, f 260, f 261, f 262], []⟩ := (congrArg (Fm 263) (ov_self f _ hf)).symm.trans rfl
  rw [e]
  refine tail4 k n g cap ta tb tc td te tf tg th wk hk hkn w K0 ba bb bc bd be bf bg bh hcell (f 0) (f 1) (f 2) (f 3) (f 4) (f 5) (f 7) (f 17) (f 18) (f 19) (f 20) (f 21) (f 22) (f 23) (f 24) (f 25) (f 26) (f 27) (f 28) (f 29) (f 30) (f 31) (f 32) (f 33) (f 34) (f 35) (f 36) (f 37) (f 38) (f 39) (f 40) (f 41) (f 42) (f 43) (f 44) (f 45) (f 46) (f 47) (f 48) (f 49) (f 50) (f 51) (f 52) (f 53) (f 54) (f 55) (f 56) (f 57) (f 58) (f 59) (f 60) (f 61) (f 62) (f 63) (f 64) (f 65) (f 66) (f 67) (f 68) (f 69) (f 70) (f 71) (f 72) (f 73) (f 74) (f 75) (f 76) (f 77) (f 78) (f 79) (f 80) (f 81) (f 82) (f 83) (f 84) (f 85) (f 86) (f 87) (f 88) (f 89) (f 90) (f 91) (f 92) (f 93) (f 94) (f 95) (f 96) (f 97) (f 98) (f 99) (f 100) (f 101) (f 102) (f 103) (f 104) (f 105) (f 106) (f 107) (f 108) (f 109) (f 110) (f 111) (f 112) (f 113) (f 114) (f 115) (f 116) (f 117) (f 118) (f 119) (f 120) (f 121) (f 122) (f 123) (f 124) (f 125) (f 126) (f 127) (f 128) (f 129) (f 130) (f 131) (f 132) (f 133) (f 134) (f 135) (f 136) (f 137) (f 138) (f 139) (f 140) (f 141) (f 142) (f 143) (f 144) (f 145) (f 146) (f 147) (f 148) (f 149) (f 150) (f 151) (f 152) (f 153) (f 154) (f 155) (f 156) (f 157) (f 158) (f 159) (f 160) (f 161) (f 162) (f 163) (f 164) (f 165) (f 166) (f 167) (f 168) (f 169) (f 170) (f 171) (f 172) (f 173) (f 174) (f 175) (f 176) (f 177) (f 178) (f 179) (f 180) (f 181) (f 182) (f 183) (f 184) (f 185) (f 186) (f 187) (f 188) (f 189) (f 190) (f 191) (f 192) (f 193) (f 194) (f 195) (f 196) (f 197) (f 198) (f 199) (f 200) (f 201) (f 202) (f 203) (f 204) (f 205) (f 206) (f 207) (f 208) (f 209) (f 210) (f 211) (f 212) (f 213) (f 214) (f 215) (f 216) (f 217) (f 218) (f 219) (f 220) (f 221) (f 222) (f 223) (f 224) (f 225) (f 226) (f 227) (f 228) (f 229) (f 230) (f 231) (f 232) (f 233) (f 234) (f 235) (f 236) (f 237) (f 238) (f 239) (f 240) (f 241) (f 242) (f 243) (f 244) (f 245) (f 246) (f 247) (f 248) (f 249) (f 250) (f 251) (f 252) (f 253) (f 254) (f 255) (f 256) (f 257) (f 258) (f 259) (f 260) (f 261) (f 262) ?_
  intro v8 v12 u19 u20 u21 u22 u162 u163 u164 u165 u166 u167 u168 u169 u170 u171 u172 u173 u174 u175 u176 u177 u178 u179 u180 u181 u182 u183 u184 u185 u186 u187 u188 u189 u190 u191 u192 u193 u194 u195 u196 u197 u198 u199 u200 u201 u202 u203 u204 u205 u206 u207 u208 u209 u210 u211 u212 u213 u214 u215 u216 u217 u218 u219 u220 u221 u222 w2 e8 e12 hF
  have h := hQ (fun j => ([f 0, f 1, f 2, f 3, f 4, f 5, (.slice (some ⟨g, 0, none⟩) n cap), f 7, v8, (.int .u32 ta), (.int .u32 tb), (.int .u32 tc), v12, (.int .u32 te), (.int .u32 tf), (.int .u32 tg), (.int .i64 (k : Int)), f 17, f 18, u19, u20, u21, u22, f 23, f 24, f 25, f 26, f 27, f 28, f 29, f 30, f 31, f 32, f 33, f 34, f 35, f 36, f 37, f 38, f 39, f 40, f 41, f 42, f 43, f 44, f 45, f 46, f 47, f 48, f 49, f 50, f 51, f 52, f 53, f 54, f 55, f 56, f 57, f 58, f 59, f 60, f 61, f 62, f 63, f 64, f 65, f 66, f 67, f 68, f 69, f 70, f 71, f 72, f 73, f 74, f 75, f 76, f 77, f 78, f 79, f 80, f 81, f 82, f 83, f 84, f 85, f 86, f 87, f 88, f 89, f 90, f 91, f 92, f 93, f 94, f 95, f 96, f 97, f 98, f 99, f 100, f 101, f 102, f 103, f 104, f 105, f 106, f 107, f 108, f 109, f 110, f 111, f 112, f 113, f 114, f 115, f 116, f 117, f 118, f 119, f 120, f 121, f 122, f 123, f 124, f 125, f 126, f 127, f 128, f 129, f 130, f 131, f 132, f 133, f 134, f 135, f 136, f 137, f 138, f 139, f 140, f 141, f 142, f 143, f 144, f 145, f 146, f 147, f 148, f 149, f 150, f 151, f 152, f 153, f 154, f 155, f 156, f 157, f 158, f 159, f 160, f 161, u162, u163, u164, u165, u166, u167, u168, u169, u170, u171, u172, u173, u174, u175, u176, u177, u178, u179, u180, u181, u182, u183, u184, u185, u186, u187, u188, u189, u190, u191, u192, u193, u194, u195, u196, u197, u198, u199, u200, u201, u202, u203, u204, u205, u206, u207, u208, u209, u210, u211, u212, u213, u214, u215, u216, u217, u218, u219, u220, u221, u222, f 223, f 224, f 225, f 226, f 227, f 228, f 229, f 230, f 231, f 232, f 233, f 234, f 235, f 236, f 237, f 238, f 239, f 240, f 241, f 242, f 243, f 244, f 245, f 246, f 247, f 248, f 249, f 250, f 251, f 252, f 253, f 254, f 255, f 256, f 257, f 258, f 259, f 260, f 261, f 262] : List Value).getD j undef) w2 hF e8 rfl rfl rfl e12 rfl rfl rfl (fun j hj => by
    simp only [List.mem_cons, List.not_mem_nil, or_false] at hj
    rcases hj with rfl | rfl | rfl | rfl | rfl | rfl | rfl
    · rfl
    · rfl
    · rfl
    · rfl
    · exact (hf (6, (.slice (some ⟨g, 0, none⟩) n cap)) (by simp)).symm
    · rfl
    · exact (hf (16, (.int .i64 (k : Int))) (by simp)).symm)
  rw [← Fm_of _ 263 rfl] at h
  exact h
set_option maxHeartbeats 4000000 in
set_option maxRecDepth 1000000 in
theorem condF (B : Nat → Int) (k n g cap base : Nat) (hn : n = if k < 16 then 16 else k) (h64 : k < 64) (f : Nat → Value) (hf : ∀ p ∈ ([(6, (.slice (some ⟨g, 0, none⟩) n cap)), (16, (.int .i64 (k : Int))), (103, (.bool (decide (15 < (k : Int)))))] : List (Nat × Value)), f p.1 = p.2) (w : World) (K0 : Act → World → Prop) (hown : w.ownsRow base 59 1 (.slice (some ⟨g, 0, none⟩) n cap) n ((sch B n).map (.int .u32))) (hbase : base ≤ w.heap.size)
    (hQ : ∀ (f' : Nat → Value) (w2 : World) (g' n' cap' : Nat), n' = (if k + 1 < 16 then 16 else k + 1) → w2.ownsRow base 59 1 (.slice (some ⟨g', 0, none⟩) n' cap') n' ((sch B n').map (.int .u32)) → Fr (fun b => base ≤ b) w w2 → f' 6 = (.slice (some ⟨g', 0, none⟩) n' cap') → (∀ j ∈ [2, 3, 4, 5, 7, 8, 9, 10, 11, 12, 13, 14, 15, 16], f' j = f j) → K0 (Fm 263 f') w2) :
    Code.wp Tryd.prog cond103 (Only K0) (Fm 263 f) w := by
  have e : Fm 263 f = ⟨#[f 0, f 1, f 2, f 3, f 4, f 5, (.slice (some ⟨g, 0, none⟩) n cap), f 7, f 8, f 9, f 10, f 11, f 12, f 13, f 14, f 15, (.int .i64 (k : Int)), f 17, f 18, f 19, f 20, f 21, f 22, f 23, f 24, f 25, f 26, f 27, f 28, f 29, f 30, f 31, f 32, f 33, f 34, f 35, f 36, f 37, f 38, f 39, f 40, f 41, f 42, f 43, f 44, f 45, f 46, f 47, f 48, f 49, f 50, f 51, f 52, f 53, f 54, f 55, f 56, f 57, f 58, f 59, f 60, f 61, f 62, f 63, f 64, f 65, f 66, f 67, f 68, f 69, f 70, f 71, f 72, f 73, f 74, f 75, f 76, f 77, f 78, f 79, f 80, f 81, f 82, f 83, f 84, f 85, f 86, f 87, f 88, f 89, f 90, f 91, f 92, f 93, f 94, f 95, f 96, f 97, f 98, f 99, f 100, f 101, f 102, (.bool (decide (15 < (k : Int)))), f 104, f 105, f 106, f 107, f 108, f 109, f 110, f 111, f 112, f 113, f 114, f 115, f 116, f 117, f 118, f 119, f 120, f 121, f 122, f 123, f 124, f 125, f 126, f 127, f 128, f 129, f 130, f 131, f 132, f 133, f 134, f 135, f 136, f 137, f 138, f 139, f 140, f 141, f 142, f 143, f 144, f 145, f 146, f 147, f 148, f 149, f 150, f 151, f 152, f 153, f 154, f 155, f 156, f 157, f 158, f 159, f 160, f 161, f 162, f 163, f 164, f 165, f 166, f 167, f 168, f 169, f 170, f 171, f 172, f 173, f 174, f 175, f 176, f 177, f 178, f 179, f 180, f 181, f 182, f 183, f 184, f 185, f 186, f 187, f 188, f 189, f 190, f 191, f 192, f 193, f 194, f 195, f 196, f 197, f 198, f 199, f 200, f 201, f 202, f 203, f 204, f 205, f 206, f 207, f 208, f 209, f 210, f 211, f 212, f 213, f 214, f 215, f 216, f 217, f 218, f 219, f 220, f 221, f 222, f 223, f 224, f 225, f 226, f 227, f 228, f 229, f 230, f 231, f 232, f 233, f 234, f 235, f 236, f 237, f 238, f 239, f 240, f 241, f 242, f 243, f 244, f 245, f 246, f 247, f 248, f 249, f 250, f 251, f 252, f 253, f 254, f 255, f 256, f 257, f 258, f 259, f 260, f 261, f 262], []⟩ := (congrArg (Fm 263) (ov_self f _ hf)).symm.trans rfl
  rw [e]
  refine cond_step B k n g cap base hn h64 w K0 hown hbase (f 0) (f 1) (f 2) (f 3) (f 4) (f 5) (f 7) (f 8) (f 9) (f 10) (f 11) (f 12) (f 13) (f 14) (f 15) (f 17) (f 18) (f 19) (f 20) (f 21) (f 22) (f 23) (f 24) (f 25) (f 26) (f 27) (f 28) (f 29) (f 30) (f 31) (f 32) (f 33) (f 34) (f 35) (f 36) (f 37) (f 38) (f 39) (f 40) (f 41) (f 42) (f 43) (f 44) (f 45) (f 46) (f 47) (f 48) (f 49) (f 50) (f 51) (f 52) (f 53) (f 54) (f 55) (f 56) (f 57) (f 58) (f 59) (f 60) (f 61) (f 62) (f 63) (f 64) (f 65) (f 66) (f 67) (f 68) (f 69) (f 70) (f 71) (f 72) (f 73) (f 74) (f 75) (f 76) (f 77) (f 78) (f 79) (f 80) (f 81) (f 82) (f 83) (f 84) (f 85) (f 86) (f 87) (f 88) (f 89) (f 90) (f 91) (f 92) (f 93) (f 94) (f 95) (f 96) (f 97) (f 98) (f 99) (f 100) (f 101) (f 102) (f 104) (f 105) (f 106) (f 107) (f 108) (f 109) (f 110) (f 111) (f 112) (f 113) (f 114) (f 115) (f 116) (f 117) (f 118) (f 119) (f 120) (f 121) (f 122) (f 123) (f 124) (f 125) (f 126) (f 127) (f 128) (f 129) (f 130) (f 131) (f 132) (f 133) (f 134) (f 135) (f 136) (f 137) (f 138) (f 139) (f 140) (f 141) (f 142) (f 143) (f 144) (f 145) (f 146) (f 147) (f 148) (f 149) (f 150) (f 151) (f 152) (f 153) (f 154) (f 155) (f 156) (f 157) (f 158) (f 159) (f 160) (f 161) (f 162) (f 163) (f 164) (f 165) (f 166) (f 167) (f 168) (f 169) (f 170) (f 171) (f 172) (f 173) (f 174) (f 175) (f 176) (f 177) (f 178) (f 179) (f 180) (f 181) (f 182) (f 183) (f 184) (f 185) (f 186) (f 187) (f 188) (f 189) (f 190) (f 191) (f 192) (f 193) (f 194) (f 195) (f 196) (f 197) (f 198) (f 199) (f 200) (f 201) (f 202) (f 203) (f 204) (f 205) (f 206) (f 207) (f 208) (f 209) (f 210) (f 211) (f 212) (f 213) (f 214) (f 215) (f 216) (f 217) (f 218) (f 219) (f 220) (f 221) (f 222) (f 223) (f 224) (f 225) (f 226) (f 227) (f 228) (f 229) (f 230) (f 231) (f 232) (f 233) (f 234) (f 235) (f 236) (f 237) (f 238) (f 239) (f 240) (f 241) (f 242) (f 243) (f 244) (f 245) (f 246) (f 247) (f 248) (f 249) (f 250) (f 251) (f 252) (f 253) (f 254) (f 255) (f 256) (f 257) (f 258) (f 259) (f 260) (f 261) (f 262) ?_
  intro g' n' cap' u17 u18 u104 u105 u106 u107 u108 u109 u110 u111 u112 u113 u114 u115 u116 u117 u118 u119 u120 u121 u122 u123 u124 u125 u126 u127 u128 u129 u130 u131 u132 u133 u134 u135 u136 u137 u138 u139 u140 u141 u142 u143 u144 u145 u146 u147 u148 u149 u150 u151 u152 u153 u154 u155 u156 u157 u158 u159 u160 u161 w2 e1 e2 e3
  have h := hQ (fun j => ([f 0, f 1, f 2, f 3, f 4, f 5, (.slice (some ⟨g', 0, none⟩) n' cap'), f 7, f 8, f 9, f 10, f 11, f 12, f 13, f 14, f 15, (.int .i64 (k : Int)), u17, u18, f 19, f 20, f 21, f 22, f 23, f 24, f 25, f 26, f 27, f 28, f 29, f 30, f 31, f 32, f 33, f 34, f 35, f 36, f 37, f 38, f 39, f 40, f 41, f 42, f 43, f 44, f 45, f 46, f 47, f 48, f 49, f 50, f 51, f 52, f 53, f 54, f 55, f 56, f 57, f 58, f 59, f 60, f 61, f 62, f 63, f 64, f 65, f 66, f 67, f 68, f 69, f 70, f 71, f 72, f 73, f 74, f 75, f 76, f 77, f 78, f 79, f 80, f 81, f 82, f 83, f 84, f 85, f 86, f 87, f 88, f 89, f 90, f 91, f 92, f 93, f 94, f 95, f 96, f 97, f 98, f 99, f 100, f 101, f 102, (.bool (decide (15 < (k : Int)))), u104, u105, u106, u107, u108, u109, u110, u111, u112, u113, u114, u115, u116, u117, u118, u119, u120, u121, u122, u123, u124, u125, u126, u127, u128, u129, u130, u131, u132, u133, u134, u135, u136, u137, u138, u139, u140, u141, u142, u143, u144, u145, u146, u147, u148, u149, u150, u151, u152, u153, u154, u155, u156, u157, u158, u159, u160, u161, f 162, f 163, f 164, f 165, f 166, f 167, f 168, f 169, f 170, f 171, f 172, f 173, f 174, f 175, f 176, f 177, f 178, f 179, f 180, f 181, f 182, f 183, f 184, f 185, f 186, f 187, f 188, f 189, f 190, f 191, f 192, f 193, f 194, f 195, f 196, f 197, f 198, f 199, f 200, f 201, f 202, f 203, f 204, f 205, f 206, f 207, f 208, f 209, f 210, f 211, f 212, f 213, f 214, f 215, f 216, f 217, f 218, f 219, f 220, f 221, f 222, f 223, f 224, f 225, f 226, f 227, f 228, f 229, f 230, f 231, f 232, f 233, f 234, f 235, f 236, f 237, f 238, f 239, f 240, f 241, f 242, f 243, f 244, f 245, f 246, f 247, f 248, f 249, f 250, f 251, f 252, f 253, f 254, f 255, f 256, f 257, f 258, f 259, f 260, f 261, f 262] : List Value).getD j undef) w2 g' n' cap' e1 e2 e3 rfl (fun j hj => by
    simp only [List.mem_cons, List.not_mem_nil, or_false] at hj
    rcases hj with rfl | rfl | rfl | rfl | rfl | rfl | rfl | rfl | rfl | rfl | rfl | rfl | rfl | rfl
    · rfl
    · rfl
    · rfl
    · rfl
    · rfl
    · rfl
    · rfl
    · rfl
    · rfl
    · rfl
    · rfl
    · rfl
    · rfl
    · exact (hf (16, (.int .i64 (k : Int))) (by simp)).symm)
  rw [← Fm_of _ 263 rfl] at h
  exact h
noncomputable def r17Code : Code := ((Tryd.f30.body.bind (oneRegion 17)).getD .skip)
set_option maxHeartbeats 4000000 in
set_option maxRecDepth 1000000 in
theorem r17 (k : Nat) (hk : k ≤ 64) (f : Nat → Value) (hf : ∀ p ∈ ([(16, (.int .i64 (k : Int)))] : List (Nat × Value)), f p.1 = p.2) (w : World) (K0 : Act → World → Prop) 
    (hQ : ∀ (f' : Nat → Value), f' 99 = .bool (decide ((k : Int) < 64)) → (∀ j ∈ [2, 3, 4, 5, 6, 7, 8, 9, 10, 11, 12, 13, 14, 15, 16], f' j = f j) → K0 (Fm 263 f') w) :
    Code.wp Tryd.prog r17Code (Only K0) (Fm 263 f) w := by
  have e : Fm 263 f = ⟨#[f 0, f 1, f 2, f 3, f 4, f 5, f 6, f 7, f 8, f 9, f 10, f 11, f 12, f 13, f 14, f 15, (.int .i64 (k : Int)), f 17, f 18, f 19, f 20, f 21, f 22, f 23, f 24, f 25, f 26, f 27, f 28, f 29, f 30, f 31, f 32, f 33, f 34, f 35, f 36, f 37, f 38, f 39, f 40, f 41, f 42, f 43, f 44, f 45, f 46, f 47, f 48, f 49, f 50, f 51, f 52, f 53, f 54, f 55, f 56, f 57, f 58, f 59, f 60, f 61, f 62, f 63, f 64, f 65, f 66, f 67, f 68, f 69, f 70, f 71, f 72, f 73, f 74, f 75, f 76, f 77, f 78, f 79, f 80, f 81, f 82, f 83, f 84, f 85, f 86, f 87, f 88, f 89, f 90, f 91, f 92, f 93, f 94, f 95, f 96, f 97, f 98, f 99, f 100, f 101, f 102, f 103, f 104, f 105, f 106, f 107, f 108, f 109, f 110, f 111, f 112, f 113, f 114, f 115, f 116, f 117, f 118, f 119, f 120, f 121, f 122, f 123, f 124, f 125, f 126, f 127, f 128, f 129, f 130, f 131, f 132, f 133, f 134, f 135, f 136, f 137, f 138, f 139, f 140, f 141, f 142, f 143, f 144, f 145, f 146, f 147, f 148, f 149, f 150, f 151, f 152, f 153, f 154, f 155, f 156, f 157, f 158, f 159, f 160, f 161, f 162, f 163, f 164, f 165, f 166, f 167, f 168, f 169, f 170, f 171, f 172, f 173, f 174, f 175, f 176, f 177, f 178, f 179, f 180, f 181, f 182, f 183, f 184, f 185, f 186, f 187, f 188, f 189, f 190, f 191, f 192, f 193, f 194, f 195, f 196, f 197, f 198, f 199, f 200, f 201, f 202, f 203, f 204, f 205, f 206, f 207, f 208, f 209, f 210, f 211, f 212, f 213, f 214, f 215, f 216, f 217, f 218, f 219, f 220, f 221, f 222, f 223, f 224, f 225, f 226, f 227, f 228, f 229, f 230, f 231, f 232, f 233, f 234, f 235, f 236, f 237, f 238, f 239, f 240, f 241, f 242, f 243, f 244, f 245, f 246, f 247, f 248, f 249, f 250, f 251, f 252, f 253, f 254, f 255, f 256, f 257, f 258, f 259, f 260, f 261, f 262], []⟩ := (congrArg (Fm 263) (ov_self f _ hf)).symm.trans rfl
  rw [e]
  have HQ : ∀ L : List Value, (hl : L.length = 263) → L.getD 99 undef = .bool (decide ((k : Int) < 64)) → (∀ j ∈ [2, 3, 4, 5, 6, 7, 8, 9, 10, 11, 12, 13, 14, 15, 16], L.getD j undef = f j) → K0 ⟨L.toArray, []⟩ w := fun L hl e99 hk => by
    rw [Fm_of L 263 hl]
    exact hQ _ e99 hk
  have HQ := Lib.hid HQ
  clear hQ
  conv => arg 2; whnf
  go_wp2
  refine HQ.out _ rfl rfl (fun j hj => ?_)
  simp only [List.mem_cons, List.not_mem_nil, or_false] at hj
  rcases hj with rfl | rfl | rfl | rfl | rfl | rfl | rfl | rfl | rfl | rfl | rfl | rfl | rfl | rfl | rfl
  · rfl
  · rfl
  · rfl
  · rfl
  · rfl
  · rfl
  · rfl
  · rfl
  · rfl
  · rfl
  · rfl
  · rfl
  · rfl
  · rfl
  · exact (hf (16, (.int .i64 (k : Int))) (by simp)).symm
noncomputable def r19Code : Code := ((Tryd.f30.body.bind (oneRegion 19)).getD .skip)
set_option maxHeartbeats 4000000 in
set_option maxRecDepth 1000000 in
theorem r19 (k : Nat) (hk : k < 64) (f : Nat → Value) (hf : ∀ p ∈ ([(16, (.int .i64 (k : Int)))] : List (Nat × Value)), f p.1 = p.2) (w : World) (K0 : Act → World → Prop) 
    (hQ : ∀ (f' : Nat → Value), f' 103 = .bool (decide (15 < (k : Int))) → (∀ j ∈ [2, 3, 4, 5, 6, 7, 8, 9, 10, 11, 12, 13, 14, 15, 16], f' j = f j) → K0 (Fm 263 f') w) :
    Code.wp Tryd.prog r19Code (Only K0) (Fm 263 f) w := by
  have e : Fm 263 f = ⟨#[f 0, f 1, f 2, f 3, f 4, f 5, f 6, f 7, f 8, f 9, f 10, f 11, f 12, f 13, f 14, f 15, (.int .i64 (k : Int)), f 17, f 18, f 19, f 20, f 21, f 22, f 23, f 24, f 25, f 26, f 27, f 28, f 29, f 30, f 31, f 32, f 33, f 34, f 35, f 36, f 37, f 38, f 39, f 40, f 41, f 42, f 43, f 44, f 45, f 46, f 47, f 48, f 49, f 50, f 51, f 52, f 53, f 54, f 55, f 56, f 57, f 58, f 59, f 60, f 61, f 62, f 63, f 64, f 65, f 66, f 67, f 68, f 69, f 70, f 71, f 72, f 73, f 74, f 75, f 76, f 77, f 78, f 79, f 80, f 81, f 82, f 83, f 84, f 85, f 86, f 87, f 88, f 89, f 90, f 91, f 92, f 93, f 94, f 95, f 96, f 97, f 98, f 99, f 100, f 101, f 102, f 103, f 104, f 105, f 106, f 107, f 108, f 109, f 110, f 111, f 112, f 113, f 114, f 115, f 116, f 117, f 118, f 119, f 120, f 121, f 122, f 123, f 124, f 125, f 126, f 127, f 128, f 129, f 130, f 131, f 132, f 133, f 134, f 135, f 136, f 137, f 138, f 139, f 140, f 141, f 142, f 143, f 144, f 145, f 146, f 147, f 148, f 149, f 150, f 151, f 152, f 153, f 154, f 155, f 156, f 157, f 158, f 159, f 160, f 161, f 162, f 163, f 164, f 165, f 166, f 167, f 168, f 169, f 170, f 171, f 172, f 173, f 174, f 175, f 176, f 177, f 178, f 179, f 180, f 181, f 182, f 183, f 184, f 185, f 186, f 187, f 188, f 189, f 190, f 191, f 192, f 193, f 194, f 195, f 196, f 197, f 198, f 199, f 200, f 201, f 202, f 203, f 204, f 205, f 206, f 207, f 208, f 209, f 210, f 211, f 212, f 213, f 214, f 215, f 216, f 217, f 218, f 219, f 220, f 221, f 222, f 223, f 224, f 225, f 226, f 227, f 228, f 229, f 230, f 231, f 232, f 233, f 234, f 235, f 236, f 237, f 238, f 239, f 240, f 241, f 242, f 243, f 244, f 245, f 246, f 247, f 248, f 249, f 250, f 251, f 252, f 253, f 254, f 255, f 256, f 257, f 258, f 259, f 260, f 261, f 262], []⟩ := (congrArg (Fm 263) (ov_self f _ hf)).symm.trans rfl
  rw [e]
  have HQ : ∀ L : List Value, (hl : L.length = 263) → L.getD 103 undef = .bool (decide (15 < (k : Int))) → (∀ j ∈ [2, 3, 4, 5, 6, 7, 8, 9, 10, 11, 12, 13, 14, 15, 16], L.getD j undef = f j) → K0 ⟨L.toArray, []⟩ w := fun L hl e103 hk => by
    rw [Fm_of L 263 hl]
    exact hQ _ e103 hk
  have HQ := Lib.hid HQ
  clear hQ
  conv => arg 2; whnf
  go_wp2
  refine HQ.out _ rfl rfl (fun j hj => ?_)
  simp only [List.mem_cons, List.not_mem_nil, or_false] at hj
  rcases hj with rfl | rfl | rfl | rfl | rfl | rfl | rfl | rfl | rfl | rfl | rfl | rfl | rfl | rfl | rfl
  · rfl
  · rfl
  · rfl
  · rfl
  · rfl
  · rfl
  · rfl
  · rfl
  · rfl
  · rfl
  · rfl
  · rfl
  · rfl
  · rfl
  · exact (hf (16, (.int .i64 (k : Int))) (by simp)).symm
noncomputable def r18Code : Code := ((Tryd.f30.body.bind (oneRegion 18)).getD .skip)
set_option maxHeartbeats 4000000 in
set_option maxRecDepth 1000000 in
theorem r18 (k : Nat) (hk : k < 64) (f : Nat → Value) (hf : ∀ p ∈ ([(16, (.int .i64 (k : Int)))] : List (Nat × Value)), f p.1 = p.2) (w : World) (K0 : Act → World → Prop) 
    (hQ : ∀ (f' : Nat → Value), f' 16 = .int .i64 ((k : Int) + 1) → (∀ j ∈ [2, 3, 4, 5, 6, 7, 8, 9, 10, 11, 12, 13, 14, 15], f' j = f j) → K0 (Fm 263 f') w) :
    Code.wp Tryd.prog r18Code (Only K0) (Fm 263 f) w := by
  have e : Fm 263 f = ⟨#[f 0, f 1, f 2, f 3, f 4, f 5, f 6, f 7, f 8, f 9, f 10, f 11, f 12, f 13, f 14, f 15, (.int .i64 (k : Int)), f 17, f 18, f 19, f 20, f 21, f 22, f 23, f 24, f 25, f 26, f 27, f 28, f 29, f 30, f 31, f 32, f 33, f 34, f 35, f 36, f 37, f 38, f 39, f 40, f 41, f 42, f 43, f 44, f 45, f 46, f 47, f 48, f 49, f 50, f 51, f 52, f 53, f 54, f 55, f 56, f 57, f 58, f 59, f 60, f 61, f 62, f 63, f 64, f 65, f 66, f 67, f 68, f 69, f 70, f 71, f 72, f 73, f 74, f 75, f 76, f 77, f 78, f 79, f 80, f 81, f 82, f 83, f 84, f 85, f 86, f 87, f 88, f 89, f 90, f 91, f 92, f 93, f 94, f 95, f 96, f 97, f 98, f 99, f 100, f 101, f 102, f 103, f 104, f 105, f 106, f 107, f 108, f 109, f 110, f 111, f 112, f 113, f 114, f 115, f 116, f 117, f 118, f 119, f 120, f 121, f 122, f 123, f 124, f 125, f 126, f 127, f 128, f 129, f 130, f 131, f 132, f 133, f 134, f 135, f 136, f 137, f 138, f 139, f 140, f 141, f 142, f 143, f 144, f 145, f 146, f 147, f 148, f 149, f 150, f 151, f 152, f 153, f 154, f 155, f 156, f 157, f 158, f 159, f 160, f 161, f 162, f 163, f 164, f 165, f 166, f 167, f 168, f 169, f 170, f 171, f 172, f 173, f 174, f 175, f 176, f 177, f 178, f 179, f 180, f 181, f 182, f 183, f 184, f 185, f 186, f 187, f 188, f 189, f 190, f 191, f 192, f 193, f 194, f 195, f 196, f 197, f 198, f 199, f 200, f 201, f 202, f 203, f 204, f 205, f 206, f 207, f 208, f 209, f 210, f 211, f 212, f 213, f 214, f 215, f 216, f 217, f 218, f 219, f 220, f 221, f 222, f 223, f 224, f 225, f 226, f 227, f 228, f 229, f 230, f 231, f 232, f 233, f 234, f 235, f 236, f 237, f 238, f 239, f 240, f 241, f 242, f 243, f 244, f 245, f 246, f 247, f 248, f 249, f 250, f 251, f 252, f 253, f 254, f 255, f 256, f 257, f 258, f 259, f 260, f 261, f 262], []⟩ := (congrArg (Fm 263) (ov_self f _ hf)).symm.trans rfl
  rw [e]
  have HQ : ∀ L : List Value, (hl : L.length = 263) → L.getD 16 undef = .int .i64 ((k : Int) + 1) → (∀ j ∈ [2, 3, 4, 5, 6, 7, 8, 9, 10, 11, 12, 13, 14, 15], L.getD j undef = f j) → K0 ⟨L.toArray, []⟩ w := fun L hl e16 hk => by
    rw [Fm_of L 263 hl]
    exact hQ _ e16 hk
  have HQ := Lib.hid HQ
  clear hQ
  conv => arg 2; whnf
  go_wp2
  refine HQ.out _ rfl rfl (fun j hj => ?_)
  simp only [List.mem_cons, List.not_mem_nil, or_false] at hj
  rcases hj with rfl | rfl | rfl | rfl | rfl | rfl | rfl | rfl | rfl | rfl | rfl | rfl | rfl | rfl
  · rfl
  · rfl
  · rfl
  · rfl
  · rfl
  · rfl
  · rfl
  · rfl
  · rfl
  · rfl
  · rfl
  · rfl
  · rfl
  · rfl
end Go.Proofs.YteafnknghnhlgaaDoor.Sha
namespace Go.Proofs.YteafnknghnhlgaaDoor.Sha
open Go.RowKit Base

noncomputable def loop4Code : Code := ((Tryd.f30.body.bind (blockFull 6))).getD .skip
theorem loop4_is : loop4Code = .block 6 (.loop (.seq (.seq r17Code (.cond (.tmp 99) .skip (.exit 6))) (.seq (.block 7 (.seq (.seq r19Code cond103) tail4Code)) r18Code))) := by kernel_rfl
def L4 (f0 : Nat → Value) (B : Nat → Int) (T0 : St) (base : Nat) (w0 : World) (a' : Act) (w' : World) (k : Nat) : Prop :=
  ∃ (f : Nat → Value) (n g cap : Nat) (T : St), a' = Fm 263 f ∧ k ≤ 64 ∧ n = (if k < 16 then 16 else k) ∧ rds K (W B) k T0 = T ∧ f 6 = .slice (some ⟨g, 0, none⟩) n cap ∧ f 8 = .int .u32 T.a ∧ f 9 = .int .u32 T.b ∧ f 10 = .int .u32 T.c ∧ f 11 = .int .u32 T.d ∧ f 12 = .int .u32 T.e ∧ f 13 = .int .u32 T.f ∧ f 14 = .int .u32 T.g ∧ f 15 = .int .u32 T.h ∧ f 16 = .int .i64 (k : Int) ∧ (∀ j ∈ [2, 3, 4, 5, 7], f j = f0 j) ∧
    w'.ownsRow base 59 1 (.slice (some ⟨g, 0, none⟩) n cap) n ((sch B n).map (.int .u32)) ∧ Fr (fun b => base ≤ b) w0 w'
set_option maxHeartbeats 1000000 in
theorem loop4_any (B : Nat → Int) (T0 : St) (okT0 : T0.ok) (g cap base : Nat) (f0 : Nat → Value) (h6 : f0 6 = .slice (some ⟨g, 0, none⟩) 16 cap) (h8 : f0 8 = .int .u32 T0.a) (h9 : f0 9 = .int .u32 T0.b) (h10 : f0 10 = .int .u32 T0.c) (h11 : f0 11 = .int .u32 T0.d) (h12 : f0 12 = .int .u32 T0.e) (h13 : f0 13 = .int .u32 T0.f) (h14 : f0 14 = .int .u32 T0.g) (h15 : f0 15 = .int .u32 T0.h) (h16 : f0 16 = .int .i64 0) (w : World)
    (hown : w.ownsRow base 59 1 (.slice (some ⟨g, 0, none⟩) 16 cap) 16 ((sch B 16).map (.int .u32))) (hbase : base ≤ w.heap.size) (K0 : Act → World → Prop)
    (hQ : ∀ (f' : Nat → Value) (w2 : World) (g' cap' : Nat), f' 6 = .slice (some ⟨g', 0, none⟩) 64 cap' → f' 8 = .int .u32 (rds K (W B) 64 T0).a → f' 9 = .int .u32 (rds K (W B) 64 T0).b → f' 10 = .int .u32 (rds K (W B) 64 T0).c → f' 11 = .int .u32 (rds K (W B) 64 T0).d → f' 12 = .int .u32 (rds K (W B) 64 T0).e → f' 13 = .int .u32 (rds K (W B) 64 T0).f → f' 14 = .int .u32 (rds K (W B) 64 T0).g → f' 15 = .int .u32 (rds K (W B) 64 T0).h → (∀ j ∈ [2, 3, 4, 5, 7], f' j = f0 j) →
      w2.ownsRow base 59 1 (.slice (some ⟨g', 0, none⟩) 64 cap') 64 ((sch B 64).map (.int .u32)) → Fr (fun b => base ≤ b) w w2 → K0 (Fm 263 f') w2) :
    Code.wp Tryd.prog loop4Code (Only K0) (Fm 263 f0) w := by
  rw [loop4_is]
  refine wp_block (wp_loop (fun a' w' => ∃ k, L4 f0 B T0 base w a' w' k) (fun a' _ => 64 - (intOf (a'.eval (.tmp 16))).toNat) ?_ ?_)
  · exact ⟨0, f0, 16, g, cap, T0, rfl, by omega, by simp, rfl, h6, h8, h9, h10, h11, h12, h13, h14, h15, h16, fun _ _ => rfl, hown, Fr.refl _ _⟩
  · rintro _ wr ⟨k, f, n, g, cap, T, rfl, hk, hn, hT, e6, e8, e9, e10, e11, e12, e13, e14, e15, e16, hkeep, hown, hF⟩
    refine wp_seq (wp_seq (wp_mono (r17 k hk f (by simp [e16]) wr _ ?_) Only.then))
    intro f1 e99 k1
    have q := fun j (hj : j ∈ [2, 3, 4, 5, 7]) => (k1 j (by simp at hj ⊢; omega)).trans (hkeep j hj)
    by_cases hlt : k < 64
    · have hd : decide ((k : Int) < 64) = true := by rw [decide_eq_true_eq]; omega
      rw [hd] at e99
      refine wp_cond_true ((Fm_eval _ _ _ (by decide)).trans e99) (wp_skip ?_)
      refine wp_seq (wp_block ?_)
      refine wp_seq (wp_seq (wp_mono (r19 k hlt f1 (by simp [k1, e16]) wr _ ?_) Only.then))
      intro f2 e103 k2
      refine wp_mono (condF B k n g cap base hn hlt f2 (by simp [k2, k1, e6, e16, e103]) wr _ hown (Nat.le_trans hbase hF.size) ?_) Only.then
      intro f3 w3 g' n' cap' hn' hown3 hF3 e63 k3
      have hkn : k < n' := by rw [hn']; split <;> omega
      have okT : T.ok := by rw [← hT]; exact rds_ok _ _ okT0 k
      have hn64 : n' ≤ 64 := by rw [hn']; split <;> omega
      have hcell : w3.cell? ⟨g', k, none⟩ = some (.int .u32 (W B k)) := by
        rw [hown3.cellAt k (by omega)]
        exact words_get _ n' k hkn hn64
      refine wp_mono (tail4F k n' g' cap' T.a T.b T.c T.d T.e T.f T.g T.h (W B k) hlt hkn f3 (by simp [k3, k2, k1, e63, e8, e9, e10, e11, e12, e13, e14, e15, e16]) w3 _ (okT 0) (okT 1) (okT 2) (okT 3) (okT 4) (okT 5) (okT 6) (okT 7) hcell ?_) Only.inBlock
      intro f4 w4 hF4 x8 x9 x10 x11 x12 x13 x14 x15 k4
      refine wp_mono (r18 k hlt f4 (by simp [k4, k3, k2, k1, e16]) w4 _ ?_) Only.then
      intro f5 x16 k5
      refine ⟨⟨k + 1, f5, n', g', cap', rstep (K k) (W B k) T, rfl, by omega, hn', by rw [← hT]; rfl, ?_, ?_, ?_, ?_, ?_, ?_, ?_, ?_, ?_, by rw [x16]; rfl, ?_, ?_, ?_⟩, ?_⟩
      · rw [k5 6 (by simp), k4 6 (by simp), e63]
      · rw [k5 8 (by simp), x8]; rfl
      · rw [k5 9 (by simp), x9]; rfl
      · rw [k5 10 (by simp), x10]; rfl
      · rw [k5 11 (by simp), x11]; rfl
      · rw [k5 12 (by simp), x12]; rfl
      · rw [k5 13 (by simp), x13]; rfl
      · rw [k5 14 (by simp), x14]; rfl
      · rw [k5 15 (by simp), x15]; rfl
      · intro j hj
        rw [k5 j (by simp at hj ⊢; omega), k4 j (by simp at hj ⊢; omega), k3 j (by simp at hj ⊢; omega), k2 j (by simp at hj ⊢; omega)]
        exact q j hj
      · rcases hown3.2 with ⟨h, _⟩ | ⟨x, c, cur, hv, hb, hg, h1, h2, h3, h4⟩
        · cases h
        · exact ⟨hown3.1, .inr ⟨x, c, cur, hv, hb, hF4.heap hg (fun f => f), h1, h2, h3, h4⟩⟩
      · exact (hF.trans hF3 (fun i _ h => h)).trans hF4 (fun i _ h => h.elim)
      · rw [Fm_eval _ _ _ (by decide), Fm_eval _ _ _ (by decide), x16, e16]
        simp only [intOf]
        omega
    · have hd : decide ((k : Int) < 64) = false := by rw [decide_eq_false_iff_not]; omega
      rw [hd] at e99
      have hk64 : k = 64 := by omega
      subst hk64
      refine wp_cond_false ((Fm_eval _ _ _ (by decide)).trans e99) (wp_exit ?_)
      have hn' : n = 64 := hn
      subst hn'
      subst hT
      exact hQ f1 wr g cap (by rw [k1 6 (by simp), e6]) (by rw [k1 8 (by simp), e8]) (by rw [k1 9 (by simp), e9]) (by rw [k1 10 (by simp), e10]) (by rw [k1 11 (by simp), e11]) (by rw [k1 12 (by simp), e12]) (by rw [k1 13 (by simp), e13]) (by rw [k1 14 (by simp), e14]) (by rw [k1 15 (by simp), e15]) q hown hF
end Go.Proofs.YteafnknghnhlgaaDoor.Sha
