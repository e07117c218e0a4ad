/-
  Pieces of the reference's Sum, each a declaration of its own (made by wip/tools/mkpiece.py).
-/
import Derived.Test.YtcdfflieooopjaaDoorRefHi
import Derived.Test.YtcdfflieooopjaaDoorHeld
namespace Go.Proofs.YtcdfflieooopjaaDoor.Sha
open Go.RowKit Base

/-- the code from a region on, to its block's end -/
def fromRegion (n : Nat) : Code → Option Code
  | .seq (.region k ops b) rest => if k = n then some (.seq (.region k ops b) rest) else fromRegion n rest
  | .seq a b => match fromRegion n a with
    | some c => some c
    | none => fromRegion n b
  | .cond _ a b => match fromRegion n a with
    | some c => some c
    | none => fromRegion n b
  | .loop c => fromRegion n c
  | .block _ c => fromRegion n c
  | .scope c => fromRegion n c
  | _ => none
noncomputable def tail4Code : Code := ((Tryd.f22.body.bind (fromRegion 23)).getD .skip)
set_option maxHeartbeats 4000000 in
set_option maxRecDepth 1000000 in
theorem tail4 (k n g cap : Nat) (ta tb tc td te tf tg th wk : Int) (hk : k < 64) (hkn : k < n) (w : World) (K0 : Act → World → Prop)
    (ba : 0 ≤ ta ∧ ta < 4294967296) (bb : 0 ≤ tb ∧ tb < 4294967296) (bc : 0 ≤ tc ∧ tc < 4294967296) (bd : 0 ≤ td ∧ td < 4294967296) (be : 0 ≤ te ∧ te < 4294967296) (bf : 0 ≤ tf ∧ tf < 4294967296) (bg : 0 ≤ tg ∧ tg < 4294967296) (bh : 0 ≤ th ∧ th < 4294967296)
    (hcell : w.cell? ⟨g, k, none⟩ = some (.int .u32 wk))
    (c0 c1 c2 c3 c4 c5 c7 c17 c18 c19 c20 c21 c22 c23 c24 c25 c26 c27 c28 c29 c30 c31 c32 c33 c34 c35 c36 c37 c38 c39 c40 c41 c42 c43 c44 c45 c46 c47 c48 c49 c50 c51 c52 c53 c54 c55 c56 c57 c58 c59 c60 c61 c62 c63 c64 c65 c66 c67 c68 c69 c70 c71 c72 c73 c74 c75 c76 c77 c78 c79 c80 c81 c82 c83 c84 c85 c86 c87 c88 c89 c90 c91 c92 c93 c94 c95 c96 c97 c98 c99 c100 c101 c102 c103 c104 c105 c106 c107 c108 c109 c110 c111 c112 c113 c114 c115 c116 c117 c118 c119 c120 c121 c122 c123 c124 c125 c126 c127 c128 c129 c130 c131 c132 c133 c134 c135 c136 c137 c138 c139 c140 c141 c142 c143 c144 c145 c146 c147 c148 c149 c150 c151 c152 c153 c154 c155 c156 c157 c158 c159 c160 c161 c162 c163 c164 c165 c166 c167 c168 c169 c170 c171 c172 c173 c174 c175 c176 c177 c178 c179 c180 c181 c182 c183 c184 c185 c186 c187 c188 c189 c190 c191 c192 c193 c194 c195 c196 c197 c198 c199 c200 c201 c202 c203 c204 c205 c206 c207 c208 c209 c210 c211 c212 c213 c214 c215 c216 c217 c218 c219 c220 c221 c222 c223 c224 c225 c226 c227 c228 c229 c230 c231 c232 c233 c234 c235 c236 c237 c238 c239 c240 c241 c242 c243 c244 c245 c246 c247 c248 c249 c250 c251 c252 c253 c254 c255 c256 c257 c258 c259 c260 c261 c262 : Value)
    (hQ : ∀ (v8 v12 : Value) (u19 u20 u21 u22 u162 u163 u164 u165 u166 u167 u168 u169 u170 u171 u172 u173 u174 u175 u176 u177 u178 u179 u180 u181 u182 u183 u184 u185 u186 u187 u188 u189 u190 u191 u192 u193 u194 u195 u196 u197 u198 u199 u200 u201 u202 u203 u204 u205 u206 u207 u208 u209 u210 u211 u212 u213 u214 u215 u216 u217 u218 u219 u220 u221 u222 : Value) (w2 : World), v8 = .int .u32 ((first (K k) wk ⟨ta, tb, tc, td, te, tf, tg, th⟩ + second ⟨ta, tb, tc, td, te, tf, tg, th⟩) % 4294967296) → v12 = .int .u32 ((td + first (K k) wk ⟨ta, tb, tc, td, te, tf, tg, th⟩) % 4294967296) → Fr0 w w2 →
      K0 ⟨#[c0, c1, c2, c3, c4, c5, (.slice (some ⟨g, 0, none⟩) n cap), c7, v8, (.int .u32 ta), (.int .u32 tb), (.int .u32 tc), v12, (.int .u32 te), (.int .u32 tf), (.int .u32 tg), (.int .i64 (k : Int)), c17, c18, u19, u20, u21, u22, c23, c24, c25, c26, c27, c28, c29, c30, c31, c32, c33, c34, c35, c36, c37, c38, c39, c40, c41, c42, c43, c44, c45, c46, c47, c48, c49, c50, c51, c52, c53, c54, c55, c56, c57, c58, c59, c60, c61, c62, c63, c64, c65, c66, c67, c68, c69, c70, c71, c72, c73, c74, c75, c76, c77, c78, c79, c80, c81, c82, c83, c84, c85, c86, c87, c88, c89, c90, c91, c92, c93, c94, c95, c96, c97, c98, c99, c100, c101, c102, c103, c104, c105, c106, c107, c108, c109, c110, c111, c112, c113, c114, c115, c116, c117, c118, c119, c120, c121, c122, c123, c124, c125, c126, c127, c128, c129, c130, c131, c132, c133, c134, c135, c136, c137, c138, c139, c140, c141, c142, c143, c144, c145, c146, c147, c148, c149, c150, c151, c152, c153, c154, c155, c156, c157, c158, c159, c160, c161, u162, u163, u164, u165, u166, u167, u168, u169, u170, u171, u172, u173, u174, u175, u176, u177, u178, u179, u180, u181, u182, u183, u184, u185, u186, u187, u188, u189, u190, u191, u192, u193, u194, u195, u196, u197, u198, u199, u200, u201, u202, u203, u204, u205, u206, u207, u208, u209, u210, u211, u212, u213, u214, u215, u216, u217, u218, u219, u220, u221, u222, c223, c224, c225, c226, c227, c228, c229, c230, c231, c232, c233, c234, c235, c236, c237, c238, c239, c240, c241, c242, c243, c244, c245, c246, c247, c248, c249, c250, c251, c252, c253, c254, c255, c256, c257, c258, c259, c260, c261, c262], []⟩ w2) :
    Code.wp Tryd.prog tail4Code (Only K0) ⟨#[c0, c1, c2, c3, c4, c5, (.slice (some ⟨g, 0, none⟩) n cap), c7, (.int .u32 ta), (.int .u32 tb), (.int .u32 tc), (.int .u32 td), (.int .u32 te), (.int .u32 tf), (.int .u32 tg), (.int .u32 th), (.int .i64 (k : Int)), c17, c18, c19, c20, c21, c22, c23, c24, c25, c26, c27, c28, c29, c30, c31, c32, c33, c34, c35, c36, c37, c38, c39, c40, c41, c42, c43, c44, c45, c46, c47, c48, c49, c50, c51, c52, c53, c54, c55, c56, c57, c58, c59, c60, c61, c62, c63, c64, c65, c66, c67, c68, c69, c70, c71, c72, c73, c74, c75, c76, c77, c78, c79, c80, c81, c82, c83, c84, c85, c86, c87, c88, c89, c90, c91, c92, c93, c94, c95, c96, c97, c98, c99, c100, c101, c102, c103, c104, c105, c106, c107, c108, c109, c110, c111, c112, c113, c114, c115, c116, c117, c118, c119, c120, c121, c122, c123, c124, c125, c126, c127, c128, c129, c130, c131, c132, c133, c134, c135, c136, c137, c138, c139, c140, c141, c142, c143, c144, c145, c146, c147, c148, c149, c150, c151, c152, c153, c154, c155, c156, c157, c158, c159, c160, c161, c162, c163, c164, c165, c166, c167, c168, c169, c170, c171, c172, c173, c174, c175, c176, c177, c178, c179, c180, c181, c182, c183, c184, c185, c186, c187, c188, c189, c190, c191, c192, c193, c194, c195, c196, c197, c198, c199, c200, c201, c202, c203, c204, c205, c206, c207, c208, c209, c210, c211, c212, c213, c214, c215, c216, c217, c218, c219, c220, c221, c222, c223, c224, c225, c226, c227, c228, c229, c230, c231, c232, c233, c234, c235, c236, c237, c238, c239, c240, c241, c242, c243, c244, c245, c246, c247, c248, c249, c250, c251, c252, c253, c254, c255, c256, c257, c258, c259, c260, c261, c262], []⟩ w := by
  have HC := Lib.hid hcell
  have HQ := Lib.hid hQ
  have hk0 : (0 : Int) ≤ (k : Int) := by omega
  have hkn' : (k : Int) < (n : Int) := by omega
  clear hcell hQ
  obtain ⟨X, hX⟩ : ∃ X, X = first (K k) wk ⟨ta, tb, tc, td, te, tf, tg, th⟩ := ⟨_, rfl⟩
  have hXe : (th + up1 te + choose te tf tg + K k + wk) % 4294967296 = X := hX.symm
  have bX : 0 ≤ X ∧ X < 4294967296 := by rw [hX]; unfold first; omega
  have HX := Lib.hid hX
  have HXE := Lib.hid hXe
  clear hX hXe
  conv => arg 2; whnf
  go_wp2_with fail
  refine region_held (Fr0 w) (by kernel_rfl) (by kernel_rfl) ((Fr.refl _ _).drew) ?_
  refine heldVal (.int .u32 th) rfl (fun wx h => by go_simp) ?_
  go_frame
  refine heldVal (.int .u32 te) rfl (fun wx h => by go_simp) ?_
  go_frame
  refine heldCall 39 #[.int .u32 te, .int .i64 6] (.int .u32 (rl te 26)) rfl (fun wx h => by go_simp) (fun wx h => (rightZ te 6 be.1 be.2 (by decide) (by decide) wx).mono fun e w' ⟨he, hf⟩ => ⟨he, by subst hf; exact h⟩) ?_
  go_frame
  refine heldVal (.int .u32 te) rfl (fun wx h => by go_simp) ?_
  go_frame
  refine heldCall 39 #[.int .u32 te, .int .i64 11] (.int .u32 (rl te 21)) rfl (fun wx h => by go_simp) (fun wx h => (rightZ te 11 be.1 be.2 (by decide) (by decide) wx).mono fun e w' ⟨he, hf⟩ => ⟨he, by subst hf; exact h⟩) ?_
  go_frame
  refine heldVal (.int .u32 (bits .xor .u32 (rl te 26) (rl te 21))) rfl (fun wx h => by go_simp) ?_
  go_frame
  refine heldVal (.int .u32 te) rfl (fun wx h => by go_simp) ?_
  go_frame
  refine heldCall 39 #[.int .u32 te, .int .i64 25] (.int .u32 (rl te 7)) rfl (fun wx h => by go_simp) (fun wx h => (rightZ te 25 be.1 be.2 (by decide) (by decide) wx).mono fun e w' ⟨he, hf⟩ => ⟨he, by subst hf; exact h⟩) ?_
  go_frame
  refine heldVal (.int .u32 (up1 te)) rfl (fun wx h => by go_simp; rfl) ?_
  go_frame
  refine heldVal (.int .u32 ((th + up1 te) % 4294967296)) rfl (fun wx h => by go_simp; rw [IntKind.wrap_u32']) ?_
  go_frame
  refine heldVal (.int .u32 (choose te tf tg)) rfl (fun wx h => by go_simp; rfl) ?_
  go_frame
  refine heldVal (.int .u32 ((th + up1 te + choose te tf tg) % 4294967296)) rfl (fun wx h => by go_simp; rw [IntKind.wrap_u32']; omega) ?_
  go_frame
  refine heldVal (.int .i64 (k : Int)) rfl (fun wx h => by go_simp) ?_
  go_frame
  refine heldCall 40 #[.int .i64 (k : Int)] (.int .u32 (K k)) rfl (fun wx h => by go_simp) (fun wx h => (round_any k hk wx).mono fun e w' ⟨he, hf⟩ => ⟨he, h.trans' hf⟩) ?_
  go_frame
  refine heldVal (.int .u32 ((th + up1 te + choose te tf tg + K k) % 4294967296)) rfl (fun wx h => by go_simp; rw [IntKind.wrap_u32']; omega) ?_
  go_frame
  refine heldVal (.slice (some ⟨g, 0, none⟩) n cap) rfl (fun wx h => by go_simp) ?_
  go_frame
  refine heldVal (.int .i64 (k : Int)) rfl (fun wx h => by go_simp) ?_
  go_frame
  refine heldVal (.pointer (some ⟨g, k, none⟩)) rfl (fun wx h => by go_simp) ?_
  go_frame
  refine heldVal (.int .u32 wk) rfl (fun wx h => by have hcx : wx.cell? ⟨g, k, none⟩ = some (.int .u32 wk) := (h.cell (p := ⟨g, k, none⟩) (World.block_lt_of_cell? w _ HC.out) (fun f => f)).trans HC.out; go_simp) ?_
  go_frame
  refine heldVal (.int .u32 X) rfl (fun wx h => by go_simp; rw [IntKind.wrap_u32', ← HXE.out]; omega) ?_
  go_frame
  refine heldVal (.int .u32 X) rfl (fun wx h => by go_simp) ?_
  go_frame
  refine wpQuiet_nil ?_
  intro w2 hw2
  have HF := Lib.hid hw2
  clear hw2
  go_wp2_with fail
  refine (rightZ ta 2 ba.1 ba.2 (by decide) (by decide) _).mono ?_
  rintro e w' ⟨rfl, rfl⟩
  go_wp2_with fail
  refine (rightZ ta 13 ba.1 ba.2 (by decide) (by decide) _).mono ?_
  rintro e w' ⟨rfl, rfl⟩
  go_wp2_with fail
  refine (rightZ ta 22 ba.1 ba.2 (by decide) (by decide) _).mono ?_
  rintro e w' ⟨rfl, rfl⟩
  go_wp2_with fail
  refine HQ.out _ _ _ _ _ _ _ _ _ _ _ _ _ _ _ _ _ _ _ _ _ _ _ _ _ _ _ _ _ _ _ _ _ _ _ _ _ _ _ _ _ _ _ _ _ _ _ _ _ _ _ _ _ _ _ _ _ _ _ _ _ _ _ _ _ _ _ w2 ?_ ?_ HF.out
  · rw [← HX.out]
    unfold second up0 most x3
    simp only [IntKind.wrap_u32']
  · rw [← HX.out]
def condFull (t : Nat) : Code → Option Code
  | .cond (.tmp k) a b => if k = t then some (.cond (.tmp k) a b) else match condFull t a with
    | some c => some c
    | none => condFull t b
  | .seq a b => match condFull t a with
    | some c => some c
    | none => condFull t b
  | .loop c => condFull t c
  | .block _ c => condFull t c
  | _ => none
noncomputable def cond103 : Code := ((Tryd.f22.body.bind (condFull 103)).getD .skip)
theorem cond103_is : cond103 = .cond (.tmp 103) hiCode .skip := by kernel_rfl
theorem Only.then {K : Act → World → Prop} {Q : Exit → Act → World → Prop} : ∀ (e : Exit) (a : Act) (w : World), Only K e a w → Exit.then K Q e a w := fun e a w h => by
  cases e <;> first | exact h | exact (h : False).elim
set_option maxHeartbeats 4000000 in
set_option maxRecDepth 1000000 in
theorem cond_step (B : Nat → Int) (k n g cap base : Nat) (hn : n = if k < 16 then 16 else k) (h64 : k < 64) (w : World) (K0 : Act → World → Prop)
    (hown : w.ownsRow base 49 1 (.slice (some ⟨g, 0, none⟩) n cap) n ((sch B n).map (.int .u32))) (hbase : base ≤ w.heap.size)
    (c0 c1 c2 c3 c4 c5 c7 c8 c9 c10 c11 c12 c13 c14 c15 c17 c18 c19 c20 c21 c22 c23 c24 c25 c26 c27 c28 c29 c30 c31 c32 c33 c34 c35 c36 c37 c38 c39 c40 c41 c42 c43 c44 c45 c46 c47 c48 c49 c50 c51 c52 c53 c54 c55 c56 c57 c58 c59 c60 c61 c62 c63 c64 c65 c66 c67 c68 c69 c70 c71 c72 c73 c74 c75 c76 c77 c78 c79 c80 c81 c82 c83 c84 c85 c86 c87 c88 c89 c90 c91 c92 c93 c94 c95 c96 c97 c98 c99 c100 c101 c102 c104 c105 c106 c107 c108 c109 c110 c111 c112 c113 c114 c115 c116 c117 c118 c119 c120 c121 c122 c123 c124 c125 c126 c127 c128 c129 c130 c131 c132 c133 c134 c135 c136 c137 c138 c139 c140 c141 c142 c143 c144 c145 c146 c147 c148 c149 c150 c151 c152 c153 c154 c155 c156 c157 c158 c159 c160 c161 c162 c163 c164 c165 c166 c167 c168 c169 c170 c171 c172 c173 c174 c175 c176 c177 c178 c179 c180 c181 c182 c183 c184 c185 c186 c187 c188 c189 c190 c191 c192 c193 c194 c195 c196 c197 c198 c199 c200 c201 c202 c203 c204 c205 c206 c207 c208 c209 c210 c211 c212 c213 c214 c215 c216 c217 c218 c219 c220 c221 c222 c223 c224 c225 c226 c227 c228 c229 c230 c231 c232 c233 c234 c235 c236 c237 c238 c239 c240 c241 c242 c243 c244 c245 c246 c247 c248 c249 c250 c251 c252 c253 c254 c255 c256 c257 c258 c259 c260 c261 c262 : Value)
    (hQ : ∀ (g' n' cap' : Nat) (u17 u18 u104 u105 u106 u107 u108 u109 u110 u111 u112 u113 u114 u115 u116 u117 u118 u119 u120 u121 u122 u123 u124 u125 u126 u127 u128 u129 u130 u131 u132 u133 u134 u135 u136 u137 u138 u139 u140 u141 u142 u143 u144 u145 u146 u147 u148 u149 u150 u151 u152 u153 u154 u155 u156 u157 u158 u159 u160 u161 : Value) (w2 : World), n' = (if k + 1 < 16 then 16 else k + 1) → w2.ownsRow base 49 1 (.slice (some ⟨g', 0, none⟩) n' cap') n' ((sch B n').map (.int .u32)) → Fr (fun b => base ≤ b) w w2 →
      K0 ⟨#[c0, c1, c2, c3, c4, c5, (.slice (some ⟨g', 0, none⟩) n' cap'), c7, c8, c9, c10, c11, c12, c13, c14, c15, (.int .i64 (k : Int)), u17, u18, c19, c20, c21, c22, c23, c24, c25, c26, c27, c28, c29, c30, c31, c32, c33, c34, c35, c36, c37, c38, c39, c40, c41, c42, c43, c44, c45, c46, c47, c48, c49, c50, c51, c52, c53, c54, c55, c56, c57, c58, c59, c60, c61, c62, c63, c64, c65, c66, c67, c68, c69, c70, c71, c72, c73, c74, c75, c76, c77, c78, c79, c80, c81, c82, c83, c84, c85, c86, c87, c88, c89, c90, c91, c92, c93, c94, c95, c96, c97, c98, c99, c100, c101, c102, (.bool (decide (15 < (k : Int)))), u104, u105, u106, u107, u108, u109, u110, u111, u112, u113, u114, u115, u116, u117, u118, u119, u120, u121, u122, u123, u124, u125, u126, u127, u128, u129, u130, u131, u132, u133, u134, u135, u136, u137, u138, u139, u140, u141, u142, u143, u144, u145, u146, u147, u148, u149, u150, u151, u152, u153, u154, u155, u156, u157, u158, u159, u160, u161, c162, c163, c164, c165, c166, c167, c168, c169, c170, c171, c172, c173, c174, c175, c176, c177, c178, c179, c180, c181, c182, c183, c184, c185, c186, c187, c188, c189, c190, c191, c192, c193, c194, c195, c196, c197, c198, c199, c200, c201, c202, c203, c204, c205, c206, c207, c208, c209, c210, c211, c212, c213, c214, c215, c216, c217, c218, c219, c220, c221, c222, c223, c224, c225, c226, c227, c228, c229, c230, c231, c232, c233, c234, c235, c236, c237, c238, c239, c240, c241, c242, c243, c244, c245, c246, c247, c248, c249, c250, c251, c252, c253, c254, c255, c256, c257, c258, c259, c260, c261, c262], []⟩ w2) :
    Code.wp Tryd.prog cond103 (Only K0) ⟨#[c0, c1, c2, c3, c4, c5, (.slice (some ⟨g, 0, none⟩) n cap), c7, c8, c9, c10, c11, c12, c13, c14, c15, (.int .i64 (k : Int)), c17, c18, c19, c20, c21, c22, c23, c24, c25, c26, c27, c28, c29, c30, c31, c32, c33, c34, c35, c36, c37, c38, c39, c40, c41, c42, c43, c44, c45, c46, c47, c48, c49, c50, c51, c52, c53, c54, c55, c56, c57, c58, c59, c60, c61, c62, c63, c64, c65, c66, c67, c68, c69, c70, c71, c72, c73, c74, c75, c76, c77, c78, c79, c80, c81, c82, c83, c84, c85, c86, c87, c88, c89, c90, c91, c92, c93, c94, c95, c96, c97, c98, c99, c100, c101, c102, (.bool (decide (15 < (k : Int)))), c104, c105, c106, c107, c108, c109, c110, c111, c112, c113, c114, c115, c116, c117, c118, c119, c120, c121, c122, c123, c124, c125, c126, c127, c128, c129, c130, c131, c132, c133, c134, c135, c136, c137, c138, c139, c140, c141, c142, c143, c144, c145, c146, c147, c148, c149, c150, c151, c152, c153, c154, c155, c156, c157, c158, c159, c160, c161, c162, c163, c164, c165, c166, c167, c168, c169, c170, c171, c172, c173, c174, c175, c176, c177, c178, c179, c180, c181, c182, c183, c184, c185, c186, c187, c188, c189, c190, c191, c192, c193, c194, c195, c196, c197, c198, c199, c200, c201, c202, c203, c204, c205, c206, c207, c208, c209, c210, c211, c212, c213, c214, c215, c216, c217, c218, c219, c220, c221, c222, c223, c224, c225, c226, c227, c228, c229, c230, c231, c232, c233, c234, c235, c236, c237, c238, c239, c240, c241, c242, c243, c244, c245, c246, c247, c248, c249, c250, c251, c252, c253, c254, c255, c256, c257, c258, c259, c260, c261, c262], []⟩ w := by
  rw [cond103_is]
  by_cases h15 : 15 < k
  · have hn' : n = k := by rw [hn, if_neg (by omega)]
    subst hn'
    have hd : decide (15 < (n : Int)) = true := by rw [decide_eq_true_eq]; omega
    rw [hd] at hQ ⊢
    refine wp_cond_true rfl ?_
    exact hi_step B n g cap base h15 h64 w K0 hown hbase _ _ _ _ _ _ _ _ _ _ _ _ _ _ _ _ _ _ _ _ _ _ _ _ _ _ _ _ _ _ _ _ _ _ _ _ _ _ _ _ _ _ _ _ _ _ _ _ _ _ _ _ _ _ _ _ _ _ _ _ _ _ _ _ _ _ _ _ _ _ _ _ _ _ _ _ _ _ _ _ _ _ _ _ _ _ _ _ _ _ _ _ _ _ _ _ _ _ _ _ _ _ _ _ _ _ _ _ _ _ _ _ _ _ _ _ _ _ _ _ _ _ _ _ _ _ _ _ _ _ _ _ _ _ _ _ _ _ _ _ _ _ _ _ _ _ _ _ _ _ _ _ _ _ _ _ _ _ _ _ _ _ _ _ _ _ _ _ _ _ _ _ _ _ _ _ _ _ _ _ _ _ _ _ _ _ _ _ _ _ _ _ _ _ _ _ _ _ _ _ _ _ _ _ _ _ _ _ _ _ _ _ _ _ _ _ _ _ _ _ _ _ _ _ _ _ _ _ _ _ _ _ _ _ _ _ _ _ _ _ _ _ _ _ _ _ _ _ _ _ _ _ _ _ _ _ _ _ _ _ _ (fun g' cap' u17 u18 u104 u105 u106 u107 u108 u109 u110 u111 u112 u113 u114 u115 u116 u117 u118 u119 u120 u121 u122 u123 u124 u125 u126 u127 u128 u129 u130 u131 u132 u133 u134 u135 u136 u137 u138 u139 u140 u141 u142 u143 u144 u145 u146 u147 u148 u149 u150 u151 u152 u153 u154 u155 u156 u157 u158 u159 u160 u161 w2 h1 h2 => hQ g' (n + 1) cap' _ _ _ _ _ _ _ _ _ _ _ _ _ _ _ _ _ _ _ _ _ _ _ _ _ _ _ _ _ _ _ _ _ _ _ _ _ _ _ _ _ _ _ _ _ _ _ _ _ _ _ _ _ _ _ _ _ _ _ _ w2 (by rw [if_neg (by omega)]) h1 h2)
  · have hd : decide (15 < (k : Int)) = false := by rw [decide_eq_false_iff_not]; omega
    rw [hd] at hQ ⊢
    refine wp_cond_false rfl ?_
    refine wp_skip ?_
    exact hQ g n cap _ _ _ _ _ _ _ _ _ _ _ _ _ _ _ _ _ _ _ _ _ _ _ _ _ _ _ _ _ _ _ _ _ _ _ _ _ _ _ _ _ _ _ _ _ _ _ _ _ _ _ _ _ _ _ _ _ _ _ _ w (by rw [hn, if_pos (by omega)]; split <;> omega) hown (Fr.refl _ _)
end Go.Proofs.YtcdfflieooopjaaDoor.Sha
