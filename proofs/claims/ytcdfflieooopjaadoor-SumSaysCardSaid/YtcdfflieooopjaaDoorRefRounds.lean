/-
  The 64 rounds of the reference's Sum (made by wip/tools/mkpiece.py).
-/
import Derived.Test.YtcdfflieooopjaaDoorRefTail
import Derived.Test.YtcdfflieooopjaaDoorFm
namespace Go.Proofs.YtcdfflieooopjaaDoor.Sha
open Go.RowKit Base

def oneRegion (n : Nat) : Code → Option Code
  | .region k ops b => if k = n then some (.region k ops b) else none
  | .seq a b => match oneRegion n a with
    | some c => some c
    | none => oneRegion n b
  | .cond _ a b => match oneRegion n a with
    | some c => some c
    | none => oneRegion n b
  | .loop c => oneRegion n c
  | .block _ c => oneRegion n c
  | .scope c => oneRegion n c
  | _ => none
def blockFull (n : Nat) : Code → Option Code
  | .block k c => if k = n then some (.block k c) else blockFull n c
  | .seq a b => match blockFull n a with
    | some c => some c
    | none => blockFull n b
  | .cond _ a b => match blockFull n a with
    | some c => some c
    | none => blockFull n b
  | .loop c => blockFull n c
  | .scope c => blockFull n c
  | _ => none
theorem Only.inBlock {id : Nat} {K : Act → World → Prop} {Q : Exit → Act → World → Prop} : ∀ (e : Exit) (a : Act) (w : World), Only K e a w → Exit.inBlock id (Exit.then K Q) e a w := fun e a w h => by
  cases e <;> first | exact h | exact (h : False).elim
set_option maxHeartbeats 4000000 in
set_option maxRecDepth 1000000 in
theorem tail4F (k n g cap : Nat) (ta tb tc td te tf tg th wk : Int) (hk : k < 64) (hkn : k < n) (f : Nat → Value) (hf : ∀ p ∈ ([(6, (.slice (some ⟨g, 0, none⟩) n cap)), (8, (.int .u32 ta)), (9, (.int .u32 tb)), (10, (.int .u32 tc)), (11, (.int .u32 td)), (12, (.int .u32 te)), (13, (.int .u32 tf)), (14, (.int .u32 tg)), (15, (.int .u32 th)), (16, (.int .i64 (k : Int)))] : List (Nat × Value)), f p.1 = p.2) (w : World) (K0 : Act → World → Prop) (ba : 0 ≤ ta ∧ ta < 4294967296) (bb : 0 ≤ tb ∧ tb < 4294967296) (bc : 0 ≤ tc ∧ tc < 4294967296) (bd : 0 ≤ td ∧ td < 4294967296) (be : 0 ≤ te ∧ te < 4294967296) (bf : 0 ≤ tf ∧ tf < 4294967296) (bg : 0 ≤ tg ∧ tg < 4294967296) (bh : 0 ≤ th ∧ th < 4294967296) (hcell : w.cell? ⟨g, k, none⟩ = some (.int .u32 wk))
    (hQ : ∀ (f' : Nat → Value) (w2 : World) , Fr0 w w2 → f' 8 = .int .u32 ((first (K k) wk ⟨ta, tb, tc, td, te, tf, tg, th⟩ + second ⟨ta, tb, tc, td, te, tf, tg, th⟩) % 4294967296) → f' 9 = .int .u32 ta → f' 10 = .int .u32 tb → f' 11 = .int .u32 tc → f' 12 = .int .u32 ((td + first (K k) wk ⟨ta, tb, tc, td, te, tf, tg, th⟩) % 4294967296) → f' 13 = .int .u32 te → f' 14 = .int .u32 tf → f' 15 = .int .u32 tg → (∀ j ∈ [2, 3, 4, 5, 6, 7, 16], f' j = f j) → K0 (Fm 263 f') w2) :
    Code.wp Tryd.prog tail4Code (Only K0) (Fm 263 f) w := by
  have e : Fm 263 f = ⟨#[f 0, f 1, f 2, f 3, f 4, f 5, (.slice (some ⟨g, 0, none⟩) n cap), f 7, (.int .u32 ta), (.int .u32 tb), (.int .u32 tc), (.int .u32 td), (.int .u32 te), (.int .u32 tf), (.int .u32 tg), (.int .u32 th), (.int .i64 (k : Int)), f 17, f 18, f 19, f 20, f 21, f 22, f 23, f 24, f 25, f 26, f 27, f 28, f 29, f 30, f 31, f 32, f 33, f 34, f 35, f 36, f 37, f 38, f 39, f 40, f 41, f 42, f 43, f 44, f 45, f 46, f 47, f 48, f 49, f 50, f 51, f 52, f 53, f 54, f 55, f 56, f 57, f 58, f 59, f 60, f 61, f 62, f 63, f 64, f 65, f 66, f 67, f 68, f 69, f 70, f 71, f 72, f 73, f 74, f 75, f 76, f 77, f 78, f 79, f 80, f 81, f 82, f 83, f 84, f 85, f 86, f 87, f 88, f 89, f 90, f 91, f 92, f 93, f 94, f 95, f 96, f 97, f 98, f 99, f 100, f 101, f 102, f 103, f 104, f 105, f 106, f 107, f 108, f 109, f 110, f 111, f 112, f 113, f 114, f 115, f 116, f 117, f 118, f 119, f 120, f 121, f 122, f 123, f 124, f 125, f 126, f 127, f 128, f 129, f 130, f 131, f 132, f 133, f 134, f 135, f 136, f 137, f 138, f 139, f 140, f 141, f 142, f 143, f 144, f 145, f 146, f 147, f 148, f 149, f 150, f 151, f 152, f 153, f 154, f 155, f 156, f 157, f 158, f 159, f 160, f 161, f 162, f 163, f 164, f 165, f 166, f 167, f 168, f 169, f 170, f 171, f 172, f 173, f 174, f 175, f 176, f 177, f 178, f 179, f 180, f 181, f 182, f 183, f 184, f 185, f 186, f 187, f 188, f 189, f 190, f 191, f 192, f 193, f 194, f 195, f 196, f 197, f 198, f 199, f 200, f 201, f 202, f 203, f 204, f 205, f 206, f 207, f 208, f 209, f 210, f 211, f 212, f 213, f 214, f 215, f 216, f 217, f 218, f 219, f 220, f 221, f 222, f 223, f 224, f 225, f 226, f 227, f 228, f 229, f 230, f 231, f 232, f 233, f 234, f 235, f 236, f 237, f 238, f 239, f 240, f 241, f 242, f 243, f 244, f 245, f 246, f 247, f 248, f 249, f 250, f 251, f 252, f 253, f 254, f 255, f 256, f 257, f 258, f 259, f 260, f 261, f 262], []⟩ := (congrArg (Fm 263) (ov_self f _ hf)).symm.trans rfl
  rw [e]
  refine tail4 k n g cap ta tb tc td te tf tg th wk hk hkn w K0 ba bb bc bd be bf bg bh hcell (f 0) (f 1) (f 2) (f 3) (f 4) (f 5) (f 7) (f 17) (f 18) (f 19) (f 20) (f 21) (f 22) (f 23) (f 24) (f 25) (f 26) (f 27) (f 28) (f 29) (f 30) (f 31) (f 32) (f 33) (f 34) (f 35) (f 36) (f 37) (f 38) (f 39) (f 40) (f 41) (f 42) (f 43) (f 44) (f 45) (f 46) (f 47) (f 48) (f 49) (f 50) (f 51) (f 52) (f 53) (f 54) (f 55) (f 56) (f 57) (f 58) (f 59) (f 60) (f 61) (f 62) (f 63) (f 64) (f 65) (f 66) (f 67) (f 68) (f 69) (f 70) (f 71) (f 72) (f 73) (f 74) (f 75) (f 76) (f 77) (f 78) (f 79) (f 80) (f 81) (f 82) (f 83) (f 84) (f 85) (f 86) (f 87) (f 88) (f 89) (f 90) (f 91) (f 92) (f 93) (f 94) (f 95) (f 96) (f 97) (f 98) (f 99) (f 100) (f 101) (f 102) (f 103) (f 104) (f 105) (f 106) (f 107) (f 108) (f 109) (f 110) (f 111) (f 112) (f 113) (f 114) (f 115) (f 116) (f 117) (f 118) (f 119) (f 120) (f 121) (f 122) (f 123) (f 124) (f 125) (f 126) (f 127) (f 128) (f 129) (f 130) (f 131) (f 132) (f 133) (f 134) (f 135) (f 136) (f 137) (f 138) (f 139) (f 140) (f 141) (f 142) (f 143) (f 144) (f 145) (f 146) (f 147) (f 148) (f 149) (f 150) (f 151) (f 152) (f 153) (f 154) (f 155) (f 156) (f 157) (f 158) (f 159) (f 160) (f 161) (f 162) (f 163) (f 164) (f 165) (f 166) (f 167) (f 168) (f 169) (f 170) (f 171) (f 172) (f 173) (f 174) (f 175) (f 176) (f 177) (f 178) (f 179) (f 180) (f 181) (f 182) (f 183) (f 184) (f 185) (f 186) (f 187) (f 188) (f 189) (f 190) (f 191) (f 192) (f 193) (f 194) (f 195) (f 196) (f 197) (f 198) (f 199) (f 200) (f 201) (f 202) (f 203) (f 204) (f 205) (f 206) (f 207) (f 208) (f 209) (f 210) (f 211) (f 212) (f 213) (f 214) (f 215) (f 216) (f 217) (f 218) (f 219) (f 220) (f 221) (f 222) (f 223) (f 224) (f 225) (f 226) (f 227) (f 228) (f 229) (f 230) (f 231) (f 232) (f 233) (f 234) (f 235) (f 236) (f 237) (f 238) (f 239) (f 240) (f 241) (f 242) (f 243) (f 244) (f 245) (f 246) (f 247) (f 248) (f 249) (f 250) (f 251) (f 252) (f 253) (f 254) (f 255) (f 256) (f 257) (f 258) (f 259) (f 260) (f 261) (f 262) ?_
  intro v8 v12 u19 u20 u21 u22 u162 u163 u164 u165 u166 u167 u168 u169 u170 u171 u172 u173 u174 u175 u176 u177 u178 u179 u180 u181 u182 u183 u184 u185 u186 u187 u188 u189 u190 u191 u192 u193 u194 u195 u196 u197 u198 u199 u200 u201 u202 u203 u204 u205 u206 u207 u208 u209 u210 u211 u212 u213 u214 u215 u216 u217 u218 u219 u220 u221 u222 w2 e8 e12 hF
  have h := hQ (fun j => ([f 0, f 1, f 2, f 3, f 4, f 5, (.slice (some ⟨g, 0, none⟩) n cap), f 7, v8, (.int .u32 ta), (.int .u32 tb), (.int .u32 tc), v12, (.int .u32 te), (.int .u32 tf), (.int .u32 tg), (.int .i64 (k : Int)), f 17, f 18, u19, u20, u21, u22, f 23, f 24, f 25, f 26, f 27, f 28, f 29, f 30, f 31, f 32, f 33, f 34, f 35, f 36, f 37, f 38, f 39, f 40, f 41, f 42, f 43, f 44, f 45, f 46, f 47, f 48, f 49, f 50, f 51, f 52, f 53, f 54, f 55, f 56, f 57, f 58, f 59, f 60, f 61, f 62, f 63, f 64, f 65, f 66, f 67, f 68, f 69, f 70, f 71, f 72, f 73, f 74, f 75, f 76, f 77, f 78, f 79, f 80, f 81, f 82, f 83, f 84, f 85, f 86, f 87, f 88, f 89, f 90, f 91, f 92, f 93, f 94, f 95, f 96, f 97, f 98, f 99, f 100, f 101, f 102, f 103, f 104, f 105, f 106, f 107, f 108, f 109, f 110, f 111, f 112, f 113, f 114, f 115, f 116, f 117, f 118, f 119, f 120, f 121, f 122, f 123, f 124, f 125, f 126, f 127, f 128, f 129, f 130, f 131, f 132, f 133, f 134, f 135, f 136, f 137, f 138, f 139, f 140, f 141, f 142, f 143, f 144, f 145, f 146, f 147, f 148, f 149, f 150, f 151, f 152, f 153, f 154, f 155, f 156, f 157, f 158, f 159, f 160, f 161, u162, u163, u164, u165, u166, u167, u168, u169, u170, u171, u172, u173, u174, u175, u176, u177, u178, u179, u180, u181, u182, u183, u184, u185, u186, u187, u188, u189, u190, u191, u192, u193, u194, u195, u196, u197, u198, u199, u200, u201, u202, u203, u204, u205, u206, u207, u208, u209, u210, u211, u212, u213, u214, u215, u216, u217, u218, u219, u220, u221, u222, f 223, f 224, f 225, f 226, f 227, f 228, f 229, f 230, f 231, f 232, f 233, f 234, f 235, f 236, f 237, f 238, f 239, f 240, f 241, f 242, f 243, f 244, f 245, f 246, f 247, f 248, f 249, f 250, f 251, f 252, f 253, f 254, f 255, f 256, f 257, f 258, f 259, f 260, f 261, f 262] : List Value).getD j undef) w2 hF e8 rfl rfl rfl e12 rfl rfl rfl (fun j hj => by
    simp only [List.mem_cons, List.not_mem_nil, or_false] at hj
    rcases hj with rfl | rfl | rfl | rfl | rfl | rfl | rfl
    · rfl
    · rfl
    · rfl
    · rfl
    · exact (hf (6, (.slice (some ⟨g, 0, none⟩) n cap)) (by simp)).symm
    · rfl
    · exact (hf (16, (.int .i64 (k : Int))) (by simp)).symm)
  rw [← Fm_of _ 263 rfl] at h
  exact h
set_option maxHeartbeats 4000000 in
set_option maxRecDepth 1000000 in
theorem condF (B : Nat → Int) (k n g cap base : Nat) (hn : n = if k < 16 then 16 else k) (h64 : k < 64) (f : Nat → Value) (hf : ∀ p ∈ ([(6, (.slice (some ⟨g, 0, none⟩) n cap)), (16, (.int .i64 (k : Int))), (103, (.bool (decide (15 < (k : Int)))))] : List (Nat × Value)), f p.1 = p.2) (w : World) (K0 : Act → World → Prop) (hown : w.ownsRow base 49 1 (.slice (some ⟨g, 0, none⟩) n cap) n ((sch B n).map (.int .u32))) (hbase : base ≤ w.heap.size)
    (hQ : ∀ (f' : Nat → Value) (w2 : World) (g' n' cap' : Nat), n' = (if k + 1 < 16 then 16 else k + 1) → w2.ownsRow base 49 1 (.slice (some ⟨g', 0, none⟩) n' cap') n' ((sch B n').map (.int .u32)) → Fr (fun b => base ≤ b) w w2 → f' 6 = (.slice (some ⟨g', 0, none⟩) n' cap') → (∀ j ∈ [2, 3, 4, 5, 7, 8, 9, 10, 11, 12, 13, 14, 15, 16], f' j = f j) → K0 (Fm 263 f') w2) :
    Code.wp Tryd.prog cond103 (Only K0) (Fm 263 f) w := by
  have e : Fm 263 f = ⟨#[f 0, f 1, f 2, f 3, f 4, f 5, (.slice (some ⟨g, 0, none⟩) n cap), f 7, f 8, f 9, f 10, f 11, f 12, f 13, f 14, f 15, (.int .i64 (k : Int)), f 17, f 18, f 19, f 20, f 21, f 22, f 23, f 24, f 25, f 26, f 27, f 28, f 29, f 30, f 31, f 32, f 33, f 34, f 35, f 36, f 37, f 38, f 39, f 40, f 41, f 42, f 43, f 44, f 45, f 46, f 47, f 48, f 49, f 50, f 51, f 52, f 53, f 54, f 55, f 56, f 57, f 58, f 59, f 60, f 61, f 62, f 63, f 64, f 65, f 66, f 67, f 68, f 69, f 70, f 71, f 72, f 73, f 74, f 75, f 76, f 77, f 78, f 79, f 80, f 81, f 82, f 83, f 84, f 85, f 86, f 87, f 88, f 89, f 90, f 91, f 92, f 93, f 94, f 95, f 96, f 97, f 98, f 99, f 100, f 101, f 102, (.bool (decide (15 < (k : Int)))), f 104, f 105, f 106, f 107, f 108, f 109, f 110, f 111, f 112, f 113, f 114, f 115, f 116, f 117, f 118, f 119, f 120, f 121, f 122, f 123, f 124, f 125, f 126, f 127, f 128, f 129, f 130, f 131, f 132, f 133, f 134, f 135, f 136, f 137, f 138, f 139, f 140, f 141, f 142, f 143, f 144, f 145, f 146, f 147, f 148, f 149, f 150, f 151, f 152, f 153, f 154, f 155, f 156, f 157, f 158, f 159, f 160, f 161, f 162, f 163, f 164, f 165, f 166, f 167, f 168, f 169, f 170, f 171, f 172, f 173, f 174, f 175, f 176, f 177, f 178, f 179, f 180, f 181, f 182, f 183, f 184, f 185, f 186, f 187, f 188, f 189, f 190, f 191, f 192, f 193, f 194, f 195, f 196, f 197, f 198, f 199, f 200, f 201, f 202, f 203, f 204, f 205, f 206, f 207, f 208, f 209, f 210, f 211, f 212, f 213, f 214, f 215, f 216, f 217, f 218, f 219, f 220, f 221, f 222, f 223, f 224, f 225, f 226, f 227, f 228, f 229, f 230, f 231, f 232, f 233, f 234, f 235, f 236, f 237, f 238, f 239, f 240, f 241, f 242, f 243, f 244, f 245, f 246, f 247, f 248, f 249, f 250, f 251, f 252, f 253, f 254, f 255, f 256, f 257, f 258, f 259, f 260, f 261, f 262], []⟩ := (congrArg (Fm 263) (ov_self f _ hf)).symm.trans rfl
  rw [e]
  refine cond_step B k n g cap base hn h64 w K0 hown hbase (f 0) (f 1) (f 2) (f 3) (f 4) (f 5) (f 7) (f 8) (f 9) (f 10) (f 11) (f 12) (f 13) (f 14) (f 15) (f 17) (f 18) (f 19) (f 20) (f 21) (f 22) (f 23) (f 24) (f 25) (f 26) (f 27) (f 28) (f 29) (f 30) (f 31) (f 32) (f 33) (f 34) (f 35) (f 36) (f 37) (f 38) (f 39) (f 40) (f 41) (f 42) (f 43) (f 44) (f 45) (f 46) (f 47) (f 48) (f 49) (f 50) (f 51) (f 52) (f 53) (f 54) (f 55) (f 56) (f 57) (f 58) (f 59) (f 60) (f 61) (f 62) (f 63) (f 64) (f 65) (f 66) (f 67) (f 68) (f 69) (f 70) (f 71) (f 72) (f 73) (f 74) (f 75) (f 76) (f 77) (f 78) (f 79) (f 80) (f 81) (f 82) (f 83) (f 84) (f 85) (f 86) (f 87) (f 88) (f 89) (f 90) (f 91) (f 92) (f 93) (f 94) (f 95) (f 96) (f 97) (f 98) (f 99) (f 100) (f 101) (f 102) (f 104) (f 105) (f 106) (f 107) (f 108) (f 109) (f 110) (f 111) (f 112) (f 113) (f 114) (f 115) (f 116) (f 117) (f 118) (f 119) (f 120) (f 121) (f 122) (f 123) (f 124) (f 125) (f 126) (f 127) (f 128) (f 129) (f 130) (f 131) (f 132) (f 133) (f 134) (f 135) (f 136) (f 137) (f 138) (f 139) (f 140) (f 141) (f 142) (f 143) (f 144) (f 145) (f 146) (f 147) (f 148) (f 149) (f 150) (f 151) (f 152) (f 153) (f 154) (f 155) (f 156) (f 157) (f 158) (f 159) (f 160) (f 161) (f 162) (f 163) (f 164) (f 165) (f 166) (f 167) (f 168) (f 169) (f 170) (f 171) (f 172) (f 173) (f 174) (f 175) (f 176) (f 177) (f 178) (f 179) (f 180) (f 181) (f 182) (f 183) (f 184) (f 185) (f 186) (f 187) (f 188) (f 189) (f 190) (f 191) (f 192) (f 193) (f 194) (f 195) (f 196) (f 197) (f 198) (f 199) (f 200) (f 201) (f 202) (f 203) (f 204) (f 205) (f 206) (f 207) (f 208) (f 209) (f 210) (f 211) (f 212) (f 213) (f 214) (f 215) (f 216) (f 217) (f 218) (f 219) (f 220) (f 221) (f 222) (f 223) (f 224) (f 225) (f 226) (f 227) (f 228) (f 229) (f 230) (f 231) (f 232) (f 233) (f 234) (f 235) (f 236) (f 237) (f 238) (f 239) (f 240) (f 241) (f 242) (f 243) (f 244) (f 245) (f 246) (f 247) (f 248) (f 249) (f 250) (f 251) (f 252) (f 253) (f 254) (f 255) (f 256) (f 257) (f 258) (f 259) (f 260) (f 261) (f 262) ?_
  intro g' n' cap' u17 u18 u104 u105 u106 u107 u108 u109 u110 u111 u112 u113 u114 u115 u116 u117 u118 u119 u120 u121 u122 u123 u124 u125 u126 u127 u128 u129 u130 u131 u132 u133 u134 u135 u136 u137 u138 u139 u140 u141 u142 u143 u144 u145 u146 u147 u148 u149 u150 u151 u152 u153 u154 u155 u156 u157 u158 u159 u160 u161 w2 e1 e2 e3
  have h := hQ (fun j => ([f 0, f 1, f 2, f 3, f 4, f 5, (.slice (some ⟨g', 0, none⟩) n' cap'), f 7, f 8, f 9, f 10, f 11, f 12, f 13, f 14, f 15, (.int .i64 (k : Int)), u17, u18, f 19, f 20, f 21, f 22, f 23, f 24, f 25, f 26, f 27, f 28, f 29, f 30, f 31, f 32, f 33, f 34, f 35, f 36, f 37, f 38, f 39, f 40, f 41, f 42, f 43, f 44, f 45, f 46, f 47, f 48, f 49, f 50, f 51, f 52, f 53, f 54, f 55, f 56, f 57, f 58, f 59, f 60, f 61, f 62, f 63, f 64, f 65, f 66, f 67, f 68, f 69, f 70, f 71, f 72, f 73, f 74, f 75, f 76, f 77, f 78, f 79, f 80, f 81, f 82, f 83, f 84, f 85, f 86, f 87, f 88, f 89, f 90, f 91, f 92, f 93, f 94, f 95, f 96, f 97, f 98, f 99, f 100, f 101, f 102, (.bool (decide (15 < (k : Int)))), u104, u105, u106, u107, u108, u109, u110, u111, u112, u113, u114, u115, u116, u117, u118, u119, u120, u121, u122, u123, u124, u125, u126, u127, u128, u129, u130, u131, u132, u133, u134, u135, u136, u137, u138, u139, u140, u141, u142, u143, u144, u145, u146, u147, u148, u149, u150, u151, u152, u153, u154, u155, u156, u157, u158, u159, u160, u161, f 162, f 163, f 164, f 165, f 166, f 167, f 168, f 169, f 170, f 171, f 172, f 173, f 174, f 175, f 176, f 177, f 178, f 179, f 180, f 181, f 182, f 183, f 184, f 185, f 186, f 187, f 188, f 189, f 190, f 191, f 192, f 193, f 194, f 195, f 196, f 197, f 198, f 199, f 200, f 201, f 202, f 203, f 204, f 205, f 206, f 207, f 208, f 209, f 210, f 211, f 212, f 213, f 214, f 215, f 216, f 217, f 218, f 219, f 220, f 221, f 222, f 223, f 224, f 225, f 226, f 227, f 228, f 229, f 230, f 231, f 232, f 233, f 234, f 235, f 236, f 237, f 238, f 239, f 240, f 241, f 242, f 243, f 244, f 245, f 246, f 247, f 248, f 249, f 250, f 251, f 252, f 253, f 254, f 255, f 256, f 257, f 258, f 259, f 260, f 261, f 262] : List Value).getD j undef) w2 g' n' cap' e1 e2 e3 rfl (fun j hj => by
    simp only [List.mem_cons, List.not_mem_nil, or_false] at hj
    rcases hj with rfl | rfl | rfl | rfl | rfl | rfl | rfl | rfl | rfl | rfl | rfl | rfl | rfl | rfl
    · rfl
    · rfl
    · rfl
    · rfl
    · rfl
    · rfl
    · rfl
    · rfl
    · rfl
    · rfl
    · rfl
    · rfl
    · rfl
    · exact (hf (16, (.int .i64 (k : Int))) (by simp)).symm)
  rw [← Fm_of _ 263 rfl] at h
  exact h
noncomputable def r17Code : Code := ((Tryd.f22.body.bind (oneRegion 17)).getD .skip)
set_option maxHeartbeats 4000000 in
set_option maxRecDepth 1000000 in
theorem r17 (k : Nat) (hk : k ≤ 64) (f : Nat → Value) (hf : ∀ p ∈ ([(16, (.int .i64 (k : Int)))] : List (Nat × Value)), f p.1 = p.2) (w : World) (K0 : Act → World → Prop) 
    (hQ : ∀ (f' : Nat → Value), f' 99 = .bool (decide ((k : Int) < 64)) → (∀ j ∈ [2, 3, 4, 5, 6, 7, 8, 9, 10, 11, 12, 13, 14, 15, 16], f' j = f j) → K0 (Fm 263 f') w) :
    Code.wp Tryd.prog r17Code (Only K0) (Fm 263 f) w := by
  have e : Fm 263 f = ⟨#[f 0, f 1, f 2, f 3, f 4, f 5, f 6, f 7, f 8, f 9, f 10, f 11, f 12, f 13, f 14, f 15, (.int .i64 (k : Int)), f 17, f 18, f 19, f 20, f 21, f 22, f 23, f 24, f 25, f 26, f 27, f 28, f 29, f 30, f 31, f 32, f 33, f 34, f 35, f 36, f 37, f 38, f 39, f 40, f 41, f 42, f 43, f 44, f 45, f 46, f 47, f 48, f 49, f 50, f 51, f 52, f 53, f 54, f 55, f 56, f 57, f 58, f 59, f 60, f 61, f 62, f 63, f 64, f 65, f 66, f 67, f 68, f 69, f 70, f 71, f 72, f 73, f 74, f 75, f 76, f 77, f 78, f 79, f 80, f 81, f 82, f 83, f 84, f 85, f 86, f 87, f 88, f 89, f 90, f 91, f 92, f 93, f 94, f 95, f 96, f 97, f 98, f 99, f 100, f 101, f 102, f 103, f 104, f 105, f 106, f 107, f 108, f 109, f 110, f 111, f 112, f 113, f 114, f 115, f 116, f 117, f 118, f 119, f 120, f 121, f 122, f 123, f 124, f 125, f 126, f 127, f 128, f 129, f 130, f 131, f 132, f 133, f 134, f 135, f 136, f 137, f 138, f 139, f 140, f 141, f 142, f 143, f 144, f 145, f 146, f 147, f 148, f 149, f 150, f 151, f 152, f 153, f 154, f 155, f 156, f 157, f 158, f 159, f 160, f 161, f 162, f 163, f 164, f 165, f 166, f 167, f 168, f 169, f 170, f 171, f 172, f 173, f 174, f 175, f 176, f 177, f 178, f 179, f 180, f 181, f 182, f 183, f 184, f 185, f 186, f 187, f 188, f 189, f 190, f 191, f 192, f 193, f 194, f 195, f 196, f 197, f 198, f 199, f 200, f 201, f 202, f 203, f 204, f 205, f 206, f 207, f 208, f 209, f 210, f 211, f 212, f 213, f 214, f 215, f 216, f 217, f 218, f 219, f 220, f 221, f 222, f 223, f 224, f 225, f 226, f 227, f 228, f 229, f 230, f 231, f 232, f 233, f 234, f 235, f 236, f 237, f 238, f 239, f 240, f 241, f 242, f 243, f 244, f 245, f 246, f 247, f 248, f 249, f 250, f 251, f 252, f 253, f 254, f 255, f 256, f 257, f 258, f 259, f 260, f 261, f 262], []⟩ := (congrArg (Fm 263) (ov_self f _ hf)).symm.trans rfl
  rw [e]
  have HQ : ∀ L : List Value, (hl : L.length = 263) → L.getD 99 undef = .bool (decide ((k : Int) < 64)) → (∀ j ∈ [2, 3, 4, 5, 6, 7, 8, 9, 10, 11, 12, 13, 14, 15, 16], L.getD j undef = f j) → K0 ⟨L.toArray, []⟩ w := fun L hl e99 hk => by
    rw [Fm_of L 263 hl]
    exact hQ _ e99 hk
  have HQ := Lib.hid HQ
  clear hQ
  conv => arg 2; whnf
  go_wp2
  refine HQ.out _ rfl rfl (fun j hj => ?_)
  simp only [List.mem_cons, List.not_mem_nil, or_false] at hj
  rcases hj with rfl | rfl | rfl | rfl | rfl | rfl | rfl | rfl | rfl | rfl | rfl | rfl | rfl | rfl | rfl
  · rfl
  · rfl
  · rfl
  · rfl
  · rfl
  · rfl
  · rfl
  · rfl
  · rfl
  · rfl
  · rfl
  · rfl
  · rfl
  · rfl
  · exact (hf (16, (.int .i64 (k : Int))) (by simp)).symm
noncomputable def r19Code : Code := ((Tryd.f22.body.bind (oneRegion 19)).getD .skip)
set_option maxHeartbeats 4000000 in
set_option maxRecDepth 1000000 in
theorem r19 (k : Nat) (hk : k < 64) (f : Nat → Value) (hf : ∀ p ∈ ([(16, (.int .i64 (k : Int)))] : List (Nat × Value)), f p.1 = p.2) (w : World) (K0 : Act → World → Prop) 
    (hQ : ∀ (f' : Nat → Value), f' 103 = .bool (decide (15 < (k : Int))) → (∀ j ∈ [2, 3, 4, 5, 6, 7, 8, 9, 10, 11, 12, 13, 14, 15, 16], f' j = f j) → K0 (Fm 263 f') w) :
    Code.wp Tryd.prog r19Code (Only K0) (Fm 263 f) w := by
  have e : Fm 263 f = ⟨#[f 0, f 1, f 2, f 3, f 4, f 5, f 6, f 7, f 8, f 9, f 10, f 11, f 12, f 13, f 14, f 15, (.int .i64 (k : Int)), f 17, f 18, f 19, f 20, f 21, f 22, f 23, f 24, f 25, f 26, f 27, f 28, f 29, f 30, f 31, f 32, f 33, f 34, f 35, f 36, f 37, f 38, f 39, f 40, f 41, f 42, f 43, f 44, f 45, f 46, f 47, f 48, f 49, f 50, f 51, f 52, f 53, f 54, f 55, f 56, f 57, f 58, f 59, f 60, f 61, f 62, f 63, f 64, f 65, f 66, f 67, f 68, f 69, f 70, f 71, f 72, f 73, f 74, f 75, f 76, f 77, f 78, f 79, f 80, f 81, f 82, f 83, f 84, f 85, f 86, f 87, f 88, f 89, f 90, f 91, f 92, f 93, f 94, f 95, f 96, f 97, f 98, f 99, f 100, f 101, f 102, f 103, f 104, f 105, f 106, f 107, f 108, f 109, f 110, f 111, f 112, f 113, f 114, f 115, f 116, f 117, f 118, f 119, f 120, f 121, f 122, f 123, f 124, f 125, f 126, f 127, f 128, f 129, f 130, f 131, f 132, f 133, f 134, f 135, f 136, f 137, f 138, f 139, f 140, f 141, f 142, f 143, f 144, f 145, f 146, f 147, f 148, f 149, f 150, f 151, f 152, f 153, f 154, f 155, f 156, f 157, f 158, f 159, f 160, f 161, f 162, f 163, f 164, f 165, f 166, f 167, f 168, f 169, f 170, f 171, f 172, f 173, f 174, f 175, f 176, f 177, f 178, f 179, f 180, f 181, f 182, f 183, f 184, f 185, f 186, f 187, f 188, f 189, f 190, f 191, f 192, f 193, f 194, f 195, f 196, f 197, f 198, f 199, f 200, f 201, f 202, f 203, f 204, f 205, f 206, f 207, f 208, f 209, f 210, f 211, f 212, f 213, f 214, f 215, f 216, f 217, f 218, f 219, f 220, f 221, f 222, f 223, f 224, f 225, f 226, f 227, f 228, f 229, f 230, f 231, f 232, f 233, f 234, f 235, f 236, f 237, f 238, f 239, f 240, f 241, f 242, f 243, f 244, f 245, f 246, f 247, f 248, f 249, f 250, f 251, f 252, f 253, f 254, f 255, f 256, f 257, f 258, f 259, f 260, f 261, f 262], []⟩ := (congrArg (Fm 263) (ov_self f _ hf)).symm.trans rfl
  rw [e]
  have HQ : ∀ L : List Value, (hl : L.length = 263) → L.getD 103 undef = .bool (decide (15 < (k : Int))) → (∀ j ∈ [2, 3, 4, 5, 6, 7, 8, 9, 10, 11, 12, 13, 14, 15, 16], L.getD j undef = f j) → K0 ⟨L.toArray, []⟩ w := fun L hl e103 hk => by
    rw [Fm_of L 263 hl]
    exact hQ _ e103 hk
  have HQ := Lib.hid HQ
  clear hQ
  conv => arg 2; whnf
  go_wp2
  refine HQ.out _ rfl rfl (fun j hj => ?_)
  simp only [List.mem_cons, List.not_mem_nil, or_false] at hj
  rcases hj with rfl | rfl | rfl | rfl | rfl | rfl | rfl | rfl | rfl | rfl | rfl | rfl | rfl | rfl | rfl
  · rfl
  · rfl
  · rfl
  · rfl
  · rfl
  · rfl
  · rfl
  · rfl
  · rfl
  · rfl
  · rfl
  · rfl
  · rfl
  · rfl
  · exact (hf (16, (.int .i64 (k : Int))) (by simp)).symm
noncomputable def r18Code : Code := ((Tryd.f22.body.bind (oneRegion 18)).getD .skip)
set_option maxHeartbeats 4000000 in
set_option maxRecDepth 1000000 in
theorem r18 (k : Nat) (hk : k < 64) (f : Nat → Value) (hf : ∀ p ∈ ([(16, (.int .i64 (k : Int)))] : List (Nat × Value)), f p.1 = p.2) (w : World) (K0 : Act → World → Prop) 
    (hQ : ∀ (f' : Nat → Value), f' 16 = .int .i64 ((k : Int) + 1) → (∀ j ∈ [2, 3, 4, 5, 6, 7, 8, 9, 10, 11, 12, 13, 14, 15], f' j = f j) → K0 (Fm 263 f') w) :
    Code.wp Tryd.prog r18Code (Only K0) (Fm 263 f) w := by
  have e : Fm 263 f = ⟨#[f 0, f 1, f 2, f 3, f 4, f 5, f 6, f 7, f 8, f 9, f 10, f 11, f 12, f 13, f 14, f 15, (.int .i64 (k : Int)), f 17, f 18, f 19, f 20, f 21, f 22, f 23, f 24, f 25, f 26, f 27, f 28, f 29, f 30, f 31, f 32, f 33, f 34, f 35, f 36, f 37, f 38, f 39, f 40, f 41, f 42, f 43, f 44, f 45, f 46, f 47, f 48, f 49, f 50, f 51, f 52, f 53, f 54, f 55, f 56, f 57, f 58, f 59, f 60, f 61, f 62, f 63, f 64, f 65, f 66, f 67, f 68, f 69, f 70, f 71, f 72, f 73, f 74, f 75, f 76, f 77, f 78, f 79, f 80, f 81, f 82, f 83, f 84, f 85, f 86, f 87, f 88, f 89, f 90, f 91, f 92, f 93, f 94, f 95, f 96, f 97, f 98, f 99, f 100, f 101, f 102, f 103, f 104, f 105, f 106, f 107, f 108, f 109, f 110, f 111, f 112, f 113, f 114, f 115, f 116, f 117, f 118, f 119, f 120, f 121, f 122, f 123, f 124, f 125, f 126, f 127, f 128, f 129, f 130, f 131, f 132, f 133, f 134, f 135, f 136, f 137, f 138, f 139, f 140, f 141, f 142, f 143, f 144, f 145, f 146, f 147, f 148, f 149, f 150, f 151, f 152, f 153, f 154, f 155, f 156, f 157, f 158, f 159, f 160, f 161, f 162, f 163, f 164, f 165, f 166, f 167, f 168, f 169, f 170, f 171, f 172, f 173, f 174, f 175, f 176, f 177, f 178, f 179, f 180, f 181, f 182, f 183, f 184, f 185, f 186, f 187, f 188, f 189, f 190, f 191, f 192, f 193, f 194, f 195, f 196, f 197, f 198, f 199, f 200, f 201, f 202, f 203, f 204, f 205, f 206, f 207, f 208, f 209, f 210, f 211, f 212, f 213, f 214, f 215, f 216, f 217, f 218, f 219, f 220, f 221, f 222, f 223, f 224, f 225, f 226, f 227, f 228, f 229, f 230, f 231, f 232, f 233, f 234, f 235, f 236, f 237, f 238, f 239, f 240, f 241, f 242, f 243, f 244, f 245, f 246, f 247, f 248, f 249, f 250, f 251, f 252, f 253, f 254, f 255, f 256, f 257, f 258, f 259, f 260, f 261, f 262], []⟩ := (congrArg (Fm 263) (ov_self f _ hf)).symm.trans rfl
  rw [e]
  have HQ : ∀ L : List Value, (hl : L.length = 263) → L.getD 16 undef = .int .i64 ((k : Int) + 1) → (∀ j ∈ [2, 3, 4, 5, 6, 7, 8, 9, 10, 11, 12, 13, 14, 15], L.getD j undef = f j) → K0 ⟨L.toArray, []⟩ w := fun L hl e16 hk => by
    rw [Fm_of L 263 hl]
    exact hQ _ e16 hk
  have HQ := Lib.hid HQ
  clear hQ
  conv => arg 2; whnf
  go_wp2
  refine HQ.out _ rfl rfl (fun j hj => ?_)
  simp only [List.mem_cons, List.not_mem_nil, or_false] at hj
  rcases hj with rfl | rfl | rfl | rfl | rfl | rfl | rfl | rfl | rfl | rfl | rfl | rfl | rfl | rfl
  · rfl
  · rfl
  · rfl
  · rfl
  · rfl
  · rfl
  · rfl
  · rfl
  · rfl
  · rfl
  · rfl
  · rfl
  · rfl
  · rfl
end Go.Proofs.YtcdfflieooopjaaDoor.Sha
