/-
  Small pieces of the reference's Sum (made by wip/tools/mkouter.py).
  The loops of the reference's Sum beside the rounds: a block's words, the state's sums (made by wip/tools/mkouter.py).
  The blocks of a message, one behind the other: the reference's outer loop (made by wip/tools/mkouter.py).
  The end of the reference's Sum: the state's bytes, copied into the answer (made by wip/tools/mkouter.py).
  The reference's Sum answers SHA-256: its last statements (made by wip/tools/mkouter.py).
  The reference's Sum.
-/
import Derived.Test.YteafnknghnhlgaaDoorRefIn
import Derived.Test.YteafnknghnhlgaaDoorBaseB
import Derived.Deep.LoopGhost
import Derived.Deep.DeepCutAuto
import Derived.Deep.CutBlock
namespace Go.Proofs.YteafnknghnhlgaaDoor.Sha
open Go.RowKit Base

noncomputable def r8Code : Code := ((Tryd.f30.body.bind (oneRegion 8)).getD .skip)
set_option maxHeartbeats 4000000 in
set_option maxRecDepth 1000000 in
theorem r8 (pa : Option Addr) (n4 pc : Nat) (at_ : Nat) (h4 : n4 ≤ 4194304) (h5 : at_ ≤ 4194304) (f : Nat → Value) (hf : ∀ p ∈ ([(4, (.slice pa n4 pc)), (5, (.int .i64 (at_ : Int)))] : List (Nat × Value)), f p.1 = p.2) (w : World) (K0 : Act → World → Prop) 
    (hQ : ∀ (f' : Nat → Value) ,  f' 51 = .bool (decide (at_ < n4)) → (∀ j ∈ [2, 3, 4, 5], f' j = f j) → K0 (Fm 263 f') w) :
    Code.wp Tryd.prog r8Code (Only K0) (Fm 263 f) w := by
  have e : Fm 263 f = ⟨#[f 0, f 1, f 2, f 3, (.slice pa n4 pc), (.int .i64 (at_ : Int)), f 6, f 7, f 8, f 9, f 10, f 11, f 12, f 13, f 14, f 15, f 16, f 17, f 18, f 19, f 20, f 21, f 22, f 23, f 24, f 25, f 26, f 27, f 28, f 29, f 30, f 31, f 32, f 33, f 34, f 35, f 36, f 37, f 38, f 39, f 40, f 41, f 42, f 43, f 44, f 45, f 46, f 47, f 48, f 49, f 50, f 51, f 52, f 53, f 54, f 55, f 56, f 57, f 58, f 59, f 60, f 61, f 62, f 63, f 64, f 65, f 66, f 67, f 68, f 69, f 70, f 71, f 72, f 73, f 74, f 75, f 76, f 77, f 78, f 79, f 80, f 81, f 82, f 83, f 84, f 85, f 86, f 87, f 88, f 89, f 90, f 91, f 92, f 93, f 94, f 95, f 96, f 97, f 98, f 99, f 100, f 101, f 102, f 103, f 104, f 105, f 106, f 107, f 108, f 109, f 110, f 111, f 112, f 113, f 114, f 115, f 116, f 117, f 118, f 119, f 120, f 121, f 122, f 123, f 124, f 125, f 126, f 127, f 128, f 129, f 130, f 131, f 132, f 133, f 134, f 135, f 136, f 137, f 138, f 139, f 140, f 141, f 142, f 143, f 144, f 145, f 146, f 147, f 148, f 149, f 150, f 151, f 152, f 153, f 154, f 155, f 156, f 157, f 158, f 159, f 160, f 161, f 162, f 163, f 164, f 165, f 166, f 167, f 168, f 169, f 170, f 171, f 172, f 173, f 174, f 175, f 176, f 177, f 178, f 179, f 180, f 181, f 182, f 183, f 184, f 185, f 186, f 187, f 188, f 189, f 190, f 191, f 192, f 193, f 194, f 195, f 196, f 197, f 198, f 199, f 200, f 201, f 202, f 203, f 204, f 205, f 206, f 207, f 208, f 209, f 210, f 211, f 212, f 213, f 214, f 215, f 216, f 217, f 218, f 219, f 220, f 221, f 222, f 223, f 224, f 225, f 226, f 227, f 228, f 229, f 230, f 231, f 232, f 233, f 234, f 235, f 236, f 237, f 238, f 239, f 240, f 241, f 242, f 243, f 244, f 245, f 246, f 247, f 248, f 249, f 250, f 251, f 252, f 253, f 254, f 255, f 256, f 257, f 258, f 259, f 260, f 261, f 262], []⟩ := (congrArg (Fm 263) (ov_self f _ hf)).symm.trans rfl
  rw [e]
  have HQ : ∀ (L : List Value) , L.length = 263 →  L.getD 51 undef = .bool (decide (at_ < n4)) → (∀ j ∈ [2, 3, 4, 5], L.getD j undef = f j) → K0 ⟨L.toArray, []⟩ w := fun L  hl  e51 hk => by
    rw [Fm_of L 263 hl]
    exact hQ _   e51 hk
  have HQ := Lib.hid HQ
  have HFF := Lib.hid hf
  clear hQ hf e
  conv => arg 2; whnf
  go_wp2
  refine HQ.out _  rfl  rfl (fun j hj => ?_)
  simp only [List.mem_cons, List.not_mem_nil, or_false] at hj
  rcases hj with rfl | rfl | rfl | rfl
  · rfl
  · rfl
  · exact (HFF.out (4, (.slice pa n4 pc)) (by simp)).symm
  · exact (HFF.out (5, (.int .i64 (at_ : Int))) (by simp)).symm
noncomputable def r10Code : Code := ((Tryd.f30.body.bind (oneRegion 10)).getD .skip)
set_option maxHeartbeats 4000000 in
set_option maxRecDepth 1000000 in
theorem r10  (f : Nat → Value) (hf : ∀ p ∈ ([] : List (Nat × Value)), f p.1 = p.2) (w : World) (K0 : Act → World → Prop) 
    (hQ : ∀ (f' : Nat → Value) ,  f' 6 = .slice none 0 0 → (∀ j ∈ [2, 3, 4, 5], f' j = f j) → K0 (Fm 263 f') w) :
    Code.wp Tryd.prog r10Code (Only K0) (Fm 263 f) w := by
  have e : Fm 263 f = ⟨#[f 0, f 1, f 2, f 3, f 4, f 5, f 6, f 7, f 8, f 9, f 10, f 11, f 12, f 13, f 14, f 15, f 16, f 17, f 18, f 19, f 20, f 21, f 22, f 23, f 24, f 25, f 26, f 27, f 28, f 29, f 30, f 31, f 32, f 33, f 34, f 35, f 36, f 37, f 38, f 39, f 40, f 41, f 42, f 43, f 44, f 45, f 46, f 47, f 48, f 49, f 50, f 51, f 52, f 53, f 54, f 55, f 56, f 57, f 58, f 59, f 60, f 61, f 62, f 63, f 64, f 65, f 66, f 67, f 68, f 69, f 70, f 71, f 72, f 73, f 74, f 75, f 76, f 77, f 78, f 79, f 80, f 81, f 82, f 83, f 84, f 85, f 86, f 87, f 88, f 89, f 90, f 91, f 92, f 93, f 94, f 95, f 96, f 97, f 98, f 99, f 100, f 101, f 102, f 103, f 104, f 105, f 106, f 107, f 108, f 109, f 110, f 111, f 112, f 113, f 114, f 115, f 116, f 117, f 118, f 119, f 120, f 121, f 122, f 123, f 124, f 125, f 126, f 127, f 128, f 129, f 130, f 131, f 132, f 133, f 134, f 135, f 136, f 137, f 138, f 139, f 140, f 141, f 142, f 143, f 144, f 145, f 146, f 147, f 148, f 149, f 150, f 151, f 152, f 153, f 154, f 155, f 156, f 157, f 158, f 159, f 160, f 161, f 162, f 163, f 164, f 165, f 166, f 167, f 168, f 169, f 170, f 171, f 172, f 173, f 174, f 175, f 176, f 177, f 178, f 179, f 180, f 181, f 182, f 183, f 184, f 185, f 186, f 187, f 188, f 189, f 190, f 191, f 192, f 193, f 194, f 195, f 196, f 197, f 198, f 199, f 200, f 201, f 202, f 203, f 204, f 205, f 206, f 207, f 208, f 209, f 210, f 211, f 212, f 213, f 214, f 215, f 216, f 217, f 218, f 219, f 220, f 221, f 222, f 223, f 224, f 225, f 226, f 227, f 228, f 229, f 230, f 231, f 232, f 233, f 234, f 235, f 236, f 237, f 238, f 239, f 240, f 241, f 242, f 243, f 244, f 245, f 246, f 247, f 248, f 249, f 250, f 251, f 252, f 253, f 254, f 255, f 256, f 257, f 258, f 259, f 260, f 261, f 262], []⟩ := (congrArg (Fm 263) (ov_self f _ hf)).symm.trans rfl
  rw [e]
  have HQ : ∀ (L : List Value) , L.length = 263 →  L.getD 6 undef = .slice none 0 0 → (∀ j ∈ [2, 3, 4, 5], L.getD j undef = f j) → K0 ⟨L.toArray, []⟩ w := fun L  hl  e6 hk => by
    rw [Fm_of L 263 hl]
    exact hQ _   e6 hk
  have HQ := Lib.hid HQ
  have HFF := Lib.hid hf
  clear hQ hf e
  conv => arg 2; whnf
  go_wp2
  refine HQ.out _  rfl  rfl (fun j hj => ?_)
  simp only [List.mem_cons, List.not_mem_nil, or_false] at hj
  rcases hj with rfl | rfl | rfl | rfl
  · rfl
  · rfl
  · rfl
  · rfl
noncomputable def r11Code : Code := ((Tryd.f30.body.bind (oneRegion 11)).getD .skip)
set_option maxHeartbeats 4000000 in
set_option maxRecDepth 1000000 in
theorem r11  (f : Nat → Value) (hf : ∀ p ∈ ([] : List (Nat × Value)), f p.1 = p.2) (w : World) (K0 : Act → World → Prop) 
    (hQ : ∀ (f' : Nat → Value) ,  f' 7 = .int .i64 0 → (∀ j ∈ [2, 3, 4, 5, 6], f' j = f j) → K0 (Fm 263 f') w) :
    Code.wp Tryd.prog r11Code (Only K0) (Fm 263 f) w := by
  have e : Fm 263 f = ⟨#[f 0, f 1, f 2, f 3, f 4, f 5, f 6, f 7, f 8, f 9, f 10, f 11, f 12, f 13, f 14, f 15, f 16, f 17, f 18, f 19, f 20, f 21, f 22, f 23, f 24, f 25, f 26, f 27, f 28, f 29, f 30, f 31, f 32, f 33, f 34, f 35, f 36, f 37, f 38, f 39, f 40, f 41, f 42, f 43, f 44, f 45, f 46, f 47, f 48, f 49, f 50, f 51, f 52, f 53, f 54, f 55, f 56, f 57, f 58, f 59, f 60, f 61, f 62, f 63, f 64, f 65, f 66, f 67, f 68, f 69, f 70, f 71, f 72, f 73, f 74, f 75, f 76, f 77, f 78, f 79, f 80, f 81, f 82, f 83, f 84, f 85, f 86, f 87, f 88, f 89, f 90, f 91, f 92, f 93, f 94, f 95, f 96, f 97, f 98, f 99, f 100, f 101, f 102, f 103, f 104, f 105, f 106, f 107, f 108, f 109, f 110, f 111, f 112, f 113, f 114, f 115, f 116, f 117, f 118, f 119, f 120, f 121, f 122, f 123, f 124, f 125, f 126, f 127, f 128, f 129, f 130, f 131, f 132, f 133, f 134, f 135, f 136, f 137, f 138, f 139, f 140, f 141, f 142, f 143, f 144, f 145, f 146, f 147, f 148, f 149, f 150, f 151, f 152, f 153, f 154, f 155, f 156, f 157, f 158, f 159, f 160, f 161, f 162, f 163, f 164, f 165, f 166, f 167, f 168, f 169, f 170, f 171, f 172, f 173, f 174, f 175, f 176, f 177, f 178, f 179, f 180, f 181, f 182, f 183, f 184, f 185, f 186, f 187, f 188, f 189, f 190, f 191, f 192, f 193, f 194, f 195, f 196, f 197, f 198, f 199, f 200, f 201, f 202, f 203, f 204, f 205, f 206, f 207, f 208, f 209, f 210, f 211, f 212, f 213, f 214, f 215, f 216, f 217, f 218, f 219, f 220, f 221, f 222, f 223, f 224, f 225, f 226, f 227, f 228, f 229, f 230, f 231, f 232, f 233, f 234, f 235, f 236, f 237, f 238, f 239, f 240, f 241, f 242, f 243, f 244, f 245, f 246, f 247, f 248, f 249, f 250, f 251, f 252, f 253, f 254, f 255, f 256, f 257, f 258, f 259, f 260, f 261, f 262], []⟩ := (congrArg (Fm 263) (ov_self f _ hf)).symm.trans rfl
  rw [e]
  have HQ : ∀ (L : List Value) , L.length = 263 →  L.getD 7 undef = .int .i64 0 → (∀ j ∈ [2, 3, 4, 5, 6], L.getD j undef = f j) → K0 ⟨L.toArray, []⟩ w := fun L  hl  e7 hk => by
    rw [Fm_of L 263 hl]
    exact hQ _   e7 hk
  have HQ := Lib.hid HQ
  have HFF := Lib.hid hf
  clear hQ hf e
  conv => arg 2; whnf
  go_wp2
  refine HQ.out _  rfl  rfl (fun j hj => ?_)
  simp only [List.mem_cons, List.not_mem_nil, or_false] at hj
  rcases hj with rfl | rfl | rfl | rfl | rfl
  · rfl
  · rfl
  · rfl
  · rfl
  · rfl
noncomputable def r12Code : Code := ((Tryd.f30.body.bind (oneRegion 12)).getD .skip)
set_option maxHeartbeats 4000000 in
set_option maxRecDepth 1000000 in
theorem r12 (k : Nat) (hk : k ≤ 16) (f : Nat → Value) (hf : ∀ p ∈ ([(7, (.int .i64 (k : Int)))] : List (Nat × Value)), f p.1 = p.2) (w : World) (K0 : Act → World → Prop) 
    (hQ : ∀ (f' : Nat → Value) ,  f' 55 = .bool (decide ((k : Int) < 16)) → (∀ j ∈ [2, 3, 4, 5, 6, 7], f' j = f j) → K0 (Fm 263 f') w) :
    Code.wp Tryd.prog r12Code (Only K0) (Fm 263 f) w := by
  have e : Fm 263 f = ⟨#[f 0, f 1, f 2, f 3, f 4, f 5, f 6, (.int .i64 (k : Int)), f 8, f 9, f 10, f 11, f 12, f 13, f 14, f 15, f 16, f 17, f 18, f 19, f 20, f 21, f 22, f 23, f 24, f 25, f 26, f 27, f 28, f 29, f 30, f 31, f 32, f 33, f 34, f 35, f 36, f 37, f 38, f 39, f 40, f 41, f 42, f 43, f 44, f 45, f 46, f 47, f 48, f 49, f 50, f 51, f 52, f 53, f 54, f 55, f 56, f 57, f 58, f 59, f 60, f 61, f 62, f 63, f 64, f 65, f 66, f 67, f 68, f 69, f 70, f 71, f 72, f 73, f 74, f 75, f 76, f 77, f 78, f 79, f 80, f 81, f 82, f 83, f 84, f 85, f 86, f 87, f 88, f 89, f 90, f 91, f 92, f 93, f 94, f 95, f 96, f 97, f 98, f 99, f 100, f 101, f 102, f 103, f 104, f 105, f 106, f 107, f 108, f 109, f 110, f 111, f 112, f 113, f 114, f 115, f 116, f 117, f 118, f 119, f 120, f 121, f 122, f 123, f 124, f 125, f 126, f 127, f 128, f 129, f 130, f 131, f 132, f 133, f 134, f 135, f 136, f 137, f 138, f 139, f 140, f 141, f 142, f 143, f 144, f 145, f 146, f 147, f 148, f 149, f 150, f 151, f 152, f 153, f 154, f 155, f 156, f 157, f 158, f 159, f 160, f 161, f 162, f 163, f 164, f 165, f 166, f 167, f 168, f 169, f 170, f 171, f 172, f 173, f 174, f 175, f 176, f 177, f 178, f 179, f 180, f 181, f 182, f 183, f 184, f 185, f 186, f 187, f 188, f 189, f 190, f 191, f 192, f 193, f 194, f 195, f 196, f 197, f 198, f 199, f 200, f 201, f 202, f 203, f 204, f 205, f 206, f 207, f 208, f 209, f 210, f 211, f 212, f 213, f 214, f 215, f 216, f 217, f 218, f 219, f 220, f 221, f 222, f 223, f 224, f 225, f 226, f 227, f 228, f 229, f 230, f 231, f 232, f 233, f 234, f 235, f 236, f 237, f 238, f 239, f 240, f 241, f 242, f 243, f 244, f 245, f 246, f 247, f 248, f 249, f 250, f 251, f 252, f 253, f 254, f 255, f 256, f 257, f 258, f 259, f 260, f 261, f 262], []⟩ := (congrArg (Fm 263) (ov_self f _ hf)).symm.trans rfl
  rw [e]
  have HQ : ∀ (L : List Value) , L.length = 263 →  L.getD 55 undef = .bool (decide ((k : Int) < 16)) → (∀ j ∈ [2, 3, 4, 5, 6, 7], L.getD j undef = f j) → K0 ⟨L.toArray, []⟩ w := fun L  hl  e55 hk => by
    rw [Fm_of L 263 hl]
    exact hQ _   e55 hk
  have HQ := Lib.hid HQ
  have HFF := Lib.hid hf
  clear hQ hf e
  conv => arg 2; whnf
  go_wp2
  refine HQ.out _  rfl  rfl (fun j hj => ?_)
  simp only [List.mem_cons, List.not_mem_nil, or_false] at hj
  rcases hj with rfl | rfl | rfl | rfl | rfl | rfl
  · rfl
  · rfl
  · rfl
  · rfl
  · rfl
  · exact (HFF.out (7, (.int .i64 (k : Int))) (by simp)).symm
noncomputable def r13Code : Code := ((Tryd.f30.body.bind (oneRegion 13)).getD .skip)
set_option maxHeartbeats 4000000 in
set_option maxRecDepth 1000000 in
theorem r13 (k : Nat) (hk : k < 16) (f : Nat → Value) (hf : ∀ p ∈ ([(7, (.int .i64 (k : Int)))] : List (Nat × Value)), f p.1 = p.2) (w : World) (K0 : Act → World → Prop) 
    (hQ : ∀ (f' : Nat → Value) ,  f' 7 = .int .i64 ((k : Int) + 1) → (∀ j ∈ [2, 3, 4, 5, 6], f' j = f j) → K0 (Fm 263 f') w) :
    Code.wp Tryd.prog r13Code (Only K0) (Fm 263 f) w := by
  have e : Fm 263 f = ⟨#[f 0, f 1, f 2, f 3, f 4, f 5, f 6, (.int .i64 (k : Int)), f 8, f 9, f 10, f 11, f 12, f 13, f 14, f 15, f 16, f 17, f 18, f 19, f 20, f 21, f 22, f 23, f 24, f 25, f 26, f 27, f 28, f 29, f 30, f 31, f 32, f 33, f 34, f 35, f 36, f 37, f 38, f 39, f 40, f 41, f 42, f 43, f 44, f 45, f 46, f 47, f 48, f 49, f 50, f 51, f 52, f 53, f 54, f 55, f 56, f 57, f 58, f 59, f 60, f 61, f 62, f 63, f 64, f 65, f 66, f 67, f 68, f 69, f 70, f 71, f 72, f 73, f 74, f 75, f 76, f 77, f 78, f 79, f 80, f 81, f 82, f 83, f 84, f 85, f 86, f 87, f 88, f 89, f 90, f 91, f 92, f 93, f 94, f 95, f 96, f 97, f 98, f 99, f 100, f 101, f 102, f 103, f 104, f 105, f 106, f 107, f 108, f 109, f 110, f 111, f 112, f 113, f 114, f 115, f 116, f 117, f 118, f 119, f 120, f 121, f 122, f 123, f 124, f 125, f 126, f 127, f 128, f 129, f 130, f 131, f 132, f 133, f 134, f 135, f 136, f 137, f 138, f 139, f 140, f 141, f 142, f 143, f 144, f 145, f 146, f 147, f 148, f 149, f 150, f 151, f 152, f 153, f 154, f 155, f 156, f 157, f 158, f 159, f 160, f 161, f 162, f 163, f 164, f 165, f 166, f 167, f 168, f 169, f 170, f 171, f 172, f 173, f 174, f 175, f 176, f 177, f 178, f 179, f 180, f 181, f 182, f 183, f 184, f 185, f 186, f 187, f 188, f 189, f 190, f 191, f 192, f 193, f 194, f 195, f 196, f 197, f 198, f 199, f 200, f 201, f 202, f 203, f 204, f 205, f 206, f 207, f 208, f 209, f 210, f 211, f 212, f 213, f 214, f 215, f 216, f 217, f 218, f 219, f 220, f 221, f 222, f 223, f 224, f 225, f 226, f 227, f 228, f 229, f 230, f 231, f 232, f 233, f 234, f 235, f 236, f 237, f 238, f 239, f 240, f 241, f 242, f 243, f 244, f 245, f 246, f 247, f 248, f 249, f 250, f 251, f 252, f 253, f 254, f 255, f 256, f 257, f 258, f 259, f 260, f 261, f 262], []⟩ := (congrArg (Fm 263) (ov_self f _ hf)).symm.trans rfl
  rw [e]
  have HQ : ∀ (L : List Value) , L.length = 263 →  L.getD 7 undef = .int .i64 ((k : Int) + 1) → (∀ j ∈ [2, 3, 4, 5, 6], L.getD j undef = f j) → K0 ⟨L.toArray, []⟩ w := fun L  hl  e7 hk => by
    rw [Fm_of L 263 hl]
    exact hQ _   e7 hk
  have HQ := Lib.hid HQ
  have HFF := Lib.hid hf
  clear hQ hf e
  conv => arg 2; whnf
  go_wp2
  refine HQ.out _  rfl  rfl (fun j hj => ?_)
  simp only [List.mem_cons, List.not_mem_nil, or_false] at hj
  rcases hj with rfl | rfl | rfl | rfl | rfl
  · rfl
  · rfl
  · rfl
  · rfl
  · rfl
noncomputable def r16Code : Code := ((Tryd.f30.body.bind (oneRegion 16)).getD .skip)
set_option maxHeartbeats 4000000 in
set_option maxRecDepth 1000000 in
theorem r16  (f : Nat → Value) (hf : ∀ p ∈ ([] : List (Nat × Value)), f p.1 = p.2) (w : World) (K0 : Act → World → Prop) 
    (hQ : ∀ (f' : Nat → Value) ,  f' 16 = .int .i64 0 → (∀ j ∈ [2, 3, 4, 5, 6, 7, 8, 9, 10, 11, 12, 13, 14, 15], f' j = f j) → K0 (Fm 263 f') w) :
    Code.wp Tryd.prog r16Code (Only K0) (Fm 263 f) w := by
  have e : Fm 263 f = ⟨#[f 0, f 1, f 2, f 3, f 4, f 5, f 6, f 7, f 8, f 9, f 10, f 11, f 12, f 13, f 14, f 15, f 16, f 17, f 18, f 19, f 20, f 21, f 22, f 23, f 24, f 25, f 26, f 27, f 28, f 29, f 30, f 31, f 32, f 33, f 34, f 35, f 36, f 37, f 38, f 39, f 40, f 41, f 42, f 43, f 44, f 45, f 46, f 47, f 48, f 49, f 50, f 51, f 52, f 53, f 54, f 55, f 56, f 57, f 58, f 59, f 60, f 61, f 62, f 63, f 64, f 65, f 66, f 67, f 68, f 69, f 70, f 71, f 72, f 73, f 74, f 75, f 76, f 77, f 78, f 79, f 80, f 81, f 82, f 83, f 84, f 85, f 86, f 87, f 88, f 89, f 90, f 91, f 92, f 93, f 94, f 95, f 96, f 97, f 98, f 99, f 100, f 101, f 102, f 103, f 104, f 105, f 106, f 107, f 108, f 109, f 110, f 111, f 112, f 113, f 114, f 115, f 116, f 117, f 118, f 119, f 120, f 121, f 122, f 123, f 124, f 125, f 126, f 127, f 128, f 129, f 130, f 131, f 132, f 133, f 134, f 135, f 136, f 137, f 138, f 139, f 140, f 141, f 142, f 143, f 144, f 145, f 146, f 147, f 148, f 149, f 150, f 151, f 152, f 153, f 154, f 155, f 156, f 157, f 158, f 159, f 160, f 161, f 162, f 163, f 164, f 165, f 166, f 167, f 168, f 169, f 170, f 171, f 172, f 173, f 174, f 175, f 176, f 177, f 178, f 179, f 180, f 181, f 182, f 183, f 184, f 185, f 186, f 187, f 188, f 189, f 190, f 191, f 192, f 193, f 194, f 195, f 196, f 197, f 198, f 199, f 200, f 201, f 202, f 203, f 204, f 205, f 206, f 207, f 208, f 209, f 210, f 211, f 212, f 213, f 214, f 215, f 216, f 217, f 218, f 219, f 220, f 221, f 222, f 223, f 224, f 225, f 226, f 227, f 228, f 229, f 230, f 231, f 232, f 233, f 234, f 235, f 236, f 237, f 238, f 239, f 240, f 241, f 242, f 243, f 244, f 245, f 246, f 247, f 248, f 249, f 250, f 251, f 252, f 253, f 254, f 255, f 256, f 257, f 258, f 259, f 260, f 261, f 262], []⟩ := (congrArg (Fm 263) (ov_self f _ hf)).symm.trans rfl
  rw [e]
  have HQ : ∀ (L : List Value) , L.length = 263 →  L.getD 16 undef = .int .i64 0 → (∀ j ∈ [2, 3, 4, 5, 6, 7, 8, 9, 10, 11, 12, 13, 14, 15], L.getD j undef = f j) → K0 ⟨L.toArray, []⟩ w := fun L  hl  e16 hk => by
    rw [Fm_of L 263 hl]
    exact hQ _   e16 hk
  have HQ := Lib.hid HQ
  have HFF := Lib.hid hf
  clear hQ hf e
  conv => arg 2; whnf
  go_wp2
  refine HQ.out _  rfl  rfl (fun j hj => ?_)
  simp only [List.mem_cons, List.not_mem_nil, or_false] at hj
  rcases hj with rfl | rfl | rfl | rfl | rfl | rfl | rfl | rfl | rfl | rfl | rfl | rfl | rfl | rfl
  · rfl
  · rfl
  · rfl
  · rfl
  · rfl
  · rfl
  · rfl
  · rfl
  · rfl
  · rfl
  · rfl
  · rfl
  · rfl
  · rfl
noncomputable def r29Code : Code := ((Tryd.f30.body.bind (oneRegion 29)).getD .skip)
set_option maxHeartbeats 4000000 in
set_option maxRecDepth 1000000 in
theorem r29  (f : Nat → Value) (hf : ∀ p ∈ ([] : List (Nat × Value)), f p.1 = p.2) (w : World) (K0 : Act → World → Prop) 
    (hQ : ∀ (f' : Nat → Value) ,  f' 24 = .int .i64 0 → (∀ j ∈ [2, 3, 4, 5, 23], f' j = f j) → K0 (Fm 263 f') w) :
    Code.wp Tryd.prog r29Code (Only K0) (Fm 263 f) w := by
  have e : Fm 263 f = ⟨#[f 0, f 1, f 2, f 3, f 4, f 5, f 6, f 7, f 8, f 9, f 10, f 11, f 12, f 13, f 14, f 15, f 16, f 17, f 18, f 19, f 20, f 21, f 22, f 23, f 24, f 25, f 26, f 27, f 28, f 29, f 30, f 31, f 32, f 33, f 34, f 35, f 36, f 37, f 38, f 39, f 40, f 41, f 42, f 43, f 44, f 45, f 46, f 47, f 48, f 49, f 50, f 51, f 52, f 53, f 54, f 55, f 56, f 57, f 58, f 59, f 60, f 61, f 62, f 63, f 64, f 65, f 66, f 67, f 68, f 69, f 70, f 71, f 72, f 73, f 74, f 75, f 76, f 77, f 78, f 79, f 80, f 81, f 82, f 83, f 84, f 85, f 86, f 87, f 88, f 89, f 90, f 91, f 92, f 93, f 94, f 95, f 96, f 97, f 98, f 99, f 100, f 101, f 102, f 103, f 104, f 105, f 106, f 107, f 108, f 109, f 110, f 111, f 112, f 113, f 114, f 115, f 116, f 117, f 118, f 119, f 120, f 121, f 122, f 123, f 124, f 125, f 126, f 127, f 128, f 129, f 130, f 131, f 132, f 133, f 134, f 135, f 136, f 137, f 138, f 139, f 140, f 141, f 142, f 143, f 144, f 145, f 146, f 147, f 148, f 149, f 150, f 151, f 152, f 153, f 154, f 155, f 156, f 157, f 158, f 159, f 160, f 161, f 162, f 163, f 164, f 165, f 166, f 167, f 168, f 169, f 170, f 171, f 172, f 173, f 174, f 175, f 176, f 177, f 178, f 179, f 180, f 181, f 182, f 183, f 184, f 185, f 186, f 187, f 188, f 189, f 190, f 191, f 192, f 193, f 194, f 195, f 196, f 197, f 198, f 199, f 200, f 201, f 202, f 203, f 204, f 205, f 206, f 207, f 208, f 209, f 210, f 211, f 212, f 213, f 214, f 215, f 216, f 217, f 218, f 219, f 220, f 221, f 222, f 223, f 224, f 225, f 226, f 227, f 228, f 229, f 230, f 231, f 232, f 233, f 234, f 235, f 236, f 237, f 238, f 239, f 240, f 241, f 242, f 243, f 244, f 245, f 246, f 247, f 248, f 249, f 250, f 251, f 252, f 253, f 254, f 255, f 256, f 257, f 258, f 259, f 260, f 261, f 262], []⟩ := (congrArg (Fm 263) (ov_self f _ hf)).symm.trans rfl
  rw [e]
  have HQ : ∀ (L : List Value) , L.length = 263 →  L.getD 24 undef = .int .i64 0 → (∀ j ∈ [2, 3, 4, 5, 23], L.getD j undef = f j) → K0 ⟨L.toArray, []⟩ w := fun L  hl  e24 hk => by
    rw [Fm_of L 263 hl]
    exact hQ _   e24 hk
  have HQ := Lib.hid HQ
  have HFF := Lib.hid hf
  clear hQ hf e
  conv => arg 2; whnf
  go_wp2
  refine HQ.out _  rfl  rfl (fun j hj => ?_)
  simp only [List.mem_cons, List.not_mem_nil, or_false] at hj
  rcases hj with rfl | rfl | rfl | rfl | rfl
  · rfl
  · rfl
  · rfl
  · rfl
  · rfl
noncomputable def r30Code : Code := ((Tryd.f30.body.bind (oneRegion 30)).getD .skip)
set_option maxHeartbeats 4000000 in
set_option maxRecDepth 1000000 in
theorem r30 (k : Nat) (hk : k ≤ 8) (f : Nat → Value) (hf : ∀ p ∈ ([(24, (.int .i64 (k : Int)))] : List (Nat × Value)), f p.1 = p.2) (w : World) (K0 : Act → World → Prop) 
    (hQ : ∀ (f' : Nat → Value) ,  f' 233 = .bool (decide ((k : Int) < 8)) → (∀ j ∈ [2, 3, 4, 5, 23, 24], f' j = f j) → K0 (Fm 263 f') w) :
    Code.wp Tryd.prog r30Code (Only K0) (Fm 263 f) w := by
  have e : Fm 263 f = ⟨#[f 0, f 1, f 2, f 3, f 4, f 5, f 6, f 7, f 8, f 9, f 10, f 11, f 12, f 13, f 14, f 15, f 16, f 17, f 18, f 19, f 20, f 21, f 22, f 23, (.int .i64 (k : Int)), f 25, f 26, f 27, f 28, f 29, f 30, f 31, f 32, f 33, f 34, f 35, f 36, f 37, f 38, f 39, f 40, f 41, f 42, f 43, f 44, f 45, f 46, f 47, f 48, f 49, f 50, f 51, f 52, f 53, f 54, f 55, f 56, f 57, f 58, f 59, f 60, f 61, f 62, f 63, f 64, f 65, f 66, f 67, f 68, f 69, f 70, f 71, f 72, f 73, f 74, f 75, f 76, f 77, f 78, f 79, f 80, f 81, f 82, f 83, f 84, f 85, f 86, f 87, f 88, f 89, f 90, f 91, f 92, f 93, f 94, f 95, f 96, f 97, f 98, f 99, f 100, f 101, f 102, f 103, f 104, f 105, f 106, f 107, f 108, f 109, f 110, f 111, f 112, f 113, f 114, f 115, f 116, f 117, f 118, f 119, f 120, f 121, f 122, f 123, f 124, f 125, f 126, f 127, f 128, f 129, f 130, f 131, f 132, f 133, f 134, f 135, f 136, f 137, f 138, f 139, f 140, f 141, f 142, f 143, f 144, f 145, f 146, f 147, f 148, f 149, f 150, f 151, f 152, f 153, f 154, f 155, f 156, f 157, f 158, f 159, f 160, f 161, f 162, f 163, f 164, f 165, f 166, f 167, f 168, f 169, f 170, f 171, f 172, f 173, f 174, f 175, f 176, f 177, f 178, f 179, f 180, f 181, f 182, f 183, f 184, f 185, f 186, f 187, f 188, f 189, f 190, f 191, f 192, f 193, f 194, f 195, f 196, f 197, f 198, f 199, f 200, f 201, f 202, f 203, f 204, f 205, f 206, f 207, f 208, f 209, f 210, f 211, f 212, f 213, f 214, f 215, f 216, f 217, f 218, f 219, f 220, f 221, f 222, f 223, f 224, f 225, f 226, f 227, f 228, f 229, f 230, f 231, f 232, f 233, f 234, f 235, f 236, f 237, f 238, f 239, f 240, f 241, f 242, f 243, f 244, f 245, f 246, f 247, f 248, f 249, f 250, f 251, f 252, f 253, f 254, f 255, f 256, f 257, f 258, f 259, f 260, f 261, f 262], []⟩ := (congrArg (Fm 263) (ov_self f _ hf)).symm.trans rfl
  rw [e]
  have HQ : ∀ (L : List Value) , L.length = 263 →  L.getD 233 undef = .bool (decide ((k : Int) < 8)) → (∀ j ∈ [2, 3, 4, 5, 23, 24], L.getD j undef = f j) → K0 ⟨L.toArray, []⟩ w := fun L  hl  e233 hk => by
    rw [Fm_of L 263 hl]
    exact hQ _   e233 hk
  have HQ := Lib.hid HQ
  have HFF := Lib.hid hf
  clear hQ hf e
  conv => arg 2; whnf
  go_wp2
  refine HQ.out _  rfl  rfl (fun j hj => ?_)
  simp only [List.mem_cons, List.not_mem_nil, or_false] at hj
  rcases hj with rfl | rfl | rfl | rfl | rfl | rfl
  · rfl
  · rfl
  · rfl
  · rfl
  · rfl
  · exact (HFF.out (24, (.int .i64 (k : Int))) (by simp)).symm
noncomputable def r31Code : Code := ((Tryd.f30.body.bind (oneRegion 31)).getD .skip)
set_option maxHeartbeats 4000000 in
set_option maxRecDepth 1000000 in
theorem r31 (k : Nat) (hk : k < 8) (f : Nat → Value) (hf : ∀ p ∈ ([(24, (.int .i64 (k : Int)))] : List (Nat × Value)), f p.1 = p.2) (w : World) (K0 : Act → World → Prop) 
    (hQ : ∀ (f' : Nat → Value) ,  f' 24 = .int .i64 ((k : Int) + 1) → (∀ j ∈ [2, 3, 4, 5, 23], f' j = f j) → K0 (Fm 263 f') w) :
    Code.wp Tryd.prog r31Code (Only K0) (Fm 263 f) w := by
  have e : Fm 263 f = ⟨#[f 0, f 1, f 2, f 3, f 4, f 5, f 6, f 7, f 8, f 9, f 10, f 11, f 12, f 13, f 14, f 15, f 16, f 17, f 18, f 19, f 20, f 21, f 22, f 23, (.int .i64 (k : Int)), f 25, f 26, f 27, f 28, f 29, f 30, f 31, f 32, f 33, f 34, f 35, f 36, f 37, f 38, f 39, f 40, f 41, f 42, f 43, f 44, f 45, f 46, f 47, f 48, f 49, f 50, f 51, f 52, f 53, f 54, f 55, f 56, f 57, f 58, f 59, f 60, f 61, f 62, f 63, f 64, f 65, f 66, f 67, f 68, f 69, f 70, f 71, f 72, f 73, f 74, f 75, f 76, f 77, f 78, f 79, f 80, f 81, f 82, f 83, f 84, f 85, f 86, f 87, f 88, f 89, f 90, f 91, f 92, f 93, f 94, f 95, f 96, f 97, f 98, f 99, f 100, f 101, f 102, f 103, f 104, f 105, f 106, f 107, f 108, f 109, f 110, f 111, f 112, f 113, f 114, f 115, f 116, f 117, f 118, f 119, f 120, f 121, f 122, f 123, f 124, f 125, f 126, f 127, f 128, f 129, f 130, f 131, f 132, f 133, f 134, f 135, f 136, f 137, f 138, f 139, f 140, f 141, f 142, f 143, f 144, f 145, f 146, f 147, f 148, f 149, f 150, f 151, f 152, f 153, f 154, f 155, f 156, f 157, f 158, f 159, f 160, f 161, f 162, f 163, f 164, f 165, f 166, f 167, f 168, f 169, f 170, f 171, f 172, f 173, f 174, f 175, f 176, f 177, f 178, f 179, f 180, f 181, f 182, f 183, f 184, f 185, f 186, f 187, f 188, f 189, f 190, f 191, f 192, f 193, f 194, f 195, f 196, f 197, f 198, f 199, f 200, f 201, f 202, f 203, f 204, f 205, f 206, f 207, f 208, f 209, f 210, f 211, f 212, f 213, f 214, f 215, f 216, f 217, f 218, f 219, f 220, f 221, f 222, f 223, f 224, f 225, f 226, f 227, f 228, f 229, f 230, f 231, f 232, f 233, f 234, f 235, f 236, f 237, f 238, f 239, f 240, f 241, f 242, f 243, f 244, f 245, f 246, f 247, f 248, f 249, f 250, f 251, f 252, f 253, f 254, f 255, f 256, f 257, f 258, f 259, f 260, f 261, f 262], []⟩ := (congrArg (Fm 263) (ov_self f _ hf)).symm.trans rfl
  rw [e]
  have HQ : ∀ (L : List Value) , L.length = 263 →  L.getD 24 undef = .int .i64 ((k : Int) + 1) → (∀ j ∈ [2, 3, 4, 5, 23], L.getD j undef = f j) → K0 ⟨L.toArray, []⟩ w := fun L  hl  e24 hk => by
    rw [Fm_of L 263 hl]
    exact hQ _   e24 hk
  have HQ := Lib.hid HQ
  have HFF := Lib.hid hf
  clear hQ hf e
  conv => arg 2; whnf
  go_wp2
  refine HQ.out _  rfl  rfl (fun j hj => ?_)
  simp only [List.mem_cons, List.not_mem_nil, or_false] at hj
  rcases hj with rfl | rfl | rfl | rfl | rfl
  · rfl
  · rfl
  · rfl
  · rfl
  · rfl
noncomputable def r9Code : Code := ((Tryd.f30.body.bind (oneRegion 9)).getD .skip)
set_option maxHeartbeats 4000000 in
set_option maxRecDepth 1000000 in
theorem r9 (at_ : Nat) (h5 : at_ ≤ 4194304) (f : Nat → Value) (hf : ∀ p ∈ ([(5, (.int .i64 (at_ : Int)))] : List (Nat × Value)), f p.1 = p.2) (w : World) (K0 : Act → World → Prop) 
    (hQ : ∀ (f' : Nat → Value) ,  f' 5 = .int .i64 ((at_ : Int) + 64) → (∀ j ∈ [2, 3, 4], f' j = f j) → K0 (Fm 263 f') w) :
    Code.wp Tryd.prog r9Code (Only K0) (Fm 263 f) w := by
  have e : Fm 263 f = ⟨#[f 0, f 1, f 2, f 3, f 4, (.int .i64 (at_ : Int)), f 6, f 7, f 8, f 9, f 10, f 11, f 12, f 13, f 14, f 15, f 16, f 17, f 18, f 19, f 20, f 21, f 22, f 23, f 24, f 25, f 26, f 27, f 28, f 29, f 30, f 31, f 32, f 33, f 34, f 35, f 36, f 37, f 38, f 39, f 40, f 41, f 42, f 43, f 44, f 45, f 46, f 47, f 48, f 49, f 50, f 51, f 52, f 53, f 54, f 55, f 56, f 57, f 58, f 59, f 60, f 61, f 62, f 63, f 64, f 65, f 66, f 67, f 68, f 69, f 70, f 71, f 72, f 73, f 74, f 75, f 76, f 77, f 78, f 79, f 80, f 81, f 82, f 83, f 84, f 85, f 86, f 87, f 88, f 89, f 90, f 91, f 92, f 93, f 94, f 95, f 96, f 97, f 98, f 99, f 100, f 101, f 102, f 103, f 104, f 105, f 106, f 107, f 108, f 109, f 110, f 111, f 112, f 113, f 114, f 115, f 116, f 117, f 118, f 119, f 120, f 121, f 122, f 123, f 124, f 125, f 126, f 127, f 128, f 129, f 130, f 131, f 132, f 133, f 134, f 135, f 136, f 137, f 138, f 139, f 140, f 141, f 142, f 143, f 144, f 145, f 146, f 147, f 148, f 149, f 150, f 151, f 152, f 153, f 154, f 155, f 156, f 157, f 158, f 159, f 160, f 161, f 162, f 163, f 164, f 165, f 166, f 167, f 168, f 169, f 170, f 171, f 172, f 173, f 174, f 175, f 176, f 177, f 178, f 179, f 180, f 181, f 182, f 183, f 184, f 185, f 186, f 187, f 188, f 189, f 190, f 191, f 192, f 193, f 194, f 195, f 196, f 197, f 198, f 199, f 200, f 201, f 202, f 203, f 204, f 205, f 206, f 207, f 208, f 209, f 210, f 211, f 212, f 213, f 214, f 215, f 216, f 217, f 218, f 219, f 220, f 221, f 222, f 223, f 224, f 225, f 226, f 227, f 228, f 229, f 230, f 231, f 232, f 233, f 234, f 235, f 236, f 237, f 238, f 239, f 240, f 241, f 242, f 243, f 244, f 245, f 246, f 247, f 248, f 249, f 250, f 251, f 252, f 253, f 254, f 255, f 256, f 257, f 258, f 259, f 260, f 261, f 262], []⟩ := (congrArg (Fm 263) (ov_self f _ hf)).symm.trans rfl
  rw [e]
  have HQ : ∀ (L : List Value) , L.length = 263 →  L.getD 5 undef = .int .i64 ((at_ : Int) + 64) → (∀ j ∈ [2, 3, 4], L.getD j undef = f j) → K0 ⟨L.toArray, []⟩ w := fun L  hl  e5 hk => by
    rw [Fm_of L 263 hl]
    exact hQ _   e5 hk
  have HQ := Lib.hid HQ
  have HFF := Lib.hid hf
  clear hQ hf e
  conv => arg 2; whnf
  go_wp2
  refine HQ.out _  rfl  rfl (fun j hj => ?_)
  simp only [List.mem_cons, List.not_mem_nil, or_false] at hj
  rcases hj with rfl | rfl | rfl
  · rfl
  · rfl
  · rfl
noncomputable def r15Code : Code := ((Tryd.f30.body.bind (oneRegion 15)).getD .skip)
set_option maxHeartbeats 4000000 in
set_option maxRecDepth 1000000 in
theorem r15 (S : Nat) (ta tb tc td te tf tg th : Int) (f : Nat → Value) (hf : ∀ p ∈ ([(3, (.slice (some ⟨S, 0, none⟩) 8 8))] : List (Nat × Value)), f p.1 = p.2) (w : World) (K0 : Act → World → Prop) (c0 : w.cell? ⟨S, 0, none⟩ = some (.int .u32 ta)) (c1 : w.cell? ⟨S, 1, none⟩ = some (.int .u32 tb)) (c2 : w.cell? ⟨S, 2, none⟩ = some (.int .u32 tc)) (c3 : w.cell? ⟨S, 3, none⟩ = some (.int .u32 td)) (c4 : w.cell? ⟨S, 4, none⟩ = some (.int .u32 te)) (c5 : w.cell? ⟨S, 5, none⟩ = some (.int .u32 tf)) (c6 : w.cell? ⟨S, 6, none⟩ = some (.int .u32 tg)) (c7 : w.cell? ⟨S, 7, none⟩ = some (.int .u32 th))
    (hQ : ∀ (f' : Nat → Value) (m : Nat),  f' 8 = .int .u32 ta → f' 9 = .int .u32 tb → f' 10 = .int .u32 tc → f' 11 = .int .u32 td → f' 12 = .int .u32 te → f' 13 = .int .u32 tf → f' 14 = .int .u32 tg → f' 15 = .int .u32 th → (∀ j ∈ [2, 3, 4, 5, 6], f' j = f j) → K0 (Fm 263 f') (w.drewN m)) :
    Code.wp Tryd.prog r15Code (Only K0) (Fm 263 f) w := by
  have e : Fm 263 f = ⟨#[f 0, f 1, f 2, (.slice (some ⟨S, 0, none⟩) 8 8), f 4, f 5, f 6, f 7, f 8, f 9, f 10, f 11, f 12, f 13, f 14, f 15, f 16, f 17, f 18, f 19, f 20, f 21, f 22, f 23, f 24, f 25, f 26, f 27, f 28, f 29, f 30, f 31, f 32, f 33, f 34, f 35, f 36, f 37, f 38, f 39, f 40, f 41, f 42, f 43, f 44, f 45, f 46, f 47, f 48, f 49, f 50, f 51, f 52, f 53, f 54, f 55, f 56, f 57, f 58, f 59, f 60, f 61, f 62, f 63, f 64, f 65, f 66, f 67, f 68, f 69, f 70, f 71, f 72, f 73, f 74, f 75, f 76, f 77, f 78, f 79, f 80, f 81, f 82, f 83, f 84, f 85, f 86, f 87, f 88, f 89, f 90, f 91, f 92, f 93, f 94, f 95, f 96, f 97, f 98, f 99, f 100, f 101, f 102, f 103, f 104, f 105, f 106, f 107, f 108, f 109, f 110, f 111, f 112, f 113, f 114, f 115, f 116, f 117, f 118, f 119, f 120, f 121, f 122, f 123, f 124, f 125, f 126, f 127, f 128, f 129, f 130, f 131, f 132, f 133, f 134, f 135, f 136, f 137, f 138, f 139, f 140, f 141, f 142, f 143, f 144, f 145, f 146, f 147, f 148, f 149, f 150, f 151, f 152, f 153, f 154, f 155, f 156, f 157, f 158, f 159, f 160, f 161, f 162, f 163, f 164, f 165, f 166, f 167, f 168, f 169, f 170, f 171, f 172, f 173, f 174, f 175, f 176, f 177, f 178, f 179, f 180, f 181, f 182, f 183, f 184, f 185, f 186, f 187, f 188, f 189, f 190, f 191, f 192, f 193, f 194, f 195, f 196, f 197, f 198, f 199, f 200, f 201, f 202, f 203, f 204, f 205, f 206, f 207, f 208, f 209, f 210, f 211, f 212, f 213, f 214, f 215, f 216, f 217, f 218, f 219, f 220, f 221, f 222, f 223, f 224, f 225, f 226, f 227, f 228, f 229, f 230, f 231, f 232, f 233, f 234, f 235, f 236, f 237, f 238, f 239, f 240, f 241, f 242, f 243, f 244, f 245, f 246, f 247, f 248, f 249, f 250, f 251, f 252, f 253, f 254, f 255, f 256, f 257, f 258, f 259, f 260, f 261, f 262], []⟩ := (congrArg (Fm 263) (ov_self f _ hf)).symm.trans rfl
  rw [e]
  have HQ : ∀ (L : List Value) (m : Nat), L.length = 263 →  L.getD 8 undef = .int .u32 ta → L.getD 9 undef = .int .u32 tb → L.getD 10 undef = .int .u32 tc → L.getD 11 undef = .int .u32 td → L.getD 12 undef = .int .u32 te → L.getD 13 undef = .int .u32 tf → L.getD 14 undef = .int .u32 tg → L.getD 15 undef = .int .u32 th → (∀ j ∈ [2, 3, 4, 5, 6], L.getD j undef = f j) → K0 ⟨L.toArray, []⟩ (w.drewN m) := fun L m hl  e8 e9 e10 e11 e12 e13 e14 e15 hk => by
    rw [Fm_of L 263 hl]
    exact hQ _ m  e8 e9 e10 e11 e12 e13 e14 e15 hk
  have HQ := Lib.hid HQ
  have HFF := Lib.hid hf
  clear hQ hf e
  conv => arg 2; whnf
  go_quiet (fail)
  go_wp2_with fail
  refine HQ.out _ _ rfl  rfl rfl rfl rfl rfl rfl rfl rfl (fun j hj => ?_)
  simp only [List.mem_cons, List.not_mem_nil, or_false] at hj
  rcases hj with rfl | rfl | rfl | rfl | rfl
  · rfl
  · exact (HFF.out (3, (.slice (some ⟨S, 0, none⟩) 8 8)) (by simp)).symm
  · rfl
  · rfl
  · rfl
noncomputable def r28Code : Code := ((Tryd.f30.body.bind (oneRegion 28)).getD .skip)
set_option maxHeartbeats 4000000 in
set_option maxRecDepth 1000000 in
theorem r28 (ta tb tc td te tf tg th : Int) (f : Nat → Value) (hf : ∀ p ∈ ([(8, (.int .u32 ta)), (9, (.int .u32 tb)), (10, (.int .u32 tc)), (11, (.int .u32 td)), (12, (.int .u32 te)), (13, (.int .u32 tf)), (14, (.int .u32 tg)), (15, (.int .u32 th))] : List (Nat × Value)), f p.1 = p.2) (w : World) (K0 : Act → World → Prop) 
    (hQ : ∀ (f' : Nat → Value) ,  f' 23 = .slice (some ⟨w.heap.size, 0, none⟩) 8 8 → (∀ j ∈ [2, 3, 4, 5], f' j = f j) → K0 (Fm 263 f') (w.alloc (.cells #[.int .u32 ta, .int .u32 tb, .int .u32 tc, .int .u32 td, .int .u32 te, .int .u32 tf, .int .u32 tg, .int .u32 th] 59))) :
    Code.wp Tryd.prog r28Code (Only K0) (Fm 263 f) w := by
  have e : Fm 263 f = ⟨#[f 0, f 1, f 2, f 3, f 4, f 5, f 6, f 7, (.int .u32 ta), (.int .u32 tb), (.int .u32 tc), (.int .u32 td), (.int .u32 te), (.int .u32 tf), (.int .u32 tg), (.int .u32 th), f 16, f 17, f 18, f 19, f 20, f 21, f 22, f 23, f 24, f 25, f 26, f 27, f 28, f 29, f 30, f 31, f 32, f 33, f 34, f 35, f 36, f 37, f 38, f 39, f 40, f 41, f 42, f 43, f 44, f 45, f 46, f 47, f 48, f 49, f 50, f 51, f 52, f 53, f 54, f 55, f 56, f 57, f 58, f 59, f 60, f 61, f 62, f 63, f 64, f 65, f 66, f 67, f 68, f 69, f 70, f 71, f 72, f 73, f 74, f 75, f 76, f 77, f 78, f 79, f 80, f 81, f 82, f 83, f 84, f 85, f 86, f 87, f 88, f 89, f 90, f 91, f 92, f 93, f 94, f 95, f 96, f 97, f 98, f 99, f 100, f 101, f 102, f 103, f 104, f 105, f 106, f 107, f 108, f 109, f 110, f 111, f 112, f 113, f 114, f 115, f 116, f 117, f 118, f 119, f 120, f 121, f 122, f 123, f 124, f 125, f 126, f 127, f 128, f 129, f 130, f 131, f 132, f 133, f 134, f 135, f 136, f 137, f 138, f 139, f 140, f 141, f 142, f 143, f 144, f 145, f 146, f 147, f 148, f 149, f 150, f 151, f 152, f 153, f 154, f 155, f 156, f 157, f 158, f 159, f 160, f 161, f 162, f 163, f 164, f 165, f 166, f 167, f 168, f 169, f 170, f 171, f 172, f 173, f 174, f 175, f 176, f 177, f 178, f 179, f 180, f 181, f 182, f 183, f 184, f 185, f 186, f 187, f 188, f 189, f 190, f 191, f 192, f 193, f 194, f 195, f 196, f 197, f 198, f 199, f 200, f 201, f 202, f 203, f 204, f 205, f 206, f 207, f 208, f 209, f 210, f 211, f 212, f 213, f 214, f 215, f 216, f 217, f 218, f 219, f 220, f 221, f 222, f 223, f 224, f 225, f 226, f 227, f 228, f 229, f 230, f 231, f 232, f 233, f 234, f 235, f 236, f 237, f 238, f 239, f 240, f 241, f 242, f 243, f 244, f 245, f 246, f 247, f 248, f 249, f 250, f 251, f 252, f 253, f 254, f 255, f 256, f 257, f 258, f 259, f 260, f 261, f 262], []⟩ := (congrArg (Fm 263) (ov_self f _ hf)).symm.trans rfl
  rw [e]
  have HQ : ∀ (L : List Value) , L.length = 263 →  L.getD 23 undef = .slice (some ⟨w.heap.size, 0, none⟩) 8 8 → (∀ j ∈ [2, 3, 4, 5], L.getD j undef = f j) → K0 ⟨L.toArray, []⟩ (w.alloc (.cells #[.int .u32 ta, .int .u32 tb, .int .u32 tc, .int .u32 td, .int .u32 te, .int .u32 tf, .int .u32 tg, .int .u32 th] 59)) := fun L  hl  e23 hk => by
    rw [Fm_of L 263 hl]
    exact hQ _   e23 hk
  have HQ := Lib.hid HQ
  have HFF := Lib.hid hf
  clear hQ hf e
  conv => arg 2; whnf
  go_wp2
  refine HQ.out _  rfl  rfl (fun j hj => ?_)
  simp only [List.mem_cons, List.not_mem_nil, or_false] at hj
  rcases hj with rfl | rfl | rfl | rfl
  · rfl
  · rfl
  · rfl
  · rfl
noncomputable def r32Code : Code := ((Tryd.f30.body.bind (oneRegion 32)).getD .skip)
set_option maxHeartbeats 4000000 in
set_option maxRecDepth 1000000 in
theorem r32 (k S M : Nat) (x y : Int) (hk : k < 8) (f : Nat → Value) (hf : ∀ p ∈ ([(3, (.slice (some ⟨S, 0, none⟩) 8 8)), (23, (.slice (some ⟨M, 0, none⟩) 8 8)), (24, (.int .i64 (k : Int)))] : List (Nat × Value)), f p.1 = p.2) (w : World) (K0 : Act → World → Prop) (cS : w.cell? ⟨S, k, none⟩ = some (.int .u32 x)) (cM : w.cell? ⟨M, k, none⟩ = some (.int .u32 y)) (fS : w.frozen? ⟨S, k, none⟩ = false)
    (hQ : ∀ (f' : Nat → Value) (v : Value), v = .int .u32 ((x + y) % 4294967296) → (∀ j ∈ [2, 3, 4, 5, 23, 24], f' j = f j) → K0 (Fm 263 f') (w.drew.setCell ⟨S, k, none⟩ v)) :
    Code.wp Tryd.prog r32Code (Only K0) (Fm 263 f) w := by
  have e : Fm 263 f = ⟨#[f 0, f 1, f 2, (.slice (some ⟨S, 0, none⟩) 8 8), f 4, f 5, f 6, f 7, f 8, f 9, f 10, f 11, f 12, f 13, f 14, f 15, f 16, f 17, f 18, f 19, f 20, f 21, f 22, (.slice (some ⟨M, 0, none⟩) 8 8), (.int .i64 (k : Int)), f 25, f 26, f 27, f 28, f 29, f 30, f 31, f 32, f 33, f 34, f 35, f 36, f 37, f 38, f 39, f 40, f 41, f 42, f 43, f 44, f 45, f 46, f 47, f 48, f 49, f 50, f 51, f 52, f 53, f 54, f 55, f 56, f 57, f 58, f 59, f 60, f 61, f 62, f 63, f 64, f 65, f 66, f 67, f 68, f 69, f 70, f 71, f 72, f 73, f 74, f 75, f 76, f 77, f 78, f 79, f 80, f 81, f 82, f 83, f 84, f 85, f 86, f 87, f 88, f 89, f 90, f 91, f 92, f 93, f 94, f 95, f 96, f 97, f 98, f 99, f 100, f 101, f 102, f 103, f 104, f 105, f 106, f 107, f 108, f 109, f 110, f 111, f 112, f 113, f 114, f 115, f 116, f 117, f 118, f 119, f 120, f 121, f 122, f 123, f 124, f 125, f 126, f 127, f 128, f 129, f 130, f 131, f 132, f 133, f 134, f 135, f 136, f 137, f 138, f 139, f 140, f 141, f 142, f 143, f 144, f 145, f 146, f 147, f 148, f 149, f 150, f 151, f 152, f 153, f 154, f 155, f 156, f 157, f 158, f 159, f 160, f 161, f 162, f 163, f 164, f 165, f 166, f 167, f 168, f 169, f 170, f 171, f 172, f 173, f 174, f 175, f 176, f 177, f 178, f 179, f 180, f 181, f 182, f 183, f 184, f 185, f 186, f 187, f 188, f 189, f 190, f 191, f 192, f 193, f 194, f 195, f 196, f 197, f 198, f 199, f 200, f 201, f 202, f 203, f 204, f 205, f 206, f 207, f 208, f 209, f 210, f 211, f 212, f 213, f 214, f 215, f 216, f 217, f 218, f 219, f 220, f 221, f 222, f 223, f 224, f 225, f 226, f 227, f 228, f 229, f 230, f 231, f 232, f 233, f 234, f 235, f 236, f 237, f 238, f 239, f 240, f 241, f 242, f 243, f 244, f 245, f 246, f 247, f 248, f 249, f 250, f 251, f 252, f 253, f 254, f 255, f 256, f 257, f 258, f 259, f 260, f 261, f 262], []⟩ := (congrArg (Fm 263) (ov_self f _ hf)).symm.trans rfl
  rw [e]
  have HQ : ∀ (L : List Value) (v : Value), L.length = 263 → v = .int .u32 ((x + y) % 4294967296) → (∀ j ∈ [2, 3, 4, 5, 23, 24], L.getD j undef = f j) → K0 ⟨L.toArray, []⟩ (w.drew.setCell ⟨S, k, none⟩ v) := fun L v hl q0  hk => by
    rw [Fm_of L 263 hl]
    exact hQ _ v q0  hk
  have HQ := Lib.hid HQ
  have HFF := Lib.hid hf
  clear hQ hf e
  have hk0 : (0 : Int) ≤ (k : Int) := by omega
  have hk8 : (k : Int) < 8 := by omega
  conv => arg 2; whnf
  go_region
  all_goals go_wp2_with fail
  all_goals
    refine HQ.out _ _ rfl (by first | rfl | (simp only [IntKind.wrap_u32']; rfl) | (congr 1; simp only [IntKind.wrap_u32']))  (fun j hj => ?_)
    simp only [List.mem_cons, List.not_mem_nil, or_false] at hj
    rcases hj with rfl | rfl | rfl | rfl | rfl | rfl
    · rfl
    · exact (HFF.out (3, (.slice (some ⟨S, 0, none⟩) 8 8)) (by simp)).symm
    · rfl
    · rfl
    · exact (HFF.out (23, (.slice (some ⟨M, 0, none⟩) 8 8)) (by simp)).symm
    · exact (HFF.out (24, (.int .i64 (k : Int))) (by simp)).symm
end Go.Proofs.YteafnknghnhlgaaDoor.Sha
namespace Go.Proofs.YteafnknghnhlgaaDoor.Sha
open Go.RowKit Base

def stCell (s : St) (j : Nat) : Value := .int .u32 (s.at j)
theorem fs1 {f : Nat → Value} {a : Nat} {u : Value} (h : f a = u) : ∀ p ∈ ([(a, u)] : List (Nat × Value)), f p.1 = p.2 := by
  intro p hp
  simp only [List.mem_cons, List.not_mem_nil, or_false] at hp
  subst hp
  exact h
theorem fs2 {f : Nat → Value} {a b : Nat} {u v : Value} (h : f a = u) (k : f b = v) : ∀ p ∈ ([(a, u), (b, v)] : List (Nat × Value)), f p.1 = p.2 := by
  intro p hp
  simp only [List.mem_cons, List.not_mem_nil, or_false] at hp
  rcases hp with rfl | rfl
  · exact h
  · exact k
def addCell (s t : St) (k j : Nat) : Value := if j < k then .int .u32 ((s.at j + t.at j) % 4294967296) else .int .u32 (s.at j)
theorem add_at (s t : St) (j : Nat) (hj : j < 8) : (s.add t).at j = (s.at j + t.at j) % 4294967296 := by
  match j, hj with
  | 0, _ | 1, _ | 2, _ | 3, _ | 4, _ | 5, _ | 6, _ | 7, _ => rfl
noncomputable def loop5Code : Code := ((Tryd.f30.body.bind (blockFull 8))).getD .skip
theorem loop5_is : loop5Code = .block 8 (.loop (.seq (.seq r30Code (.cond (.tmp 233) .skip (.exit 8))) (.seq (.block 9 r32Code) r31Code))) := by kernel_rfl
set_option maxHeartbeats 1000000 in
theorem loop5_any (s t : St) (S M : Nat) (hSM : S ≠ M) (f0 : Nat → Value) (h3 : f0 3 = .slice (some ⟨S, 0, none⟩) 8 8) (h23 : f0 23 = .slice (some ⟨M, 0, none⟩) 8 8) (h24 : f0 24 = .int .i64 0) (w : World)
    (hs : w.rowIs S 59 8 (stCell s)) (hm : w.rowIs M 59 8 (stCell t)) (K0 : Act → World → Prop)
    (hQ : ∀ (f' : Nat → Value) (w2 : World), (∀ j ∈ [2, 3, 4, 5], f' j = f0 j) → w2.rowIs S 59 8 (stCell (s.add t)) → Fr1 S w w2 → K0 (Fm 263 f') w2) :
    Code.wp Tryd.prog loop5Code (Only K0) (Fm 263 f0) w := by
  rw [loop5_is]
  refine wp_block (wp_loop (fun a' w' => ∃ (k : Nat) (f : Nat → Value), a' = Fm 263 f ∧ k ≤ 8 ∧ f 24 = .int .i64 (k : Int) ∧ (∀ j ∈ [2, 3, 4, 5, 23], f j = f0 j) ∧ w'.rowIs S 59 8 (addCell s t k) ∧ w'.rowIs M 59 8 (stCell t) ∧ Fr1 S w w')
    (fun a' _ => 8 - (intOf (a'.eval (.tmp 24))).toNat) ?_ ?_)
  · exact ⟨0, f0, rfl, by omega, h24, fun _ _ => rfl, hs.congr (fun i _ => by simp [addCell, stCell]), hm, Fr.refl _ _⟩
  · rintro _ wr ⟨k, f, rfl, hk, e24, hkeep, hrs, hrm, hF⟩
    refine wp_seq (wp_seq (wp_mono (r30 k hk f (by simp [e24]) wr _ ?_) Only.then))
    intro f1 e233 k1
    by_cases hlt : k < 8
    · have hd : decide ((k : Int) < 8) = true := by rw [decide_eq_true_eq]; omega
      rw [hd] at e233
      refine wp_cond_true ((Fm_eval _ _ _ (by decide)).trans e233) (wp_skip ?_)
      refine wp_seq (wp_block ?_)
      refine wp_mono (r32 k S M (s.at k) (t.at k) hlt f1 (by simp [k1, hkeep, e24, h3, h23]) wr _ (by rw [hrs.cell (i := k) hlt]; simp [addCell]) (by rw [hrm.cell (i := k) hlt]; rfl) (hrs.frozen k) ?_) Only.inBlock
      intro f2 v hv k2
      refine wp_mono (r31 k hlt f2 (by simp [k2, k1, e24]) _ _ ?_) Only.then
      intro f3 x24 k3
      refine ⟨⟨k + 1, f3, rfl, by omega, by rw [x24]; rfl, ?_, ?_, ?_, ?_⟩, ?_⟩
      · intro j hj
        rw [k3 j (by simp at hj ⊢; omega), k2 j (by simp at hj ⊢; omega), k1 j (by simp at hj ⊢; omega)]
        exact hkeep j hj
      · refine (hrs.drew.set k _).congr (fun i hi => ?_)
        rw [hv]
        unfold addCell
        by_cases h : i = k
        · subst h; rw [if_pos rfl, if_pos (by omega)]
        · rw [if_neg h]
          by_cases h' : i < k
          · rw [if_pos h', if_pos (by omega)]
          · rw [if_neg h', if_neg (by omega)]
      · exact hrm.drew.setOther (by simpa using (Ne.symm hSM)) _
      · exact Fr.setCell hF.drew (fun _ => rfl) _
      · rw [Fm_eval _ _ _ (by decide), Fm_eval _ _ _ (by decide), x24, e24]
        simp only [intOf]
        omega
    · have hd : decide ((k : Int) < 8) = false := by rw [decide_eq_false_iff_not]; omega
      rw [hd] at e233
      have hk8 : k = 8 := by omega
      subst hk8
      refine wp_cond_false ((Fm_eval _ _ _ (by decide)).trans e233) (wp_exit ?_)
      exact hQ f1 wr (fun j hj => (k1 j (by simp at hj ⊢; omega)).trans (hkeep j (by simp at hj ⊢; omega))) (hrs.congr (fun i hi => by unfold addCell stCell; rw [if_pos hi, add_at s t i hi])) hF

noncomputable def r14Code : Code := ((Tryd.f30.body.bind (oneRegion 14)).getD .skip)
set_option maxHeartbeats 4000000 in
set_option maxRecDepth 1000000 in
theorem r14 (P : List UInt8) (q k base : Nat) (pa : Option Addr) (n4 pc at_ : Nat) (v : Value) (hk : k < 16) (hat : at_ = 64 * q) (hat2 : at_ ≤ 4194304) (f : Nat → Value) (hf : ∀ p ∈ ([(4, (.slice pa n4 pc)), (5, (.int .i64 (at_ : Int))), (6, v), (7, (.int .i64 (k : Int)))] : List (Nat × Value)), f p.1 = p.2) (w : World) (K0 : Act → World → Prop) (hn4 : n4 = P.length) (hP : BytesIs w (.slice pa n4 pc) P) (hPl : 64 * q + 64 ≤ P.length) (hown : w.ownsRow base 59 1 v k ((sch (blk P q) k).map (.int .u32))) (hbase : base ≤ w.heap.size)
    (hQ : ∀ (f' : Nat → Value) (g : Nat) (cap : Nat) (w2 : World), w2.ownsRow base 59 1 (.slice (some ⟨g, 0, none⟩) (k + 1) cap) (k + 1) ((sch (blk P q) (k + 1)).map (.int .u32)) → Fr (fun b => base ≤ b) w w2 → f' 6 = .slice (some ⟨g, 0, none⟩) (k + 1) cap → (∀ j ∈ [2, 3, 4, 5, 7], f' j = f j) → K0 (Fm 263 f') w2) :
    Code.wp Tryd.prog r14Code (Only K0) (Fm 263 f) w := by
  have e : Fm 263 f = ⟨#[f 0, f 1, f 2, f 3, (.slice pa n4 pc), (.int .i64 (at_ : Int)), v, (.int .i64 (k : Int)), f 8, f 9, f 10, f 11, f 12, f 13, f 14, f 15, f 16, f 17, f 18, f 19, f 20, f 21, f 22, f 23, f 24, f 25, f 26, f 27, f 28, f 29, f 30, f 31, f 32, f 33, f 34, f 35, f 36, f 37, f 38, f 39, f 40, f 41, f 42, f 43, f 44, f 45, f 46, f 47, f 48, f 49, f 50, f 51, f 52, f 53, f 54, f 55, f 56, f 57, f 58, f 59, f 60, f 61, f 62, f 63, f 64, f 65, f 66, f 67, f 68, f 69, f 70, f 71, f 72, f 73, f 74, f 75, f 76, f 77, f 78, f 79, f 80, f 81, f 82, f 83, f 84, f 85, f 86, f 87, f 88, f 89, f 90, f 91, f 92, f 93, f 94, f 95, f 96, f 97, f 98, f 99, f 100, f 101, f 102, f 103, f 104, f 105, f 106, f 107, f 108, f 109, f 110, f 111, f 112, f 113, f 114, f 115, f 116, f 117, f 118, f 119, f 120, f 121, f 122, f 123, f 124, f 125, f 126, f 127, f 128, f 129, f 130, f 131, f 132, f 133, f 134, f 135, f 136, f 137, f 138, f 139, f 140, f 141, f 142, f 143, f 144, f 145, f 146, f 147, f 148, f 149, f 150, f 151, f 152, f 153, f 154, f 155, f 156, f 157, f 158, f 159, f 160, f 161, f 162, f 163, f 164, f 165, f 166, f 167, f 168, f 169, f 170, f 171, f 172, f 173, f 174, f 175, f 176, f 177, f 178, f 179, f 180, f 181, f 182, f 183, f 184, f 185, f 186, f 187, f 188, f 189, f 190, f 191, f 192, f 193, f 194, f 195, f 196, f 197, f 198, f 199, f 200, f 201, f 202, f 203, f 204, f 205, f 206, f 207, f 208, f 209, f 210, f 211, f 212, f 213, f 214, f 215, f 216, f 217, f 218, f 219, f 220, f 221, f 222, f 223, f 224, f 225, f 226, f 227, f 228, f 229, f 230, f 231, f 232, f 233, f 234, f 235, f 236, f 237, f 238, f 239, f 240, f 241, f 242, f 243, f 244, f 245, f 246, f 247, f 248, f 249, f 250, f 251, f 252, f 253, f 254, f 255, f 256, f 257, f 258, f 259, f 260, f 261, f 262], []⟩ := (congrArg (Fm 263) (ov_self f _ hf)).symm.trans rfl
  rw [e]
  have HQ : ∀ (L : List Value) (g : Nat) (cap : Nat) (w2 : World), L.length = 263 → w2.ownsRow base 59 1 (.slice (some ⟨g, 0, none⟩) (k + 1) cap) (k + 1) ((sch (blk P q) (k + 1)).map (.int .u32)) → Fr (fun b => base ≤ b) w w2 → L.getD 6 undef = .slice (some ⟨g, 0, none⟩) (k + 1) cap → (∀ j ∈ [2, 3, 4, 5, 7], L.getD j undef = f j) → K0 ⟨L.toArray, []⟩ w2 := fun L g cap w2 hl q0 q1 e6 hk => by
    rw [Fm_of L 263 hl]
    exact hQ _ g cap w2 q0 q1 e6 hk
  have HQ := Lib.hid HQ
  have HFF := Lib.hid hf
  clear hQ hf e
  conv => arg 2; whnf
  obtain ⟨a', c', hcB, hcut⟩ := hP.cut (P := Tryd.prog) 23 5 Tryd.underlying23 (by kernel_rfl) (at_ + 4 * k) (at_ + 4 * k + 4) (by omega) (by omega)
  rw [show at_ + 4 * k + 4 - (at_ + 4 * k) = 4 from by omega] at hcB
  have HCB := Lib.hid hcB
  have hcut2 : ∀ wx : World, (Instr.sliceAt 23 (.slice pa n4 pc) (some (.int .i64 ((at_ : Int) + 4 * (k : Int)))) (some (.int .i64 ((at_ : Int) + 4 * (k : Int) + 4))) none).run Tryd.prog wx = .ok (.slice a' 4 c') wx := fun wx => by
    have h := hcut wx
    rw [show at_ + 4 * k + 4 - (at_ + 4 * k) = 4 from by omega] at h
    exact h
  have HPL := Lib.hid hPl
  have HOWN := Lib.hid hown
  have HAT := Lib.hid hat
  clear hcut hcB hown hP hat hn4 hPl
  go_wp2_with fail
  refine (num_word _ P q k hk HPL.out w (by have h := HCB.out; rw [HAT.out] at h; exact h)).mono ?_
  rintro e w' ⟨rfl, rfl⟩
  clear HCB
  have hwl := W_lt (blk P q) k (by omega)
  generalize hWk : W (blk P q) k = WK at hwl
  have HWK := Lib.hid hWk
  clear hWk
  obtain ⟨e5, hi5, hz0, hz1, hz2⟩ := info_parts infoU32
  go_wp2_with (refine wpList_append_lies _ rfl (.tmp 58) (.tmp 72) 67 rfl base 59 e5 (.int .u32 0) 1 4 Tryd.underlying67 hi5 hz0 hz1 hz2 rfl (by decide) _ k _ rfl (HOWN.out.alloc _) ⟨w.heap.size, 0, none⟩ 1 1 _ rfl rfl (one_cell w _ _) (by intro u hu; simp at hu; subst hu; rfl) (by omega) (by unfold maxLen; omega) (by omega) (by simp; omega) (w.heap.size + 1) (by simp) ?_; intro g cap w2 hown2 hgr2 hor hlt2)
  have HX : Hid (w2.ownsRow base 59 1 (.slice (some ⟨g, 0, none⟩) (k + 1) cap) (k + 1) ((sch (blk P q) (k + 1)).map (.int .u32))) := Lib.hid (by
    rw [words_next _ _ (by omega), HWK.out]; exact hown2)
  have HFX2 : Hid (Fr (fun b => base ≤ b) w w2) := Lib.hid (Fr.grown (Fr.alloc (Fr.refl _ _) _) hgr2 (fun q' hq' e => (HOWN.out.lt q' e).1))
  clear hown2 hgr2 hor
  go_wp2_with fail
  refine HQ.out _ _ _ _ rfl HX.out HFX2.out rfl (fun j hj => ?_)
  simp only [List.mem_cons, List.not_mem_nil, or_false] at hj
  rcases hj with rfl | rfl | rfl | rfl | rfl
  · rfl
  · rfl
  · exact (HFF.out (4, (.slice pa n4 pc)) (by simp)).symm
  · exact (HFF.out (5, (.int .i64 (at_ : Int))) (by simp)).symm
  · exact (HFF.out (7, (.int .i64 (k : Int))) (by simp)).symm
noncomputable def loop3Code : Code := ((Tryd.f30.body.bind (blockFull 4))).getD .skip
theorem loop3_is : loop3Code = .block 4 (.loop (.seq (.seq r12Code (.cond (.tmp 55) .skip (.exit 4))) (.seq (.block 5 r14Code) r13Code))) := by kernel_rfl
set_option maxHeartbeats 1000000 in
theorem loop3_any (P : List UInt8) (q : Nat) (pa : Option Addr) (n4 pc at_ : Nat) (hat : at_ = 64 * q) (hat2 : at_ ≤ 4194304) (f0 : Nat → Value) (h4 : f0 4 = .slice pa n4 pc) (h5 : f0 5 = .int .i64 (at_ : Int)) (h6 : f0 6 = .slice none 0 0) (h7 : f0 7 = .int .i64 0) (w : World)
    (hn4 : n4 = P.length) (hP : BytesIs w (.slice pa n4 pc) P) (hPl : 64 * q + 64 ≤ P.length) (K0 : Act → World → Prop)
    (hQ : ∀ (f' : Nat → Value) (w2 : World) (g cap : Nat), f' 6 = .slice (some ⟨g, 0, none⟩) 16 cap → (∀ j ∈ [2, 3, 4, 5], f' j = f0 j) → w2.ownsRow w.heap.size 59 1 (.slice (some ⟨g, 0, none⟩) 16 cap) 16 ((sch (blk P q) 16).map (.int .u32)) → Fr0 w w2 → K0 (Fm 263 f') w2) :
    Code.wp Tryd.prog loop3Code (Only K0) (Fm 263 f0) w := by
  rw [loop3_is]
  refine wp_block (wp_loop (fun a' w' => ∃ (k : Nat) (f : Nat → Value) (v : Value), a' = Fm 263 f ∧ k ≤ 16 ∧ f 7 = .int .i64 (k : Int) ∧ f 6 = v ∧ (∀ j ∈ [2, 3, 4, 5], f j = f0 j) ∧ w'.ownsRow w.heap.size 59 1 v k ((sch (blk P q) k).map (.int .u32)) ∧ Fr0 w w')
    (fun a' _ => 16 - (intOf (a'.eval (.tmp 7))).toNat) ?_ ?_)
  · exact ⟨0, f0, _, rfl, by omega, h7, h6, fun _ _ => rfl, ⟨rfl, .inl ⟨rfl, rfl⟩⟩, Fr.refl _ _⟩
  · rintro _ wr ⟨k, f, v, rfl, hk, e7, e6, hkeep, hown, hF⟩
    refine wp_seq (wp_seq (wp_mono (r12 k hk f (by simp [e7]) wr _ ?_) Only.then))
    intro f1 e55 k1
    by_cases hlt : k < 16
    · have hd : decide ((k : Int) < 16) = true := by rw [decide_eq_true_eq]; omega
      rw [hd] at e55
      refine wp_cond_true ((Fm_eval _ _ _ (by decide)).trans e55) (wp_skip ?_)
      refine wp_seq (wp_block ?_)
      refine wp_mono (r14 P q k w.heap.size pa n4 pc at_ v hlt hat hat2 f1 (by simp [k1, hkeep, e6, e7, h4, h5]) wr _ hn4 (hP.fr0 hF) hPl hown hF.size ?_) Only.inBlock
      intro f2 g cap w2 hown2 hF2 x6 k2
      refine wp_mono (r13 k hlt f2 (by simp [k2, k1, e7]) w2 _ ?_) Only.then
      intro f3 x7 k3
      refine ⟨⟨k + 1, f3, .slice (some ⟨g, 0, none⟩) (k + 1) cap, rfl, by omega, by rw [x7]; rfl, by rw [k3 6 (by simp), x6], ?_, hown2, hF.trans hF2 (fun i hi h => by omega)⟩, ?_⟩
      · intro j hj
        rw [k3 j (by simp at hj ⊢; omega), k2 j (by simp at hj ⊢; omega), k1 j (by simp at hj ⊢; omega)]
        exact hkeep j hj
      · rw [Fm_eval _ _ _ (by decide), Fm_eval _ _ _ (by decide), x7, e7]
        simp only [intOf]
        omega
    · have hd : decide ((k : Int) < 16) = false := by rw [decide_eq_false_iff_not]; omega
      rw [hd] at e55
      have hk16 : k = 16 := by omega
      subst hk16
      refine wp_cond_false ((Fm_eval _ _ _ (by decide)).trans e55) (wp_exit ?_)
      obtain ⟨g, cap, hv, _, _⟩ := hown.form (by decide)
      subst hv
      exact hQ f1 wr g cap (by rw [k1 6 (by simp), e6]) (fun j hj => (k1 j (by simp at hj ⊢; omega)).trans (hkeep j hj)) hown hF
end Go.Proofs.YteafnknghnhlgaaDoor.Sha
namespace Go.Proofs.YteafnknghnhlgaaDoor.Sha
open Go.RowKit Base

noncomputable def outerCode : Code := ((Tryd.f30.body.bind (blockFull 2))).getD .skip
theorem outer_is : outerCode = .block 2 (.loop (.seq (.seq r8Code (.cond (.tmp 51) .skip (.exit 2))) (.seq (.block 3 (.seq r10Code (.seq (.seq r11Code loop3Code) (.seq r15Code (.seq (.seq r16Code loop4Code) (.seq r28Code (.seq r29Code loop5Code))))))) r9Code))) := by kernel_rfl
theorem more_row (w : World) (t : St) : (w.alloc (.cells #[.int .u32 t.a, .int .u32 t.b, .int .u32 t.c, .int .u32 t.d, .int .u32 t.e, .int .u32 t.f, .int .u32 t.g, .int .u32 t.h] 59)).rowIs w.heap.size 59 8 (stCell t) :=
  rowIs_new w _ _ 8 _ rfl (fun i hi => by
    match i, hi with
    | 0, _ | 1, _ | 2, _ | 3, _ | 4, _ | 5, _ | 6, _ | 7, _ => rfl)
set_option maxHeartbeats 2000000 in
theorem outer_any (P : List UInt8) (Q S : Nat) (pa : Option Addr) (n4 pc : Nat) (hPl : P.length = 64 * Q) (hn4 : n4 = P.length) (hQ3 : Q ≤ 32768) (f0 : Nat → Value) (h3 : f0 3 = .slice (some ⟨S, 0, none⟩) 8 8) (h4 : f0 4 = .slice pa n4 pc) (h5 : f0 5 = .int .i64 0) (w : World)
    (hP : BytesIs w (.slice pa n4 pc) P) (hPS : ∀ a : Addr, pa = some a → a.block ≠ S) (hs : w.rowIs S 59 8 (stCell init)) (K0 : Act → World → Prop)
    (hQ : ∀ (f' : Nat → Value) (w2 : World), (∀ j ∈ [2, 3, 4], f' j = f0 j) → w2.rowIs S 59 8 (stCell (st P Q)) → Fr1 S w w2 → K0 (Fm 263 f') w2) :
    Code.wp Tryd.prog outerCode (Only K0) (Fm 263 f0) w := by
  rw [outer_is]
  refine wp_block (wp_loop (fun a' w' => ∃ (q : Nat) (f : Nat → Value), a' = Fm 263 f ∧ q ≤ Q ∧ f 5 = .int .i64 ((64 * q : Nat) : Int) ∧ (∀ j ∈ [2, 3, 4], f j = f0 j) ∧ w'.rowIs S 59 8 (stCell (st P q)) ∧ Fr1 S w w')
    (fun a' _ => 64 * Q - (intOf (a'.eval (.tmp 5))).toNat) ?_ ?_)
  · exact ⟨0, f0, rfl, by omega, h5, fun _ _ => rfl, hs, Fr.refl _ _⟩
  · rintro _ wr ⟨q, f, rfl, hq, e5, hkeep, hrs, hF⟩
    refine wp_seq (wp_seq (wp_mono (r8 pa n4 pc (64 * q) (by omega) (by omega) f (fs2 ((hkeep 4 (by simp)).trans h4) (e5)) wr _ ?_) Only.then))
    intro f1 e51 k1
    by_cases hlt : q < Q
    · have hd : decide (64 * q < n4) = true := by rw [decide_eq_true_eq]; omega
      rw [hd] at e51
      refine wp_cond_true ((Fm_eval _ _ _ (by decide)).trans e51) (wp_skip ?_)
      refine wp_seq (wp_block ?_)
      have hPr : BytesIs wr (.slice pa n4 pc) P := hP.fr hF (fun a n c e => by cases e; exact hPS a rfl)
      refine wp_seq (wp_mono (r10 f1 (by simp) wr _ ?_) Only.then)
      intro f2 e6 k2
      refine wp_seq (wp_seq (wp_mono (r11 f2 (by simp) wr _ ?_) Only.then))
      intro f3 e7 k3
      have g3 : ∀ j ∈ [2, 3, 4], f3 j = f0 j := fun j hj => by
        rw [k3 j (by simp at hj ⊢; omega), k2 j (by simp at hj ⊢; omega), k1 j (by simp at hj ⊢; omega)]; exact hkeep j hj
      have g5 : f3 5 = .int .i64 ((64 * q : Nat) : Int) := by rw [k3 5 (by simp), k2 5 (by simp), k1 5 (by simp)]; exact e5
      refine wp_mono (loop3_any P q pa n4 pc (64 * q) rfl (by omega) f3 ((g3 4 (by simp)).trans h4) g5 (by rw [k3 6 (by simp), e6]) e7 wr hn4 hPr (by omega) _ ?_) Only.then
      intro f4 w4 g cap x6 k4 hown4 hF4
      have hr4 := hF4.row hrs (fun f => f)
      have hc := fun i (hi : i < 8) => hr4.cell (i := i) hi
      refine wp_seq (wp_mono (r15 S (st P q).a (st P q).b (st P q).c (st P q).d (st P q).e (st P q).f (st P q).g (st P q).h f4 (fs1 (((k4 3 (by simp)).trans (g3 3 (by simp))).trans h3)) w4 _ (hc 0 (by omega)) (hc 1 (by omega)) (hc 2 (by omega)) (hc 3 (by omega)) (hc 4 (by omega)) (hc 5 (by omega)) (hc 6 (by omega)) (hc 7 (by omega)) ?_) Only.then)
      intro f5 m y8 y9 y10 y11 y12 y13 y14 y15 k5
      refine wp_seq (wp_seq (wp_mono (r16 f5 (by simp) _ _ ?_) Only.then))
      intro f6 y16 k6
      have hown6 : (w4.drewN m).ownsRow wr.heap.size 59 1 (.slice (some ⟨g, 0, none⟩) 16 cap) 16 ((sch (blk P q) 16).map (.int .u32)) := hown4
      refine wp_mono (loop4_any (blk P q) (st P q) (st_ok P q) g cap wr.heap.size f6 (by rw [k6 6 (by simp), k5 6 (by simp), x6]) (by rw [k6 8 (by simp), y8]) (by rw [k6 9 (by simp), y9]) (by rw [k6 10 (by simp), y10]) (by rw [k6 11 (by simp), y11]) (by rw [k6 12 (by simp), y12]) (by rw [k6 13 (by simp), y13]) (by rw [k6 14 (by simp), y14]) (by rw [k6 15 (by simp), y15]) y16 _ hown6 hF4.size _ ?_) Only.then
      intro f7 w7 g' cap' x67 z8 z9 z10 z11 z12 z13 z14 z15 k7 hown7 hF7
      have hlr := hrs.lt
      have hr7 : w7.rowIs S 59 8 (stCell (st P q)) := hF7.row (rowIs_drewN hr4 m) (by omega)
      refine wp_seq (wp_mono (r28 (rds K (W (blk P q)) 64 (st P q)).a (rds K (W (blk P q)) 64 (st P q)).b (rds K (W (blk P q)) 64 (st P q)).c (rds K (W (blk P q)) 64 (st P q)).d (rds K (W (blk P q)) 64 (st P q)).e (rds K (W (blk P q)) 64 (st P q)).f (rds K (W (blk P q)) 64 (st P q)).g (rds K (W (blk P q)) 64 (st P q)).h f7 (by simp [z8, z9, z10, z11, z12, z13, z14, z15]) w7 _ ?_) Only.then)
      intro f8 y23 k8
      refine wp_seq (wp_mono (r29 f8 (by simp) _ _ ?_) Only.then)
      intro f9 y24 k9
      have hl7 := hr7.lt
      have g9 : ∀ j ∈ [2, 3, 4], f9 j = f0 j := fun j hj => by
        rw [k9 j (by simp at hj ⊢; omega), k8 j (by simp at hj ⊢; omega), k7 j (by simp at hj ⊢; omega), k6 j (by simp at hj ⊢; omega), k5 j (by simp at hj ⊢; omega), k4 j (by simp at hj ⊢; omega)]; exact g3 j hj
      have g95 : f9 5 = .int .i64 ((64 * q : Nat) : Int) := by
        rw [k9 5 (by simp), k8 5 (by simp), k7 5 (by simp), k6 5 (by simp), k5 5 (by simp), k4 5 (by simp)]; exact g5
      refine wp_mono (loop5_any (st P q) (rds K (W (blk P q)) 64 (st P q)) S w7.heap.size (by omega) f9 ((g9 3 (by simp)).trans h3) (by rw [k9 23 (by simp), y23]) y24 _ (hr7.alloc _) (more_row w7 _) _ ?_) Only.inBlock
      intro f10 w10 k10 hr10 hF10
      refine wp_mono (r9 (64 * q) (by omega) f10 (fs1 ((k10 5 (by simp)).trans g95)) w10 _ ?_) Only.then
      intro f11 x5 k11
      refine ⟨⟨q + 1, f11, rfl, by omega, by rw [x5]; congr 1, ?_, hr10, ?_⟩, ?_⟩
      · intro j hj
        rw [k11 j hj, k10 j (by simp at hj ⊢; omega)]; exact g9 j hj
      · have hF47 : Fr1 S wr w7 := (Fr.mono hF4 (fun _ _ h => h.elim)).trans ((Fr.drewN (Fr.refl _ _) m).trans' hF7) (fun i hi h => by omega)
        exact hF.trans' ((hF47.alloc _).trans' hF10)
      · rw [Fm_eval _ _ _ (by decide), Fm_eval _ _ _ (by decide), x5, e5]
        simp only [intOf]
        omega
    · have hd : decide (64 * q < n4) = false := by rw [decide_eq_false_iff_not]; omega
      rw [hd] at e51
      have hqQ : q = Q := by omega
      subst hqQ
      refine wp_cond_false ((Fm_eval _ _ _ (by decide)).trans e51) (wp_exit ?_)
      exact hQ f1 wr (fun j hj => (k1 j (by simp at hj ⊢; omega)).trans (hkeep j hj)) hrs hF
end Go.Proofs.YteafnknghnhlgaaDoor.Sha
namespace Go.Proofs.YteafnknghnhlgaaDoor.Sha
open Go.RowKit Base

def sBytes (s : St) : Nat → List UInt8
  | 0 => []
  | k + 1 => sBytes s k ++ beb (s.at k).toNat 4
theorem beb4_length (v : Nat) : (beb v 4).length = 4 := by simp [beb]
theorem sBytes_length (s : St) : ∀ k, (sBytes s k).length = 4 * k
  | 0 => rfl
  | k + 1 => by rw [sBytes, List.length_append, sBytes_length s k, beb4_length]; omega
theorem sBytes_get (s : St) : ∀ k i, i < 4 * k → (sBytes s k)[i]? = some (UInt8.ofNat ((s.at (i / 4)).toNat / 2 ^ (8 * (3 - i % 4))))
  | 0, i, h => by omega
  | k + 1, i, h => by
    rw [sBytes]
    by_cases h' : i < 4 * k
    · rw [List.getElem?_append_left (by rw [sBytes_length]; exact h')]
      exact sBytes_get s k i h'
    · rw [List.getElem?_append_right (by rw [sBytes_length]; omega), sBytes_length]
      have e1 : i / 4 = k := by omega
      have e2 : i - 4 * k = i % 4 := by omega
      rw [e1, e2]
      have : i % 4 < 4 := Nat.mod_lt _ (by decide)
      simp [beb, this]
theorem sBytes_digest (m : List UInt8) : sBytes (fin m) 8 = digest m := by
  apply List.ext_getElem?
  intro i
  by_cases hi : i < 32
  · rw [sBytes_get _ 8 i (by omega)]
    have b := st_ok (pad m) ((pad m).length / 64) (i / 4)
    simp only [digest, List.getElem?_map, List.getElem?_range hi, Option.map_some]
    congr 2
    have e : 8 * (3 - i % 4) = 24 - 8 * (i % 4) := by omega
    rw [e]
    obtain ⟨n, hn⟩ := Int.eq_ofNat_of_zero_le (show 0 ≤ (fin m).at (i / 4) from b.1)
    rw [hn]
    simp only [Int.toNat_natCast]
    rw [show ((n : Int) / 2 ^ (24 - 8 * (i % 4))).toNat = n / 2 ^ (24 - 8 * (i % 4)) from by
      have : ((n : Int) / 2 ^ (24 - 8 * (i % 4))) = ((n / 2 ^ (24 - 8 * (i % 4)) : Nat) : Int) := by push_cast; rfl
      rw [this, Int.toNat_natCast]]
  · rw [List.getElem?_eq_none (by rw [sBytes_length]; omega), List.getElem?_eq_none (by simp [digest]; omega)]
noncomputable def r33Code : Code := ((Tryd.f30.body.bind (oneRegion 33)).getD .skip)
set_option maxHeartbeats 4000000 in
set_option maxRecDepth 1000000 in
theorem r33  (f : Nat → Value) (hf : ∀ p ∈ ([] : List (Nat × Value)), f p.1 = p.2) (w : World) (K0 : Act → World → Prop) 
    (hQ : ∀ (f' : Nat → Value) ,  f' 25 = .slice none 0 0 → (∀ j ∈ [2, 3], f' j = f j) → K0 (Fm 263 f') w) :
    Code.wp Tryd.prog r33Code (Only K0) (Fm 263 f) w := by
  have e : Fm 263 f = ⟨#[f 0, f 1, f 2, f 3, f 4, f 5, f 6, f 7, f 8, f 9, f 10, f 11, f 12, f 13, f 14, f 15, f 16, f 17, f 18, f 19, f 20, f 21, f 22, f 23, f 24, f 25, f 26, f 27, f 28, f 29, f 30, f 31, f 32, f 33, f 34, f 35, f 36, f 37, f 38, f 39, f 40, f 41, f 42, f 43, f 44, f 45, f 46, f 47, f 48, f 49, f 50, f 51, f 52, f 53, f 54, f 55, f 56, f 57, f 58, f 59, f 60, f 61, f 62, f 63, f 64, f 65, f 66, f 67, f 68, f 69, f 70, f 71, f 72, f 73, f 74, f 75, f 76, f 77, f 78, f 79, f 80, f 81, f 82, f 83, f 84, f 85, f 86, f 87, f 88, f 89, f 90, f 91, f 92, f 93, f 94, f 95, f 96, f 97, f 98, f 99, f 100, f 101, f 102, f 103, f 104, f 105, f 106, f 107, f 108, f 109, f 110, f 111, f 112, f 113, f 114, f 115, f 116, f 117, f 118, f 119, f 120, f 121, f 122, f 123, f 124, f 125, f 126, f 127, f 128, f 129, f 130, f 131, f 132, f 133, f 134, f 135, f 136, f 137, f 138, f 139, f 140, f 141, f 142, f 143, f 144, f 145, f 146, f 147, f 148, f 149, f 150, f 151, f 152, f 153, f 154, f 155, f 156, f 157, f 158, f 159, f 160, f 161, f 162, f 163, f 164, f 165, f 166, f 167, f 168, f 169, f 170, f 171, f 172, f 173, f 174, f 175, f 176, f 177, f 178, f 179, f 180, f 181, f 182, f 183, f 184, f 185, f 186, f 187, f 188, f 189, f 190, f 191, f 192, f 193, f 194, f 195, f 196, f 197, f 198, f 199, f 200, f 201, f 202, f 203, f 204, f 205, f 206, f 207, f 208, f 209, f 210, f 211, f 212, f 213, f 214, f 215, f 216, f 217, f 218, f 219, f 220, f 221, f 222, f 223, f 224, f 225, f 226, f 227, f 228, f 229, f 230, f 231, f 232, f 233, f 234, f 235, f 236, f 237, f 238, f 239, f 240, f 241, f 242, f 243, f 244, f 245, f 246, f 247, f 248, f 249, f 250, f 251, f 252, f 253, f 254, f 255, f 256, f 257, f 258, f 259, f 260, f 261, f 262], []⟩ := (congrArg (Fm 263) (ov_self f _ hf)).symm.trans rfl
  rw [e]
  have HQ : ∀ (L : List Value) , L.length = 263 →  L.getD 25 undef = .slice none 0 0 → (∀ j ∈ [2, 3], L.getD j undef = f j) → K0 ⟨L.toArray, []⟩ w := fun L  hl  e25 hk => by
    rw [Fm_of L 263 hl]
    exact hQ _   e25 hk
  have HQ := Lib.hid HQ
  have HFF := Lib.hid hf
  clear hQ hf e
  conv => arg 2; whnf
  go_wp2
  refine HQ.out _  rfl  rfl (fun j hj => ?_)
  simp only [List.mem_cons, List.not_mem_nil, or_false] at hj
  rcases hj with rfl | rfl
  · rfl
  · rfl
noncomputable def r34Code : Code := ((Tryd.f30.body.bind (oneRegion 34)).getD .skip)
set_option maxHeartbeats 4000000 in
set_option maxRecDepth 1000000 in
theorem r34  (f : Nat → Value) (hf : ∀ p ∈ ([] : List (Nat × Value)), f p.1 = p.2) (w : World) (K0 : Act → World → Prop) 
    (hQ : ∀ (f' : Nat → Value) ,  f' 26 = .int .i64 0 → (∀ j ∈ [2, 3, 25], f' j = f j) → K0 (Fm 263 f') w) :
    Code.wp Tryd.prog r34Code (Only K0) (Fm 263 f) w := by
  have e : Fm 263 f = ⟨#[f 0, f 1, f 2, f 3, f 4, f 5, f 6, f 7, f 8, f 9, f 10, f 11, f 12, f 13, f 14, f 15, f 16, f 17, f 18, f 19, f 20, f 21, f 22, f 23, f 24, f 25, f 26, f 27, f 28, f 29, f 30, f 31, f 32, f 33, f 34, f 35, f 36, f 37, f 38, f 39, f 40, f 41, f 42, f 43, f 44, f 45, f 46, f 47, f 48, f 49, f 50, f 51, f 52, f 53, f 54, f 55, f 56, f 57, f 58, f 59, f 60, f 61, f 62, f 63, f 64, f 65, f 66, f 67, f 68, f 69, f 70, f 71, f 72, f 73, f 74, f 75, f 76, f 77, f 78, f 79, f 80, f 81, f 82, f 83, f 84, f 85, f 86, f 87, f 88, f 89, f 90, f 91, f 92, f 93, f 94, f 95, f 96, f 97, f 98, f 99, f 100, f 101, f 102, f 103, f 104, f 105, f 106, f 107, f 108, f 109, f 110, f 111, f 112, f 113, f 114, f 115, f 116, f 117, f 118, f 119, f 120, f 121, f 122, f 123, f 124, f 125, f 126, f 127, f 128, f 129, f 130, f 131, f 132, f 133, f 134, f 135, f 136, f 137, f 138, f 139, f 140, f 141, f 142, f 143, f 144, f 145, f 146, f 147, f 148, f 149, f 150, f 151, f 152, f 153, f 154, f 155, f 156, f 157, f 158, f 159, f 160, f 161, f 162, f 163, f 164, f 165, f 166, f 167, f 168, f 169, f 170, f 171, f 172, f 173, f 174, f 175, f 176, f 177, f 178, f 179, f 180, f 181, f 182, f 183, f 184, f 185, f 186, f 187, f 188, f 189, f 190, f 191, f 192, f 193, f 194, f 195, f 196, f 197, f 198, f 199, f 200, f 201, f 202, f 203, f 204, f 205, f 206, f 207, f 208, f 209, f 210, f 211, f 212, f 213, f 214, f 215, f 216, f 217, f 218, f 219, f 220, f 221, f 222, f 223, f 224, f 225, f 226, f 227, f 228, f 229, f 230, f 231, f 232, f 233, f 234, f 235, f 236, f 237, f 238, f 239, f 240, f 241, f 242, f 243, f 244, f 245, f 246, f 247, f 248, f 249, f 250, f 251, f 252, f 253, f 254, f 255, f 256, f 257, f 258, f 259, f 260, f 261, f 262], []⟩ := (congrArg (Fm 263) (ov_self f _ hf)).symm.trans rfl
  rw [e]
  have HQ : ∀ (L : List Value) , L.length = 263 →  L.getD 26 undef = .int .i64 0 → (∀ j ∈ [2, 3, 25], L.getD j undef = f j) → K0 ⟨L.toArray, []⟩ w := fun L  hl  e26 hk => by
    rw [Fm_of L 263 hl]
    exact hQ _   e26 hk
  have HQ := Lib.hid HQ
  have HFF := Lib.hid hf
  clear hQ hf e
  conv => arg 2; whnf
  go_wp2
  refine HQ.out _  rfl  rfl (fun j hj => ?_)
  simp only [List.mem_cons, List.not_mem_nil, or_false] at hj
  rcases hj with rfl | rfl | rfl
  · rfl
  · rfl
  · rfl
noncomputable def r35Code : Code := ((Tryd.f30.body.bind (oneRegion 35)).getD .skip)
set_option maxHeartbeats 4000000 in
set_option maxRecDepth 1000000 in
theorem r35 (k : Nat) (hk : k ≤ 8) (f : Nat → Value) (hf : ∀ p ∈ ([(26, (.int .i64 (k : Int)))] : List (Nat × Value)), f p.1 = p.2) (w : World) (K0 : Act → World → Prop) 
    (hQ : ∀ (f' : Nat → Value) ,  f' 249 = .bool (decide ((k : Int) < 8)) → (∀ j ∈ [2, 3, 25, 26], f' j = f j) → K0 (Fm 263 f') w) :
    Code.wp Tryd.prog r35Code (Only K0) (Fm 263 f) w := by
  have e : Fm 263 f = ⟨#[f 0, f 1, f 2, f 3, f 4, f 5, f 6, f 7, f 8, f 9, f 10, f 11, f 12, f 13, f 14, f 15, f 16, f 17, f 18, f 19, f 20, f 21, f 22, f 23, f 24, f 25, (.int .i64 (k : Int)), f 27, f 28, f 29, f 30, f 31, f 32, f 33, f 34, f 35, f 36, f 37, f 38, f 39, f 40, f 41, f 42, f 43, f 44, f 45, f 46, f 47, f 48, f 49, f 50, f 51, f 52, f 53, f 54, f 55, f 56, f 57, f 58, f 59, f 60, f 61, f 62, f 63, f 64, f 65, f 66, f 67, f 68, f 69, f 70, f 71, f 72, f 73, f 74, f 75, f 76, f 77, f 78, f 79, f 80, f 81, f 82, f 83, f 84, f 85, f 86, f 87, f 88, f 89, f 90, f 91, f 92, f 93, f 94, f 95, f 96, f 97, f 98, f 99, f 100, f 101, f 102, f 103, f 104, f 105, f 106, f 107, f 108, f 109, f 110, f 111, f 112, f 113, f 114, f 115, f 116, f 117, f 118, f 119, f 120, f 121, f 122, f 123, f 124, f 125, f 126, f 127, f 128, f 129, f 130, f 131, f 132, f 133, f 134, f 135, f 136, f 137, f 138, f 139, f 140, f 141, f 142, f 143, f 144, f 145, f 146, f 147, f 148, f 149, f 150, f 151, f 152, f 153, f 154, f 155, f 156, f 157, f 158, f 159, f 160, f 161, f 162, f 163, f 164, f 165, f 166, f 167, f 168, f 169, f 170, f 171, f 172, f 173, f 174, f 175, f 176, f 177, f 178, f 179, f 180, f 181, f 182, f 183, f 184, f 185, f 186, f 187, f 188, f 189, f 190, f 191, f 192, f 193, f 194, f 195, f 196, f 197, f 198, f 199, f 200, f 201, f 202, f 203, f 204, f 205, f 206, f 207, f 208, f 209, f 210, f 211, f 212, f 213, f 214, f 215, f 216, f 217, f 218, f 219, f 220, f 221, f 222, f 223, f 224, f 225, f 226, f 227, f 228, f 229, f 230, f 231, f 232, f 233, f 234, f 235, f 236, f 237, f 238, f 239, f 240, f 241, f 242, f 243, f 244, f 245, f 246, f 247, f 248, f 249, f 250, f 251, f 252, f 253, f 254, f 255, f 256, f 257, f 258, f 259, f 260, f 261, f 262], []⟩ := (congrArg (Fm 263) (ov_self f _ hf)).symm.trans rfl
  rw [e]
  have HQ : ∀ (L : List Value) , L.length = 263 →  L.getD 249 undef = .bool (decide ((k : Int) < 8)) → (∀ j ∈ [2, 3, 25, 26], L.getD j undef = f j) → K0 ⟨L.toArray, []⟩ w := fun L  hl  e249 hk => by
    rw [Fm_of L 263 hl]
    exact hQ _   e249 hk
  have HQ := Lib.hid HQ
  have HFF := Lib.hid hf
  clear hQ hf e
  conv => arg 2; whnf
  go_wp2
  refine HQ.out _  rfl  rfl (fun j hj => ?_)
  simp only [List.mem_cons, List.not_mem_nil, or_false] at hj
  rcases hj with rfl | rfl | rfl | rfl
  · rfl
  · rfl
  · rfl
  · exact (HFF.out (26, (.int .i64 (k : Int))) (by simp)).symm
noncomputable def r36Code : Code := ((Tryd.f30.body.bind (oneRegion 36)).getD .skip)
set_option maxHeartbeats 4000000 in
set_option maxRecDepth 1000000 in
theorem r36 (k : Nat) (hk : k < 8) (f : Nat → Value) (hf : ∀ p ∈ ([(26, (.int .i64 (k : Int)))] : List (Nat × Value)), f p.1 = p.2) (w : World) (K0 : Act → World → Prop) 
    (hQ : ∀ (f' : Nat → Value) ,  f' 26 = .int .i64 ((k : Int) + 1) → (∀ j ∈ [2, 3, 25], f' j = f j) → K0 (Fm 263 f') w) :
    Code.wp Tryd.prog r36Code (Only K0) (Fm 263 f) w := by
  have e : Fm 263 f = ⟨#[f 0, f 1, f 2, f 3, f 4, f 5, f 6, f 7, f 8, f 9, f 10, f 11, f 12, f 13, f 14, f 15, f 16, f 17, f 18, f 19, f 20, f 21, f 22, f 23, f 24, f 25, (.int .i64 (k : Int)), f 27, f 28, f 29, f 30, f 31, f 32, f 33, f 34, f 35, f 36, f 37, f 38, f 39, f 40, f 41, f 42, f 43, f 44, f 45, f 46, f 47, f 48, f 49, f 50, f 51, f 52, f 53, f 54, f 55, f 56, f 57, f 58, f 59, f 60, f 61, f 62, f 63, f 64, f 65, f 66, f 67, f 68, f 69, f 70, f 71, f 72, f 73, f 74, f 75, f 76, f 77, f 78, f 79, f 80, f 81, f 82, f 83, f 84, f 85, f 86, f 87, f 88, f 89, f 90, f 91, f 92, f 93, f 94, f 95, f 96, f 97, f 98, f 99, f 100, f 101, f 102, f 103, f 104, f 105, f 106, f 107, f 108, f 109, f 110, f 111, f 112, f 113, f 114, f 115, f 116, f 117, f 118, f 119, f 120, f 121, f 122, f 123, f 124, f 125, f 126, f 127, f 128, f 129, f 130, f 131, f 132, f 133, f 134, f 135, f 136, f 137, f 138, f 139, f 140, f 141, f 142, f 143, f 144, f 145, f 146, f 147, f 148, f 149, f 150, f 151, f 152, f 153, f 154, f 155, f 156, f 157, f 158, f 159, f 160, f 161, f 162, f 163, f 164, f 165, f 166, f 167, f 168, f 169, f 170, f 171, f 172, f 173, f 174, f 175, f 176, f 177, f 178, f 179, f 180, f 181, f 182, f 183, f 184, f 185, f 186, f 187, f 188, f 189, f 190, f 191, f 192, f 193, f 194, f 195, f 196, f 197, f 198, f 199, f 200, f 201, f 202, f 203, f 204, f 205, f 206, f 207, f 208, f 209, f 210, f 211, f 212, f 213, f 214, f 215, f 216, f 217, f 218, f 219, f 220, f 221, f 222, f 223, f 224, f 225, f 226, f 227, f 228, f 229, f 230, f 231, f 232, f 233, f 234, f 235, f 236, f 237, f 238, f 239, f 240, f 241, f 242, f 243, f 244, f 245, f 246, f 247, f 248, f 249, f 250, f 251, f 252, f 253, f 254, f 255, f 256, f 257, f 258, f 259, f 260, f 261, f 262], []⟩ := (congrArg (Fm 263) (ov_self f _ hf)).symm.trans rfl
  rw [e]
  have HQ : ∀ (L : List Value) , L.length = 263 →  L.getD 26 undef = .int .i64 ((k : Int) + 1) → (∀ j ∈ [2, 3, 25], L.getD j undef = f j) → K0 ⟨L.toArray, []⟩ w := fun L  hl  e26 hk => by
    rw [Fm_of L 263 hl]
    exact hQ _   e26 hk
  have HQ := Lib.hid HQ
  have HFF := Lib.hid hf
  clear hQ hf e
  conv => arg 2; whnf
  go_wp2
  refine HQ.out _  rfl  rfl (fun j hj => ?_)
  simp only [List.mem_cons, List.not_mem_nil, or_false] at hj
  rcases hj with rfl | rfl | rfl
  · rfl
  · rfl
  · rfl
noncomputable def r37Code : Code := ((Tryd.f30.body.bind (oneRegion 37)).getD .skip)
set_option maxHeartbeats 4000000 in
set_option maxRecDepth 1000000 in
theorem r37 (k S : Nat) (x : Int) (v : Value) (l : List UInt8) (hk : k < 8) (bx : 0 ≤ x ∧ x < 4294967296) (hl : l.length ≤ 1000) (f : Nat → Value) (hf : ∀ p ∈ ([(3, (.slice (some ⟨S, 0, none⟩) 8 8)), (25, v), (26, (.int .i64 (k : Int)))] : List (Nat × Value)), f p.1 = p.2) (w : World) (K0 : Act → World → Prop) (cS : w.cell? ⟨S, k, none⟩ = some (.int .u32 x)) (hB : BytesIs w v l)
    (hQ : ∀ (f' : Nat → Value) (u : Value) (w2 : World), BytesIs w2 u (l ++ beb x.toNat 4) → Fr0 w w2 → f' 25 = u → (∀ j ∈ [2, 3, 26], f' j = f j) → K0 (Fm 263 f') w2) :
    Code.wp Tryd.prog r37Code (Only K0) (Fm 263 f) w := by
  have e : Fm 263 f = ⟨#[f 0, f 1, f 2, (.slice (some ⟨S, 0, none⟩) 8 8), f 4, f 5, f 6, f 7, f 8, f 9, f 10, f 11, f 12, f 13, f 14, f 15, f 16, f 17, f 18, f 19, f 20, f 21, f 22, f 23, f 24, v, (.int .i64 (k : Int)), f 27, f 28, f 29, f 30, f 31, f 32, f 33, f 34, f 35, f 36, f 37, f 38, f 39, f 40, f 41, f 42, f 43, f 44, f 45, f 46, f 47, f 48, f 49, f 50, f 51, f 52, f 53, f 54, f 55, f 56, f 57, f 58, f 59, f 60, f 61, f 62, f 63, f 64, f 65, f 66, f 67, f 68, f 69, f 70, f 71, f 72, f 73, f 74, f 75, f 76, f 77, f 78, f 79, f 80, f 81, f 82, f 83, f 84, f 85, f 86, f 87, f 88, f 89, f 90, f 91, f 92, f 93, f 94, f 95, f 96, f 97, f 98, f 99, f 100, f 101, f 102, f 103, f 104, f 105, f 106, f 107, f 108, f 109, f 110, f 111, f 112, f 113, f 114, f 115, f 116, f 117, f 118, f 119, f 120, f 121, f 122, f 123, f 124, f 125, f 126, f 127, f 128, f 129, f 130, f 131, f 132, f 133, f 134, f 135, f 136, f 137, f 138, f 139, f 140, f 141, f 142, f 143, f 144, f 145, f 146, f 147, f 148, f 149, f 150, f 151, f 152, f 153, f 154, f 155, f 156, f 157, f 158, f 159, f 160, f 161, f 162, f 163, f 164, f 165, f 166, f 167, f 168, f 169, f 170, f 171, f 172, f 173, f 174, f 175, f 176, f 177, f 178, f 179, f 180, f 181, f 182, f 183, f 184, f 185, f 186, f 187, f 188, f 189, f 190, f 191, f 192, f 193, f 194, f 195, f 196, f 197, f 198, f 199, f 200, f 201, f 202, f 203, f 204, f 205, f 206, f 207, f 208, f 209, f 210, f 211, f 212, f 213, f 214, f 215, f 216, f 217, f 218, f 219, f 220, f 221, f 222, f 223, f 224, f 225, f 226, f 227, f 228, f 229, f 230, f 231, f 232, f 233, f 234, f 235, f 236, f 237, f 238, f 239, f 240, f 241, f 242, f 243, f 244, f 245, f 246, f 247, f 248, f 249, f 250, f 251, f 252, f 253, f 254, f 255, f 256, f 257, f 258, f 259, f 260, f 261, f 262], []⟩ := (congrArg (Fm 263) (ov_self f _ hf)).symm.trans rfl
  rw [e]
  have HQ : ∀ (L : List Value) (u : Value) (w2 : World), L.length = 263 → BytesIs w2 u (l ++ beb x.toNat 4) → Fr0 w w2 → L.getD 25 undef = u → (∀ j ∈ [2, 3, 26], L.getD j undef = f j) → K0 ⟨L.toArray, []⟩ w2 := fun L u w2 hl q0 q1 e25 hk => by
    rw [Fm_of L 263 hl]
    exact hQ _ u w2 q0 q1 e25 hk
  have HQ := Lib.hid HQ
  have HFF := Lib.hid hf
  clear hQ hf e
  conv => arg 2; whnf
  have hk0 : (0 : Int) ≤ (k : Int) := by omega
  have hk8 : (k : Int) < 8 := by omega
  obtain ⟨n, rfl⟩ := Int.eq_ofNat_of_zero_le bx.1
  have HB := Lib.hid hB
  clear hB
  go_wp2_with fail
  refine (u_any v l n 4 (by omega) (by decide) (by omega) w HB.out).mono ?_
  rintro e w2 ⟨u, rfl, hB2, hF2, _⟩
  have HB2 := Lib.hid hB2
  have HF2 := Lib.hid hF2
  clear hB2 hF2
  go_wp2_with fail
  refine HQ.out _ _ _ rfl (by simpa using HB2.out) HF2.out rfl (fun j hj => ?_)
  simp only [List.mem_cons, List.not_mem_nil, or_false] at hj
  rcases hj with rfl | rfl | rfl
  · rfl
  · exact (HFF.out (3, (.slice (some ⟨S, 0, none⟩) 8 8)) (by simp)).symm
  · exact (HFF.out (26, (.int .i64 (k : Int))) (by simp)).symm
noncomputable def loop6Code : Code := ((Tryd.f30.body.bind (blockFull 10))).getD .skip
theorem loop6_is : loop6Code = .block 10 (.loop (.seq (.seq r35Code (.cond (.tmp 249) .skip (.exit 10))) (.seq (.block 11 r37Code) r36Code))) := by kernel_rfl
set_option maxHeartbeats 1000000 in
theorem loop6_any (s : St) (oks : s.ok) (S : Nat) (f0 : Nat → Value) (h3 : f0 3 = .slice (some ⟨S, 0, none⟩) 8 8) (h25 : f0 25 = .slice none 0 0) (h26 : f0 26 = .int .i64 0) (w : World) (hs : w.rowIs S 59 8 (stCell s)) (K0 : Act → World → Prop)
    (hQ : ∀ (f' : Nat → Value) (w2 : World) (v : Value), f' 25 = v → (∀ j ∈ [2, 3], f' j = f0 j) → BytesIs w2 v (sBytes s 8) → Fr0 w w2 → K0 (Fm 263 f') w2) :
    Code.wp Tryd.prog loop6Code (Only K0) (Fm 263 f0) w := by
  rw [loop6_is]
  refine wp_block (wp_loop (fun a' w' => ∃ (k : Nat) (f : Nat → Value) (v : Value), a' = Fm 263 f ∧ k ≤ 8 ∧ f 26 = .int .i64 (k : Int) ∧ f 25 = v ∧ (∀ j ∈ [2, 3], f j = f0 j) ∧ BytesIs w' v (sBytes s k) ∧ Fr0 w w')
    (fun a' _ => 8 - (intOf (a'.eval (.tmp 26))).toNat) ?_ ?_)
  · exact ⟨0, f0, _, rfl, by omega, h26, h25, fun _ _ => rfl, BytesIs.nil w, Fr.refl _ _⟩
  · rintro _ wr ⟨k, f, v, rfl, hk, e26, e25, hkeep, hB, hF⟩
    refine wp_seq (wp_seq (wp_mono (r35 k hk f (by simp [e26]) wr _ ?_) Only.then))
    intro f1 e249 k1
    by_cases hlt : k < 8
    · have hd : decide ((k : Int) < 8) = true := by rw [decide_eq_true_eq]; omega
      rw [hd] at e249
      refine wp_cond_true ((Fm_eval _ _ _ (by decide)).trans e249) (wp_skip ?_)
      refine wp_seq (wp_block ?_)
      refine wp_mono (r37 k S (s.at k) v (sBytes s k) hlt (oks k) (by rw [sBytes_length]; omega) f1 (by simp [k1, hkeep, e25, e26, h3]) wr _ ((hF.row hs (fun f => f)).cell (i := k) hlt) hB ?_) Only.inBlock
      intro f2 u w2 hB2 hF2 x25 k2
      refine wp_mono (r36 k hlt f2 (by simp [k2, k1, e26]) w2 _ ?_) Only.then
      intro f3 x26 k3
      refine ⟨⟨k + 1, f3, u, rfl, by omega, by rw [x26]; rfl, by rw [k3 25 (by simp), x25], ?_, hB2, hF.trans' hF2⟩, ?_⟩
      · intro j hj
        rw [k3 j (by simp at hj ⊢; omega), k2 j (by simp at hj ⊢; omega), k1 j (by simp at hj ⊢; omega)]
        exact hkeep j hj
      · rw [Fm_eval _ _ _ (by decide), Fm_eval _ _ _ (by decide), x26, e26]
        simp only [intOf]
        omega
    · have hd : decide ((k : Int) < 8) = false := by rw [decide_eq_false_iff_not]; omega
      rw [hd] at e249
      have hk8 : k = 8 := by omega
      subst hk8
      refine wp_cond_false ((Fm_eval _ _ _ (by decide)).trans e249) (wp_exit ?_)
      exact hQ f1 wr v (by rw [k1 25 (by simp), e25]) (fun j hj => (k1 j (by simp at hj ⊢; omega)).trans (hkeep j hj)) hB hF
end Go.Proofs.YteafnknghnhlgaaDoor.Sha
namespace Go.Proofs.YteafnknghnhlgaaDoor.Sha
open Go.RowKit Base

theorem zero23j : (Tryd.prog.info? 37).map (fun i => (i.zero, i.size)) = some (some (.agg (Array.replicate 32 (.int .u8 0))), 32) := by kernel_rfl
theorem dig_bvals (m : List UInt8) : digArr m = (bvals (digest m)).toArray := rfl
theorem dig_info23 (m : List UInt8) : (Tryd.prog.info? 37).map (·.size) = some (digArr m).size := by
  rw [digArr_size]
  kernel_rfl
theorem digest_len' (m : List UInt8) : (digest m).length = 32 := by simp [digest]
theorem slice23 (G : Nat) (w : World) : (Instr.sliceAt 37 (.pointer (some ⟨G, 0, none⟩)) none none none).run Tryd.prog w = .ok (.slice (some ⟨G, 0, none⟩) 32 32) w := by
  have hA : Tryd.prog.arrayLen 37 = 32 := by kernel_rfl
  have hE : Tryd.prog.elem 37 = 5 := by kernel_rfl
  have hs : (Tryd.prog.info? 5).map (·.size) = some 1 := by kernel_rfl
  obtain ⟨i, hi, hz⟩ : ∃ i, Tryd.prog.info? 5 = some i ∧ i.size = 1 := by
    cases hq : Tryd.prog.info? 5 with
    | none => simp [hq] at hs
    | some i => exact ⟨i, rfl, by simpa [hq] using hs⟩
  have := run_sliceAt_array_all (P := Tryd.prog) w 37 ⟨G, 0, none⟩ (by rw [hA, hE]; exact Tryd.underlying37)
  rw [this, hE]
  simp [sizeOf, typeInfo, hi, hz, slicedAt, hA, Sem.run_bind, sliced, Addr.add]
theorem splice_all (l : List UInt8) (n : Nat) (h : l.length = n) : splice (bvals (List.replicate n 0)) 0 (bvals l) = bvals l := by
  rw [splice_zero l n, h, Nat.sub_self]
  simp
noncomputable def r38Code : Code := ((Tryd.f30.body.bind (oneRegion 38)).getD .skip)
set_option maxHeartbeats 4000000 in
set_option maxRecDepth 1000000 in
theorem r38 (Z : Array Value) (f : Nat → Value) (hf : ∀ p ∈ ([] : List (Nat × Value)), f p.1 = p.2) (w : World) (K0 : Act → World → Prop) (hz : ∀ w : World, (zeroValue 37).run Tryd.prog w = .ok (.agg Z) w)
    (hQ : ∀ (f' : Nat → Value) ,  f' 27 = .pointer (some ⟨w.heap.size, 0, none⟩) → (∀ j ∈ [2, 25], f' j = f j) → K0 (Fm 263 f') (w.alloc (.cells Z 37))) :
    Code.wp Tryd.prog r38Code (Only K0) (Fm 263 f) w := by
  have e : Fm 263 f = ⟨#[f 0, f 1, f 2, f 3, f 4, f 5, f 6, f 7, f 8, f 9, f 10, f 11, f 12, f 13, f 14, f 15, f 16, f 17, f 18, f 19, f 20, f 21, f 22, f 23, f 24, f 25, f 26, f 27, f 28, f 29, f 30, f 31, f 32, f 33, f 34, f 35, f 36, f 37, f 38, f 39, f 40, f 41, f 42, f 43, f 44, f 45, f 46, f 47, f 48, f 49, f 50, f 51, f 52, f 53, f 54, f 55, f 56, f 57, f 58, f 59, f 60, f 61, f 62, f 63, f 64, f 65, f 66, f 67, f 68, f 69, f 70, f 71, f 72, f 73, f 74, f 75, f 76, f 77, f 78, f 79, f 80, f 81, f 82, f 83, f 84, f 85, f 86, f 87, f 88, f 89, f 90, f 91, f 92, f 93, f 94, f 95, f 96, f 97, f 98, f 99, f 100, f 101, f 102, f 103, f 104, f 105, f 106, f 107, f 108, f 109, f 110, f 111, f 112, f 113, f 114, f 115, f 116, f 117, f 118, f 119, f 120, f 121, f 122, f 123, f 124, f 125, f 126, f 127, f 128, f 129, f 130, f 131, f 132, f 133, f 134, f 135, f 136, f 137, f 138, f 139, f 140, f 141, f 142, f 143, f 144, f 145, f 146, f 147, f 148, f 149, f 150, f 151, f 152, f 153, f 154, f 155, f 156, f 157, f 158, f 159, f 160, f 161, f 162, f 163, f 164, f 165, f 166, f 167, f 168, f 169, f 170, f 171, f 172, f 173, f 174, f 175, f 176, f 177, f 178, f 179, f 180, f 181, f 182, f 183, f 184, f 185, f 186, f 187, f 188, f 189, f 190, f 191, f 192, f 193, f 194, f 195, f 196, f 197, f 198, f 199, f 200, f 201, f 202, f 203, f 204, f 205, f 206, f 207, f 208, f 209, f 210, f 211, f 212, f 213, f 214, f 215, f 216, f 217, f 218, f 219, f 220, f 221, f 222, f 223, f 224, f 225, f 226, f 227, f 228, f 229, f 230, f 231, f 232, f 233, f 234, f 235, f 236, f 237, f 238, f 239, f 240, f 241, f 242, f 243, f 244, f 245, f 246, f 247, f 248, f 249, f 250, f 251, f 252, f 253, f 254, f 255, f 256, f 257, f 258, f 259, f 260, f 261, f 262], []⟩ := (congrArg (Fm 263) (ov_self f _ hf)).symm.trans rfl
  rw [e]
  have HQ : ∀ (L : List Value) , L.length = 263 →  L.getD 27 undef = .pointer (some ⟨w.heap.size, 0, none⟩) → (∀ j ∈ [2, 25], L.getD j undef = f j) → K0 ⟨L.toArray, []⟩ (w.alloc (.cells Z 37)) := fun L  hl  e27 hk => by
    rw [Fm_of L 263 hl]
    exact hQ _   e27 hk
  have HQ := Lib.hid HQ
  have HFF := Lib.hid hf
  clear hQ hf e
  conv => arg 2; whnf
  go_wp2
  refine HQ.out _  rfl  rfl (fun j hj => ?_)
  simp only [List.mem_cons, List.not_mem_nil, or_false] at hj
  rcases hj with rfl | rfl
  · rfl
  · rfl
noncomputable def r39Code : Code := ((Tryd.f30.body.bind (oneRegion 39)).getD .skip)
theorem r39 (G : Nat) (sa : Option Addr) (sc : Nat) (l : List UInt8) (hl : l.length = 32) (ZL : List Value) (hZL : ZL = bvals (List.replicate 32 0)) (f : Nat → Value) (hf : ∀ p ∈ ([(27, .pointer (some ⟨G, 0, none⟩)), (25, .slice sa 32 sc)] : List (Nat × Value)), f p.1 = p.2) (w : World) (K0 : Act → World → Prop)
    (hg : w.heap[G]? = some (.cells ZL.toArray 37 (0, 0))) (hB : BytesIs w (.slice sa 32 sc) l) (hGs : w.heap.size = G + 1)
    (hQ : ∀ (f' : Nat → Value) (w2 : World), w2.heap[G]? = some (.cells (bvals l).toArray 37 (0, 0)) → Fr1 G w w2 → (∀ j ∈ [2, 27], f' j = f j) → K0 (Fm 263 f') w2) :
    Code.wp Tryd.prog r39Code (Only K0) (Fm 263 f) w := by
  have h27 : f 27 = .pointer (some ⟨G, 0, none⟩) := hf (27, _) (by simp)
  have h25 : f 25 = .slice sa 32 sc := hf (25, _) (by simp)
  obtain ⟨a0, cap0, pb, po, hv, hcap, ha, hc⟩ := hB
  simp only [Value.slice.injEq] at hv
  obtain ⟨rfl, _, rfl⟩ := hv
  have hXL : (bvals l).length = Nat.min 32 32 := by rw [bvals_length, hl]; rfl
  have hZS : ZL.length = 32 := by rw [hZL, bvals_length, List.length_replicate]
  have hXF : 0 + (bvals l).length ≤ ZL.length := by rw [hXL, hZS]; decide
  have hPOS : 0 < (bvals l).length → some (⟨G, 0, none⟩ : Addr) = some ⟨G, 0, none⟩ ∧ ∃ ad, sa = some ad ∧ ∀ j u, (bvals l)[j]? = some u → w.cell? (ad.add j) = some u := fun _ => ⟨rfl, _, ha (by omega), fun j u hj => by
    have hjl : j < l.length := by have := (List.getElem?_eq_some_iff.1 hj).1; rwa [bvals_length] at this
    rw [Addr.add_mid, hc j hjl, ← hj, bvals_get _ _ hjl]⟩
  have hSP : splice ZL 0 (bvals l) = bvals l := by rw [hZL]; exact splice_all l 32 hl
  conv => arg 2; whnf
  refine wp_region_lit ?_
  refine wpList_val (.slice (some ⟨G, 0, none⟩) 32 32) rfl ?_ ?_
  · simp only [execOp, Fm_eval 263 f 27 (by decide), h27, Option.map_none, Sem.run_bind, slice23, Result.andThen_ok, Sem.run_pure]
  rw [Fm_put _ _ _ _ (by decide)]
  refine wpList_val (.slice sa 32 sc) rfl ?_ ?_
  · simp only [execOp, Fm_eval 263 _ 25 (by decide), Sem.run_pure, upd]
    rw [if_neg (by decide), h25]
  rw [Fm_put _ _ _ _ (by decide)]
  refine wpList_copy_splice rfl (.tmp 259) (.tmp 260) 23 23 rfl 5 Tryd.underlying23 (by kernel_rfl) _ _ 32 32 _ _ (by rw [Fm_eval _ _ _ (by decide)]; rfl) (by rw [Fm_eval _ _ _ (by decide)]; rfl) G 0 ZL 37 hg (bvals l) hXL hPOS hXF (bvals_one l) G _ (Below.refl _ _) (Nat.le_refl _) ?_
  intro w2 HG2 hB2
  rw [Fm_put _ _ _ _ (by decide)]
  refine wpList_nil (hQ _ w2 (by rw [← hSP]; exact HG2.out) ⟨hB2.os, hB2.tape, hB2.output, hB2.size, fun k hk hne => hB2.block k (by omega)⟩ (fun j hj => ?_))
  simp only [List.mem_cons, List.not_mem_nil, or_false] at hj
  rcases hj with rfl | rfl
  · rfl
  · rfl
noncomputable def r40Code : Code := ((Tryd.f30.body.bind (oneRegion 40)).getD .skip)
set_option maxHeartbeats 4000000 in
set_option maxRecDepth 1000000 in
theorem r40 (G N : Nat) (D : Array Value) (f : Nat → Value) (hf : ∀ p ∈ ([(2, (.pointer (some ⟨N, 0, none⟩))), (27, (.pointer (some ⟨G, 0, none⟩)))] : List (Nat × Value)), f p.1 = p.2) (w : World) (K0 : Act → World → Prop) (old : Array Value) (hG : w.heap[G]? = some (.cells D 37 (0, 0))) (hN : w.heap[N]? = some (.cells old 37 (0, 0))) (hi : (Tryd.prog.info? 37).map (·.size) = some D.size) (hsz : old.size = D.size) (h1 : D.all (·.oneCell') = true)
    (hQ : ∀ (f' : Nat → Value) ,  (∀ j ∈ [2], f' j = f j) → K0 (Fm 263 f') (w.setRow N D)) :
    Code.wp Tryd.prog r40Code (Only K0) (Fm 263 f) w := by
  have e : Fm 263 f = ⟨#[f 0, f 1, (.pointer (some ⟨N, 0, none⟩)), f 3, f 4, f 5, f 6, f 7, f 8, f 9, f 10, f 11, f 12, f 13, f 14, f 15, f 16, f 17, f 18, f 19, f 20, f 21, f 22, f 23, f 24, f 25, f 26, (.pointer (some ⟨G, 0, none⟩)), f 28, f 29, f 30, f 31, f 32, f 33, f 34, f 35, f 36, f 37, f 38, f 39, f 40, f 41, f 42, f 43, f 44, f 45, f 46, f 47, f 48, f 49, f 50, f 51, f 52, f 53, f 54, f 55, f 56, f 57, f 58, f 59, f 60, f 61, f 62, f 63, f 64, f 65, f 66, f 67, f 68, f 69, f 70, f 71, f 72, f 73, f 74, f 75, f 76, f 77, f 78, f 79, f 80, f 81, f 82, f 83, f 84, f 85, f 86, f 87, f 88, f 89, f 90, f 91, f 92, f 93, f 94, f 95, f 96, f 97, f 98, f 99, f 100, f 101, f 102, f 103, f 104, f 105, f 106, f 107, f 108, f 109, f 110, f 111, f 112, f 113, f 114, f 115, f 116, f 117, f 118, f 119, f 120, f 121, f 122, f 123, f 124, f 125, f 126, f 127, f 128, f 129, f 130, f 131, f 132, f 133, f 134, f 135, f 136, f 137, f 138, f 139, f 140, f 141, f 142, f 143, f 144, f 145, f 146, f 147, f 148, f 149, f 150, f 151, f 152, f 153, f 154, f 155, f 156, f 157, f 158, f 159, f 160, f 161, f 162, f 163, f 164, f 165, f 166, f 167, f 168, f 169, f 170, f 171, f 172, f 173, f 174, f 175, f 176, f 177, f 178, f 179, f 180, f 181, f 182, f 183, f 184, f 185, f 186, f 187, f 188, f 189, f 190, f 191, f 192, f 193, f 194, f 195, f 196, f 197, f 198, f 199, f 200, f 201, f 202, f 203, f 204, f 205, f 206, f 207, f 208, f 209, f 210, f 211, f 212, f 213, f 214, f 215, f 216, f 217, f 218, f 219, f 220, f 221, f 222, f 223, f 224, f 225, f 226, f 227, f 228, f 229, f 230, f 231, f 232, f 233, f 234, f 235, f 236, f 237, f 238, f 239, f 240, f 241, f 242, f 243, f 244, f 245, f 246, f 247, f 248, f 249, f 250, f 251, f 252, f 253, f 254, f 255, f 256, f 257, f 258, f 259, f 260, f 261, f 262], []⟩ := (congrArg (Fm 263) (ov_self f _ hf)).symm.trans rfl
  rw [e]
  have HQ : ∀ (L : List Value) , L.length = 263 →  (∀ j ∈ [2], L.getD j undef = f j) → K0 ⟨L.toArray, []⟩ (w.setRow N D) := fun L  hl   hk => by
    rw [Fm_of L 263 hl]
    exact hQ _    hk
  have HQ := Lib.hid HQ
  have HFF := Lib.hid hf
  clear hQ hf e
  conv => arg 2; whnf
  have HG := Lib.hid hG
  have HN := Lib.hid hN
  have HI := Lib.hid hi
  have HS := Lib.hid hsz
  have H1 := Lib.hid h1
  clear hG hN hi hsz h1
  go_wp2_with (first | (refine wpList_load_row rfl 37 _ rfl G rfl 37 D (0, 0) _ HG.out Tryd.underlying37 rfl HI.out ?_) | (refine wpList_store_row rfl 37 _ _ rfl N D rfl rfl 37 _ HN.out HI.out HS.out H1.out ?_))
  refine HQ.out _  rfl   (fun j hj => ?_)
  simp only [List.mem_cons, List.not_mem_nil, or_false] at hj
  rcases hj with rfl
  · exact (HFF.out (2, (.pointer (some ⟨N, 0, none⟩))) (by simp)).symm
noncomputable def endCode : Code := ((Tryd.f30.body.bind (fromRegion 33))).getD .skip
theorem endCode_is : endCode = .seq r33Code (.seq (.seq r34Code loop6Code) (.seq r38Code (.seq r39Code (.seq r40Code .ret)))) := by kernel_rfl
set_option maxHeartbeats 1000000 in
theorem end_code (m : List UInt8) (S N : Nat) (f0 : Nat → Value) (h2 : f0 2 = .pointer (some ⟨N, 0, none⟩)) (h3 : f0 3 = .slice (some ⟨S, 0, none⟩) 8 8) (w : World) (hs : w.rowIs S 59 8 (stCell (fin m))) (hN : w.rowIs N 37 32 (fun _ => .int .u8 0)) (Q : Exit → Act → World → Prop)
    (hQ : ∀ (f' : Nat → Value) (w' : World), f' 2 = .pointer (some ⟨N, 0, none⟩) → w'.heap[N]? = some (.cells (digArr m) 37 (0, 0)) → Fr1 N w w' → Q .ret (Fm 263 f') w') :
    Code.wp Tryd.prog endCode Q (Fm 263 f0) w := by
  have hz := (zero_of_info (P := Tryd.prog) zero23j).1
  rw [zerosB 32] at hz
  rw [endCode_is]
  refine wp_seq (wp_mono (r33 f0 (by simp) w _ ?_) Only.then)
  intro f1 x25 k1
  refine wp_seq (wp_seq (wp_mono (r34 f1 (by simp) w _ ?_) Only.then))
  intro f2 x26 k2
  refine wp_mono (loop6_any (fin m) (st_ok _ _) S f2 (by rw [k2 3 (by simp), k1 3 (by simp), h3]) (by rw [k2 25 (by simp), x25]) x26 w hs _ ?_) Only.then
  intro f3 w3 v y25 k3 hB3 hF3
  rw [sBytes_digest] at hB3
  refine wp_seq (wp_mono (r38 _ f3 (by simp) w3 _ hz ?_) Only.then)
  intro f4 x27 k4
  have hN3 := hF3.row hN (fun f => f)
  have hlN := hN3.lt
  obtain ⟨sa, sn, sc, hv⟩ := hB3.slice
  have hsn : sn = 32 := by obtain ⟨_, _, _, _, h, _⟩ := hB3; rw [hv] at h; cases h; exact digest_len' m
  subst hsn
  subst hv
  refine wp_seq (wp_mono (r39 w3.heap.size sa sc (digest m) (digest_len' m) _ rfl f4 (fs2 (x27) ((k4 25 (by simp)).trans y25)) _ _ (heap_alloc_new w3 _) (hB3.fr0 ((Fr.refl _ _).alloc _)) (by simp) ?_) Only.then)
  intro f5 w5 hG5 hF5 k5
  have hN5 := hF5.row (hN3.alloc _) (by omega)
  refine wp_seq (wp_mono (r40 w3.heap.size N (digArr m) f5 (fs2 (((((k5 2 (by simp)).trans (k4 2 (by simp))).trans (k3 2 (by simp))).trans (k2 2 (by simp))).trans ((k1 2 (by simp)).trans h2)) ((k5 27 (by simp)).trans x27)) w5 _ _ hG5 (row_cells hN5) (dig_info23 m) (by simp [digArr_size]) (digArr_one m) ?_) Only.then)
  intro f6 k6
  refine wp_ret (hQ f6 _ ?_ (setRow_heap _ _ _ _ _ _ (row_cells hN5)) ?_)
  · rw [k6 2 (by simp), k5 2 (by simp), k4 2 (by simp), k3 2 (by simp), k2 2 (by simp), k1 2 (by simp), h2]
  · exact Fr.setRow (S := fun k => k = N) (Fr.trans (S := fun k => k = N) (T := fun k => k = w3.heap.size) (Fr.mono (Fr.alloc hF3 _) (fun _ _ h => h.elim)) hF5 (fun i hi h => by have := hF3.size; omega)) (fun _ => rfl) _
end Go.Proofs.YteafnknghnhlgaaDoor.Sha
namespace Go.Proofs.YteafnknghnhlgaaDoor.Sha
open Go.RowKit Base

theorem beb_u64 (v : Nat) : beb v 8 = u64be v := by
  unfold beb u64be
  apply List.map_congr_left
  intro j hj
  rw [show 8 * (8 - 1 - j) = 56 - 8 * j from by have := List.mem_range.1 hj; omega]
def msgZ (m : List UInt8) (z : Nat) : List UInt8 := m ++ ([128] ++ List.replicate z 0)
theorem msgZ_A (m : List UInt8) (z : Nat) : msgZ m z = msgA m z := by simp [msgZ, msgA]

theorem pad_len (m : List UInt8) : (pad m).length = m.length + 1 + zeros m.length + 8 := by simp [pad, u64be]; omega
theorem ref_len (v : Value) (m : List UInt8) (hm : m.length ≤ 1048576) (z : Nat) (hz : z = zeros m.length) (w : World) (hB : BytesIs w v (msgZ m z)) :
    Calls Tryd.prog 22 #[v, .int .u64 ((m.length : Int) * 8), .int .i64 8] w (RetBytes w (pad m)) := by
  have hzl := zeros_lt m.length
  have h := u_any v (msgZ m z) (m.length * 8) 8 (by omega) (by omega) (by simp [msgZ]; omega) w hB
  rw [show msgZ m z ++ beb (m.length * 8) 8 = pad m from by rw [beb_u64, hz]; simp [msgZ, pad]] at h
  exact h
def initArr : Array Value := #[.int .u32 1779033703, .int .u32 3144134277, .int .u32 1013904242, .int .u32 2773480762, .int .u32 1359893119, .int .u32 2600822924, .int .u32 528734635, .int .u32 1541459225]
theorem st_start (w : World) (Z : Array Value) : ((w.alloc (.cells Z 37)).alloc (.cells initArr 59)).rowIs (w.heap.size + 1) 59 8 (stCell init) :=
  rowIs_of_cells (heap_alloc2_new w _ _) rfl (fun i hi => by
    match i, hi with
    | 0, _ | 1, _ | 2, _ | 3, _ | 4, _ | 5, _ | 6, _ | 7, _ => rfl)
theorem res_start (w : World) (Z : Array Value) (o : Obj) (hZ : Array.replicate 32 (Value.int .u8 0) = Z) : ((w.alloc (.cells Z 37)).alloc o).rowIs w.heap.size 37 32 (fun _ => .int .u8 0) :=
  (rowIs_new w Z _ 32 _ (by rw [← hZ]; simp) (fun i hi => by rw [← hZ]; simp [hi])).alloc _
set_option maxHeartbeats 4000000 in
set_option maxRecDepth 100000 in
theorem refSum_any (vm : Value) (m : List UInt8) (hm : m.length ≤ 1048576) (w : World) (hB : BytesIs w vm m) :
    Calls Tryd.prog 30 #[vm] w fun e w' => e = .returned (.agg (digArr m)) ∧ Fr0 w w' := by
  obtain ⟨sa, sn, sc, hsv⟩ := hB.slice
  subst hsv
  have hsn : sn = m.length := by obtain ⟨_, _, _, _, h, _⟩ := hB; cases h; rfl
  subst hsn
  have HB := Lib.hid hB
  clear hB
  have hz := (zero_of_info (P := Tryd.prog) zero23j).1
  generalize hZ : (Array.replicate 32 (Value.int .u8 0)) = Z at hz
  have HZ := Lib.hid hZ
  clear hZ
  have hzl := zeros_lt m.length
  go_enter Tryd.func30, Tryd.ntmps30
  go_wp2_with (at_builtin; refine wpList_append_bytes rfl (.tmp 29) (.tmp 30) 23 rfl (w.heap.size + 2) 5 Tryd.underlying23 infoU8 _ _ 0 [] m rfl rfl (owns_empty _ _ _ (by simp) _ (by simp)) (HB.out.fr0 (Fr.alloc (Fr.alloc (Fr.alloc (Fr.refl _ _) _) _) _)) (by omega) (by simp) ?_)
  intro v1 w1 hown1 hgr1
  have hF1 : Fr0 ((w.alloc (.cells Z 37)).alloc (.cells initArr 59)) w1 := Fr.grown (Fr.alloc (Fr.refl _ _) _) hgr1 (fun q hq e => by
    simp [Value.ownBlock] at e; simp at hq; omega)
  have HOWN1 : Hid (w1.ownsRow (w.heap.size + 2) 5 1 v1 m.length (bvals m)) := Lib.hid (by simpa using hown1)
  have HST1 : Hid (w1.rowIs (w.heap.size + 1) 59 8 (stCell (st (pad m) 0))) := Lib.hid (hF1.row (st_start w Z) (fun f => f))
  have HRS1 : Hid (w1.rowIs w.heap.size 37 32 (fun _ => .int .u8 0)) := Lib.hid (hF1.row (res_start w Z _ HZ.out) (fun f => f))
  have HF1 : Hid (Fr0 w w1) := Lib.hid (Fr.trans' (Fr.alloc (Fr.alloc (Fr.refl _ _) _) _) hF1)
  have hsz1 : w.heap.size + 2 ≤ w1.heap.size := by have := hF1.size; simpa using this
  clear hown1 hgr1 hF1
  go_wp2_with (at_builtin; refine wpList_append_bytes rfl (.tmp 32) (.tmp 33) 23 rfl (w.heap.size + 2) 5 Tryd.underlying23 infoU8 _ _ m.length m [128] rfl rfl (HOWN1.out.alloc _) (BytesIs.one w1 128 _ rfl _ _ rfl) (by simp; omega) (by simp; omega) ?_)
  intro v2 w2 hown2 hgr2
  have hF2 : Fr (fun k => w.heap.size + 2 ≤ k) w1 w2 := Fr.grown (Fr.alloc (Fr.refl _ _) _) hgr2 (fun q hq e => (HOWN1.out.lt q e).1)
  have HOWN2 : Hid (w2.ownsRow (w.heap.size + 2) 5 1 v2 (m.length + 1) (bvals (msgZ m 0))) := Lib.hid hown2
  have HST2 := Lib.hid (hF2.row HST1.out (by omega))
  have HRS2 := Lib.hid (hF2.row HRS1.out (by omega))
  have HF2 : Hid (Fr0 w w2) := Lib.hid (HF1.out.trans hF2 (fun i hi h => by omega))
  have hsz2 := hF2.size
  clear hown2 hgr2 hF2 HOWN1 HST1 HRS1 HF1
  go_wp2_with fail
  go_loopg [4] (zeros m.length) (fun g s wr => ∃ z : Nat, z + g = zeros m.length ∧ wr.ownsRow (w.heap.size + 2) 5 1 s (m.length + 1 + z) (bvals (msgZ m z)) ∧ wr.rowIs (w.heap.size + 1) 59 8 (stCell (st (pad m) 0)) ∧ wr.rowIs w.heap.size 37 32 (fun _ => .int .u8 0) ∧ Fr0 w wr ∧ w.heap.size + 2 ≤ wr.heap.size)
  case atStart => exact ⟨0, by omega, HOWN2.out, HST2.out, HRS2.out, HF2.out, by omega⟩
  case round =>
    clear HOWN2 HST2 HRS2 HF2 hsz1 hsz2
    obtain ⟨z, hzg, hown, hst, hrs, hF, hsz⟩ := hrel
    have HOWN := Lib.hid hown
    have HST := Lib.hid hst
    have HRS := Lib.hid hrs
    have HF := Lib.hid hF
    have hval : ∃ a c, u4 = .slice a (m.length + 1 + z) c := by rcases hown.2 with ⟨h, h0⟩ | ⟨g, c, _, h, _⟩; · omega
                                                                · exact ⟨_, c, h⟩
    obtain ⟨ua, uc, hu4⟩ := hval
    subst hu4
    clear hown hst hrs hF
    by_cases hlast : z = zeros m.length
    · have hw : (m.length + 1 + z) % 64 = 56 := (zeros_at m.length z (by omega)).2 hlast
      obtain rfl := hlast
      have hwb : (((m.length + 1 + zeros m.length : Nat) : Int) % 64 != 56) = false := by
        rw [Bool.eq_false_iff]; intro h; rw [bne_iff_ne] at h; omega
      have HP0 := Lib.hid (BytesIs.own HOWN.out)
      go_wp2_with fail
      refine (ref_len _ m hm (zeros m.length) rfl wr HP0.out).mono ?_
      rintro e w3 ⟨v3, rfl, hB3, hF3, hnew3⟩
      have HP := Lib.hid hB3
      have HNEW := Lib.hid hnew3
      have HST3 := Lib.hid (hF3.row HST.out (fun f => f))
      have HRS3 := Lib.hid (hF3.row HRS.out (fun f => f))
      have HF3 := Lib.hid (HF.out.trans' hF3)
      have hsz3 := hF3.size
      obtain ⟨pa, pn, pc, hv3⟩ := hB3.slice
      subst hv3
      have hpn : pn = (pad m).length := by obtain ⟨_, _, _, _, h, _⟩ := HP.out; cases h; rfl
      have hQ : (pad m).length = 64 * ((pad m).length / 64) := by rw [pad_len]; omega
      have hQ2 : (pad m).length ≤ 2097152 := by rw [pad_len]; omega
      subst hpn
      have HSUM := Lib.hid (show digArr m = (bvals (digest m)).toArray from rfl)
      have HFIN := Lib.hid (show fin m = st (pad m) ((pad m).length / 64) from rfl)
      have HNB : Hid (∀ a : Addr, pa = some a → w.heap.size + 2 ≤ a.block) := Lib.hid (fun a h => by
        have := HNEW.out a _ _ (by rw [h]); omega)
      clear hB3 hF3 hnew3 HOWN HST HRS HF HP0 hzg HNEW
      have HQL := Lib.hid hQ
      have HQ3 : Hid ((pad m).length / 64 ≤ 32768) := Lib.hid (by omega)
      clear hQ hQ2
      go_upto_block 2 with fail
      rename_i hK
      rw [Fm_of _ 263 rfl]
      refine wp_mono (outer_any (pad m) ((pad m).length / 64) (w.heap.size + 1) pa (pad m).length pc HQL.out rfl HQ3.out _ rfl rfl rfl w3 HP.out (fun a h e => by have := HNB.out a h; omega) HST3.out _ ?_) Only.then
      intro f' w4 k4 hr4 hF4
      refine hK _ _ ?_
      refine end_code m (w.heap.size + 1) w.heap.size f' (k4 2 (by simp)) (k4 3 (by simp)) w4 hr4 (hF4.row HRS3.out (by omega)) _ ?_
      intro f5 w5 e2 hh hF5
      exact bodyPost_ret (v := .agg (digArr m)) (results_cell_row (fn := Tryd.f30) rfl _ _ w.heap.size 37 (digArr m) (0, 0) _ ((Fm_eval 263 f5 2 (by decide)).trans e2) hh Tryd.underlying37 rfl (dig_info23 m)) rfl ⟨rfl, (HF3.out.trans hF4 (fun i hi h => by omega)).trans hF5 (fun i hi h => by omega)⟩
    · skip -- DEV
      have hw : ¬ (m.length + 1 + z) % 64 = 56 := fun e => hlast ((zeros_at m.length z (by omega)).1 e)
      have hwb : (((m.length + 1 + z : Nat) : Int) % 64 != 56) = true := by rw [bne_iff_ne]; omega
      go_wp2_with (at_builtin; refine wpList_append_bytes rfl (.tmp 39) (.tmp 40) 23 rfl (w.heap.size + 2) 5 Tryd.underlying23 infoU8 _ _ (m.length + 1 + z) (msgZ m z) [0] rfl rfl (HOWN.out.alloc _) (BytesIs.one wr 0 _ rfl _ _ rfl) (by simp; omega) (by simp; omega) ?_)
      intro v' w' hown' hgr'
      have hF' : Fr (fun k => w.heap.size + 2 ≤ k) wr w' := Fr.grown (Fr.alloc (Fr.refl _ _) _) hgr' (fun q hq e => (HOWN.out.lt q e).1)
      have HOWN' : Hid (w'.ownsRow (w.heap.size + 2) 5 1 v' (m.length + 1 + (z + 1)) (bvals (msgZ m (z + 1)))) := Lib.hid (by
        have e : msgZ m z ++ [0] = msgZ m (z + 1) := by simp [msgZ, List.replicate_succ']
        rw [e] at hown'; exact hown')
      have HST' := Lib.hid (hF'.row HST.out (by omega))
      have HRS' := Lib.hid (hF'.row HRS.out (by omega))
      have HF' : Hid (Fr0 w w') := Lib.hid (HF.out.trans hF' (fun i hi h => by omega))
      have hsz' := hF'.size
      clear hown' hgr' hF' HOWN HST HRS HF
      go_wp2_with fail
      go_roundg (gk - 1)
      case measure => omega
      case rel => exact ⟨z + 1, by omega, HOWN'.out, HST'.out, HRS'.out, HF'.out, by omega⟩
end Go.Proofs.YteafnknghnhlgaaDoor.Sha
