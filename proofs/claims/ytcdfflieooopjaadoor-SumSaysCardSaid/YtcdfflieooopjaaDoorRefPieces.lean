/-
  Small pieces of the reference's Sum (made by wip/tools/mkouter.py).
-/
import Derived.Test.YtcdfflieooopjaaDoorRefLoopA
namespace Go.Proofs.YtcdfflieooopjaaDoor.Sha
open Go.RowKit Base

noncomputable def r8Code : Code := ((Tryd.f22.body.bind (oneRegion 8)).getD .skip)
set_option maxHeartbeats 4000000 in
set_option maxRecDepth 1000000 in
theorem r8 (pa : Option Addr) (n4 pc : Nat) (at_ : Nat) (h4 : n4 ≤ 4194304) (h5 : at_ ≤ 4194304) (f : Nat → Value) (hf : ∀ p ∈ ([(4, (.slice pa n4 pc)), (5, (.int .i64 (at_ : Int)))] : List (Nat × Value)), f p.1 = p.2) (w : World) (K0 : Act → World → Prop) 
    (hQ : ∀ (f' : Nat → Value) ,  f' 51 = .bool (decide (at_ < n4)) → (∀ j ∈ [2, 3, 4, 5], f' j = f j) → K0 (Fm 263 f') w) :
    Code.wp Tryd.prog r8Code (Only K0) (Fm 263 f) w := by
  have e : Fm 263 f = ⟨#[f 0, f 1, f 2, f 3, (.slice pa n4 pc), (.int .i64 (at_ : Int)), f 6, f 7, f 8, f 9, f 10, f 11, f 12, f 13, f 14, f 15, f 16, f 17, f 18, f 19, f 20, f 21, f 22, f 23, f 24, f 25, f 26, f 27, f 28, f 29, f 30, f 31, f 32, f 33, f 34, f 35, f 36, f 37, f 38, f 39, f 40, f 41, f 42, f 43, f 44, f 45, f 46, f 47, f 48, f 49, f 50, f 51, f 52, f 53, f 54, f 55, f 56, f 57, f 58, f 59, f 60, f 61, f 62, f 63, f 64, f 65, f 66, f 67, f 68, f 69, f 70, f 71, f 72, f 73, f 74, f 75, f 76, f 77, f 78, f 79, f 80, f 81, f 82, f 83, f 84, f 85, f 86, f 87, f 88, f 89, f 90, f 91, f 92, f 93, f 94, f 95, f 96, f 97, f 98, f 99, f 100, f 101, f 102, f 103, f 104, f 105, f 106, f 107, f 108, f 109, f 110, f 111, f 112, f 113, f 114, f 115, f 116, f 117, f 118, f 119, f 120, f 121, f 122, f 123, f 124, f 125, f 126, f 127, f 128, f 129, f 130, f 131, f 132, f 133, f 134, f 135, f 136, f 137, f 138, f 139, f 140, f 141, f 142, f 143, f 144, f 145, f 146, f 147, f 148, f 149, f 150, f 151, f 152, f 153, f 154, f 155, f 156, f 157, f 158, f 159, f 160, f 161, f 162, f 163, f 164, f 165, f 166, f 167, f 168, f 169, f 170, f 171, f 172, f 173, f 174, f 175, f 176, f 177, f 178, f 179, f 180, f 181, f 182, f 183, f 184, f 185, f 186, f 187, f 188, f 189, f 190, f 191, f 192, f 193, f 194, f 195, f 196, f 197, f 198, f 199, f 200, f 201, f 202, f 203, f 204, f 205, f 206, f 207, f 208, f 209, f 210, f 211, f 212, f 213, f 214, f 215, f 216, f 217, f 218, f 219, f 220, f 221, f 222, f 223, f 224, f 225, f 226, f 227, f 228, f 229, f 230, f 231, f 232, f 233, f 234, f 235, f 236, f 237, f 238, f 239, f 240, f 241, f 242, f 243, f 244, f 245, f 246, f 247, f 248, f 249, f 250, f 251, f 252, f 253, f 254, f 255, f 256, f 257, f 258, f 259, f 260, f 261, f 262], []⟩ := (congrArg (Fm 263) (ov_self f _ hf)).symm.trans rfl
  rw [e]
  have HQ : ∀ (L : List Value) , L.length = 263 →  L.getD 51 undef = .bool (decide (at_ < n4)) → (∀ j ∈ [2, 3, 4, 5], L.getD j undef = f j) → K0 ⟨L.toArray, []⟩ w := fun L  hl  e51 hk => by
    rw [Fm_of L 263 hl]
    exact hQ _   e51 hk
  have HQ := Lib.hid HQ
  have HFF := Lib.hid hf
  clear hQ hf e
  conv => arg 2; whnf
  go_wp2
  refine HQ.out _  rfl  rfl (fun j hj => ?_)
  simp only [List.mem_cons, List.not_mem_nil, or_false] at hj
  rcases hj with rfl | rfl | rfl | rfl
  · rfl
  · rfl
  · exact (HFF.out (4, (.slice pa n4 pc)) (by simp)).symm
  · exact (HFF.out (5, (.int .i64 (at_ : Int))) (by simp)).symm
noncomputable def r10Code : Code := ((Tryd.f22.body.bind (oneRegion 10)).getD .skip)
set_option maxHeartbeats 4000000 in
set_option maxRecDepth 1000000 in
theorem r10  (f : Nat → Value) (hf : ∀ p ∈ ([] : List (Nat × Value)), f p.1 = p.2) (w : World) (K0 : Act → World → Prop) 
    (hQ : ∀ (f' : Nat → Value) ,  f' 6 = .slice none 0 0 → (∀ j ∈ [2, 3, 4, 5], f' j = f j) → K0 (Fm 263 f') w) :
    Code.wp Tryd.prog r10Code (Only K0) (Fm 263 f) w := by
  have e : Fm 263 f = ⟨#[f 0, f 1, f 2, f 3, f 4, f 5, f 6, f 7, f 8, f 9, f 10, f 11, f 12, f 13, f 14, f 15, f 16, f 17, f 18, f 19, f 20, f 21, f 22, f 23, f 24, f 25, f 26, f 27, f 28, f 29, f 30, f 31, f 32, f 33, f 34, f 35, f 36, f 37, f 38, f 39, f 40, f 41, f 42, f 43, f 44, f 45, f 46, f 47, f 48, f 49, f 50, f 51, f 52, f 53, f 54, f 55, f 56, f 57, f 58, f 59, f 60, f 61, f 62, f 63, f 64, f 65, f 66, f 67, f 68, f 69, f 70, f 71, f 72, f 73, f 74, f 75, f 76, f 77, f 78, f 79, f 80, f 81, f 82, f 83, f 84, f 85, f 86, f 87, f 88, f 89, f 90, f 91, f 92, f 93, f 94, f 95, f 96, f 97, f 98, f 99, f 100, f 101, f 102, f 103, f 104, f 105, f 106, f 107, f 108, f 109, f 110, f 111, f 112, f 113, f 114, f 115, f 116, f 117, f 118, f 119, f 120, f 121, f 122, f 123, f 124, f 125, f 126, f 127, f 128, f 129, f 130, f 131, f 132, f 133, f 134, f 135, f 136, f 137, f 138, f 139, f 140, f 141, f 142, f 143, f 144, f 145, f 146, f 147, f 148, f 149, f 150, f 151, f 152, f 153, f 154, f 155, f 156, f 157, f 158, f 159, f 160, f 161, f 162, f 163, f 164, f 165, f 166, f 167, f 168, f 169, f 170, f 171, f 172, f 173, f 174, f 175, f 176, f 177, f 178, f 179, f 180, f 181, f 182, f 183, f 184, f 185, f 186, f 187, f 188, f 189, f 190, f 191, f 192, f 193, f 194, f 195, f 196, f 197, f 198, f 199, f 200, f 201, f 202, f 203, f 204, f 205, f 206, f 207, f 208, f 209, f 210, f 211, f 212, f 213, f 214, f 215, f 216, f 217, f 218, f 219, f 220, f 221, f 222, f 223, f 224, f 225, f 226, f 227, f 228, f 229, f 230, f 231, f 232, f 233, f 234, f 235, f 236, f 237, f 238, f 239, f 240, f 241, f 242, f 243, f 244, f 245, f 246, f 247, f 248, f 249, f 250, f 251, f 252, f 253, f 254, f 255, f 256, f 257, f 258, f 259, f 260, f 261, f 262], []⟩ := (congrArg (Fm 263) (ov_self f _ hf)).symm.trans rfl
  rw [e]
  have HQ : ∀ (L : List Value) , L.length = 263 →  L.getD 6 undef = .slice none 0 0 → (∀ j ∈ [2, 3, 4, 5], L.getD j undef = f j) → K0 ⟨L.toArray, []⟩ w := fun L  hl  e6 hk => by
    rw [Fm_of L 263 hl]
    exact hQ _   e6 hk
  have HQ := Lib.hid HQ
  have HFF := Lib.hid hf
  clear hQ hf e
  conv => arg 2; whnf
  go_wp2
  refine HQ.out _  rfl  rfl (fun j hj => ?_)
  simp only [List.mem_cons, List.not_mem_nil, or_false] at hj
  rcases hj with rfl | rfl | rfl | rfl
  · rfl
  · rfl
  · rfl
  · rfl
noncomputable def r11Code : Code := ((Tryd.f22.body.bind (oneRegion 11)).getD .skip)
set_option maxHeartbeats 4000000 in
set_option maxRecDepth 1000000 in
theorem r11  (f : Nat → Value) (hf : ∀ p ∈ ([] : List (Nat × Value)), f p.1 = p.2) (w : World) (K0 : Act → World → Prop) 
    (hQ : ∀ (f' : Nat → Value) ,  f' 7 = .int .i64 0 → (∀ j ∈ [2, 3, 4, 5, 6], f' j = f j) → K0 (Fm 263 f') w) :
    Code.wp Tryd.prog r11Code (Only K0) (Fm 263 f) w := by
  have e : Fm 263 f = ⟨#[f 0, f 1, f 2, f 3, f 4, f 5, f 6, f 7, f 8, f 9, f 10, f 11, f 12, f 13, f 14, f 15, f 16, f 17, f 18, f 19, f 20, f 21, f 22, f 23, f 24, f 25, f 26, f 27, f 28, f 29, f 30, f 31, f 32, f 33, f 34, f 35, f 36, f 37, f 38, f 39, f 40, f 41, f 42, f 43, f 44, f 45, f 46, f 47, f 48, f 49, f 50, f 51, f 52, f 53, f 54, f 55, f 56, f 57, f 58, f 59, f 60, f 61, f 62, f 63, f 64, f 65, f 66, f 67, f 68, f 69, f 70, f 71, f 72, f 73, f 74, f 75, f 76, f 77, f 78, f 79, f 80, f 81, f 82, f 83, f 84, f 85, f 86, f 87, f 88, f 89, f 90, f 91, f 92, f 93, f 94, f 95, f 96, f 97, f 98, f 99, f 100, f 101, f 102, f 103, f 104, f 105, f 106, f 107, f 108, f 109, f 110, f 111, f 112, f 113, f 114, f 115, f 116, f 117, f 118, f 119, f 120, f 121, f 122, f 123, f 124, f 125, f 126, f 127, f 128, f 129, f 130, f 131, f 132, f 133, f 134, f 135, f 136, f 137, f 138, f 139, f 140, f 141, f 142, f 143, f 144, f 145, f 146, f 147, f 148, f 149, f 150, f 151, f 152, f 153, f 154, f 155, f 156, f 157, f 158, f 159, f 160, f 161, f 162, f 163, f 164, f 165, f 166, f 167, f 168, f 169, f 170, f 171, f 172, f 173, f 174, f 175, f 176, f 177, f 178, f 179, f 180, f 181, f 182, f 183, f 184, f 185, f 186, f 187, f 188, f 189, f 190, f 191, f 192, f 193, f 194, f 195, f 196, f 197, f 198, f 199, f 200, f 201, f 202, f 203, f 204, f 205, f 206, f 207, f 208, f 209, f 210, f 211, f 212, f 213, f 214, f 215, f 216, f 217, f 218, f 219, f 220, f 221, f 222, f 223, f 224, f 225, f 226, f 227, f 228, f 229, f 230, f 231, f 232, f 233, f 234, f 235, f 236, f 237, f 238, f 239, f 240, f 241, f 242, f 243, f 244, f 245, f 246, f 247, f 248, f 249, f 250, f 251, f 252, f 253, f 254, f 255, f 256, f 257, f 258, f 259, f 260, f 261, f 262], []⟩ := (congrArg (Fm 263) (ov_self f _ hf)).symm.trans rfl
  rw [e]
  have HQ : ∀ (L : List Value) , L.length = 263 →  L.getD 7 undef = .int .i64 0 → (∀ j ∈ [2, 3, 4, 5, 6], L.getD j undef = f j) → K0 ⟨L.toArray, []⟩ w := fun L  hl  e7 hk => by
    rw [Fm_of L 263 hl]
    exact hQ _   e7 hk
  have HQ := Lib.hid HQ
  have HFF := Lib.hid hf
  clear hQ hf e
  conv => arg 2; whnf
  go_wp2
  refine HQ.out _  rfl  rfl (fun j hj => ?_)
  simp only [List.mem_cons, List.not_mem_nil, or_false] at hj
  rcases hj with rfl | rfl | rfl | rfl | rfl
  · rfl
  · rfl
  · rfl
  · rfl
  · rfl
noncomputable def r12Code : Code := ((Tryd.f22.body.bind (oneRegion 12)).getD .skip)
set_option maxHeartbeats 4000000 in
set_option maxRecDepth 1000000 in
theorem r12 (k : Nat) (hk : k ≤ 16) (f : Nat → Value) (hf : ∀ p ∈ ([(7, (.int .i64 (k : Int)))] : List (Nat × Value)), f p.1 = p.2) (w : World) (K0 : Act → World → Prop) 
    (hQ : ∀ (f' : Nat → Value) ,  f' 55 = .bool (decide ((k : Int) < 16)) → (∀ j ∈ [2, 3, 4, 5, 6, 7], f' j = f j) → K0 (Fm 263 f') w) :
    Code.wp Tryd.prog r12Code (Only K0) (Fm 263 f) w := by
  have e : Fm 263 f = ⟨#[f 0, f 1, f 2, f 3, f 4, f 5, f 6, (.int .i64 (k : Int)), f 8, f 9, f 10, f 11, f 12, f 13, f 14, f 15, f 16, f 17, f 18, f 19, f 20, f 21, f 22, f 23, f 24, f 25, f 26, f 27, f 28, f 29, f 30, f 31, f 32, f 33, f 34, f 35, f 36, f 37, f 38, f 39, f 40, f 41, f 42, f 43, f 44, f 45, f 46, f 47, f 48, f 49, f 50, f 51, f 52, f 53, f 54, f 55, f 56, f 57, f 58, f 59, f 60, f 61, f 62, f 63, f 64, f 65, f 66, f 67, f 68, f 69, f 70, f 71, f 72, f 73, f 74, f 75, f 76, f 77, f 78, f 79, f 80, f 81, f 82, f 83, f 84, f 85, f 86, f 87, f 88, f 89, f 90, f 91, f 92, f 93, f 94, f 95, f 96, f 97, f 98, f 99, f 100, f 101, f 102, f 103, f 104, f 105, f 106, f 107, f 108, f 109, f 110, f 111, f 112, f 113, f 114, f 115, f 116, f 117, f 118, f 119, f 120, f 121, f 122, f 123, f 124, f 125, f 126, f 127, f 128, f 129, f 130, f 131, f 132, f 133, f 134, f 135, f 136, f 137, f 138, f 139, f 140, f 141, f 142, f 143, f 144, f 145, f 146, f 147, f 148, f 149, f 150, f 151, f 152, f 153, f 154, f 155, f 156, f 157, f 158, f 159, f 160, f 161, f 162, f 163, f 164, f 165, f 166, f 167, f 168, f 169, f 170, f 171, f 172, f 173, f 174, f 175, f 176, f 177, f 178, f 179, f 180, f 181, f 182, f 183, f 184, f 185, f 186, f 187, f 188, f 189, f 190, f 191, f 192, f 193, f 194, f 195, f 196, f 197, f 198, f 199, f 200, f 201, f 202, f 203, f 204, f 205, f 206, f 207, f 208, f 209, f 210, f 211, f 212, f 213, f 214, f 215, f 216, f 217, f 218, f 219, f 220, f 221, f 222, f 223, f 224, f 225, f 226, f 227, f 228, f 229, f 230, f 231, f 232, f 233, f 234, f 235, f 236, f 237, f 238, f 239, f 240, f 241, f 242, f 243, f 244, f 245, f 246, f 247, f 248, f 249, f 250, f 251, f 252, f 253, f 254, f 255, f 256, f 257, f 258, f 259, f 260, f 261, f 262], []⟩ := (congrArg (Fm 263) (ov_self f _ hf)).symm.trans rfl
  rw [e]
  have HQ : ∀ (L : List Value) , L.length = 263 →  L.getD 55 undef = .bool (decide ((k : Int) < 16)) → (∀ j ∈ [2, 3, 4, 5, 6, 7], L.getD j undef = f j) → K0 ⟨L.toArray, []⟩ w := fun L  hl  e55 hk => by
    rw [Fm_of L 263 hl]
    exact hQ _   e55 hk
  have HQ := Lib.hid HQ
  have HFF := Lib.hid hf
  clear hQ hf e
  conv => arg 2; whnf
  go_wp2
  refine HQ.out _  rfl  rfl (fun j hj => ?_)
  simp only [List.mem_cons, List.not_mem_nil, or_false] at hj
  rcases hj with rfl | rfl | rfl | rfl | rfl | rfl
  · rfl
  · rfl
  · rfl
  · rfl
  · rfl
  · exact (HFF.out (7, (.int .i64 (k : Int))) (by simp)).symm
noncomputable def r13Code : Code := ((Tryd.f22.body.bind (oneRegion 13)).getD .skip)
set_option maxHeartbeats 4000000 in
set_option maxRecDepth 1000000 in
theorem r13 (k : Nat) (hk : k < 16) (f : Nat → Value) (hf : ∀ p ∈ ([(7, (.int .i64 (k : Int)))] : List (Nat × Value)), f p.1 = p.2) (w : World) (K0 : Act → World → Prop) 
    (hQ : ∀ (f' : Nat → Value) ,  f' 7 = .int .i64 ((k : Int) + 1) → (∀ j ∈ [2, 3, 4, 5, 6], f' j = f j) → K0 (Fm 263 f') w) :
    Code.wp Tryd.prog r13Code (Only K0) (Fm 263 f) w := by
  have e : Fm 263 f = ⟨#[f 0, f 1, f 2, f 3, f 4, f 5, f 6, (.int .i64 (k : Int)), f 8, f 9, f 10, f 11, f 12, f 13, f 14, f 15, f 16, f 17, f 18, f 19, f 20, f 21, f 22, f 23, f 24, f 25, f 26, f 27, f 28, f 29, f 30, f 31, f 32, f 33, f 34, f 35, f 36, f 37, f 38, f 39, f 40, f 41, f 42, f 43, f 44, f 45, f 46, f 47, f 48, f 49, f 50, f 51, f 52, f 53, f 54, f 55, f 56, f 57, f 58, f 59, f 60, f 61, f 62, f 63, f 64, f 65, f 66, f 67, f 68, f 69, f 70, f 71, f 72, f 73, f 74, f 75, f 76, f 77, f 78, f 79, f 80, f 81, f 82, f 83, f 84, f 85, f 86, f 87, f 88, f 89, f 90, f 91, f 92, f 93, f 94, f 95, f 96, f 97, f 98, f 99, f 100, f 101, f 102, f 103, f 104, f 105, f 106, f 107, f 108, f 109, f 110, f 111, f 112, f 113, f 114, f 115, f 116, f 117, f 118, f 119, f 120, f 121, f 122, f 123, f 124, f 125, f 126, f 127, f 128, f 129, f 130, f 131, f 132, f 133, f 134, f 135, f 136, f 137, f 138, f 139, f 140, f 141, f 142, f 143, f 144, f 145, f 146, f 147, f 148, f 149, f 150, f 151, f 152, f 153, f 154, f 155, f 156, f 157, f 158, f 159, f 160, f 161, f 162, f 163, f 164, f 165, f 166, f 167, f 168, f 169, f 170, f 171, f 172, f 173, f 174, f 175, f 176, f 177, f 178, f 179, f 180, f 181, f 182, f 183, f 184, f 185, f 186, f 187, f 188, f 189, f 190, f 191, f 192, f 193, f 194, f 195, f 196, f 197, f 198, f 199, f 200, f 201, f 202, f 203, f 204, f 205, f 206, f 207, f 208, f 209, f 210, f 211, f 212, f 213, f 214, f 215, f 216, f 217, f 218, f 219, f 220, f 221, f 222, f 223, f 224, f 225, f 226, f 227, f 228, f 229, f 230, f 231, f 232, f 233, f 234, f 235, f 236, f 237, f 238, f 239, f 240, f 241, f 242, f 243, f 244, f 245, f 246, f 247, f 248, f 249, f 250, f 251, f 252, f 253, f 254, f 255, f 256, f 257, f 258, f 259, f 260, f 261, f 262], []⟩ := (congrArg (Fm 263) (ov_self f _ hf)).symm.trans rfl
  rw [e]
  have HQ : ∀ (L : List Value) , L.length = 263 →  L.getD 7 undef = .int .i64 ((k : Int) + 1) → (∀ j ∈ [2, 3, 4, 5, 6], L.getD j undef = f j) → K0 ⟨L.toArray, []⟩ w := fun L  hl  e7 hk => by
    rw [Fm_of L 263 hl]
    exact hQ _   e7 hk
  have HQ := Lib.hid HQ
  have HFF := Lib.hid hf
  clear hQ hf e
  conv => arg 2; whnf
  go_wp2
  refine HQ.out _  rfl  rfl (fun j hj => ?_)
  simp only [List.mem_cons, List.not_mem_nil, or_false] at hj
  rcases hj with rfl | rfl | rfl | rfl | rfl
  · rfl
  · rfl
  · rfl
  · rfl
  · rfl
noncomputable def r16Code : Code := ((Tryd.f22.body.bind (oneRegion 16)).getD .skip)
set_option maxHeartbeats 4000000 in
set_option maxRecDepth 1000000 in
theorem r16  (f : Nat → Value) (hf : ∀ p ∈ ([] : List (Nat × Value)), f p.1 = p.2) (w : World) (K0 : Act → World → Prop) 
    (hQ : ∀ (f' : Nat → Value) ,  f' 16 = .int .i64 0 → (∀ j ∈ [2, 3, 4, 5, 6, 7, 8, 9, 10, 11, 12, 13, 14, 15], f' j = f j) → K0 (Fm 263 f') w) :
    Code.wp Tryd.prog r16Code (Only K0) (Fm 263 f) w := by
  have e : Fm 263 f = ⟨#[f 0, f 1, f 2, f 3, f 4, f 5, f 6, f 7, f 8, f 9, f 10, f 11, f 12, f 13, f 14, f 15, f 16, f 17, f 18, f 19, f 20, f 21, f 22, f 23, f 24, f 25, f 26, f 27, f 28, f 29, f 30, f 31, f 32, f 33, f 34, f 35, f 36, f 37, f 38, f 39, f 40, f 41, f 42, f 43, f 44, f 45, f 46, f 47, f 48, f 49, f 50, f 51, f 52, f 53, f 54, f 55, f 56, f 57, f 58, f 59, f 60, f 61, f 62, f 63, f 64, f 65, f 66, f 67, f 68, f 69, f 70, f 71, f 72, f 73, f 74, f 75, f 76, f 77, f 78, f 79, f 80, f 81, f 82, f 83, f 84, f 85, f 86, f 87, f 88, f 89, f 90, f 91, f 92, f 93, f 94, f 95, f 96, f 97, f 98, f 99, f 100, f 101, f 102, f 103, f 104, f 105, f 106, f 107, f 108, f 109, f 110, f 111, f 112, f 113, f 114, f 115, f 116, f 117, f 118, f 119, f 120, f 121, f 122, f 123, f 124, f 125, f 126, f 127, f 128, f 129, f 130, f 131, f 132, f 133, f 134, f 135, f 136, f 137, f 138, f 139, f 140, f 141, f 142, f 143, f 144, f 145, f 146, f 147, f 148, f 149, f 150, f 151, f 152, f 153, f 154, f 155, f 156, f 157, f 158, f 159, f 160, f 161, f 162, f 163, f 164, f 165, f 166, f 167, f 168, f 169, f 170, f 171, f 172, f 173, f 174, f 175, f 176, f 177, f 178, f 179, f 180, f 181, f 182, f 183, f 184, f 185, f 186, f 187, f 188, f 189, f 190, f 191, f 192, f 193, f 194, f 195, f 196, f 197, f 198, f 199, f 200, f 201, f 202, f 203, f 204, f 205, f 206, f 207, f 208, f 209, f 210, f 211, f 212, f 213, f 214, f 215, f 216, f 217, f 218, f 219, f 220, f 221, f 222, f 223, f 224, f 225, f 226, f 227, f 228, f 229, f 230, f 231, f 232, f 233, f 234, f 235, f 236, f 237, f 238, f 239, f 240, f 241, f 242, f 243, f 244, f 245, f 246, f 247, f 248, f 249, f 250, f 251, f 252, f 253, f 254, f 255, f 256, f 257, f 258, f 259, f 260, f 261, f 262], []⟩ := (congrArg (Fm 263) (ov_self f _ hf)).symm.trans rfl
  rw [e]
  have HQ : ∀ (L : List Value) , L.length = 263 →  L.getD 16 undef = .int .i64 0 → (∀ j ∈ [2, 3, 4, 5, 6, 7, 8, 9, 10, 11, 12, 13, 14, 15], L.getD j undef = f j) → K0 ⟨L.toArray, []⟩ w := fun L  hl  e16 hk => by
    rw [Fm_of L 263 hl]
    exact hQ _   e16 hk
  have HQ := Lib.hid HQ
  have HFF := Lib.hid hf
  clear hQ hf e
  conv => arg 2; whnf
  go_wp2
  refine HQ.out _  rfl  rfl (fun j hj => ?_)
  simp only [List.mem_cons, List.not_mem_nil, or_false] at hj
  rcases hj with rfl | rfl | rfl | rfl | rfl | rfl | rfl | rfl | rfl | rfl | rfl | rfl | rfl | rfl
  · rfl
  · rfl
  · rfl
  · rfl
  · rfl
  · rfl
  · rfl
  · rfl
  · rfl
  · rfl
  · rfl
  · rfl
  · rfl
  · rfl
noncomputable def r29Code : Code := ((Tryd.f22.body.bind (oneRegion 29)).getD .skip)
set_option maxHeartbeats 4000000 in
set_option maxRecDepth 1000000 in
theorem r29  (f : Nat → Value) (hf : ∀ p ∈ ([] : List (Nat × Value)), f p.1 = p.2) (w : World) (K0 : Act → World → Prop) 
    (hQ : ∀ (f' : Nat → Value) ,  f' 24 = .int .i64 0 → (∀ j ∈ [2, 3, 4, 5, 23], f' j = f j) → K0 (Fm 263 f') w) :
    Code.wp Tryd.prog r29Code (Only K0) (Fm 263 f) w := by
  have e : Fm 263 f = ⟨#[f 0, f 1, f 2, f 3, f 4, f 5, f 6, f 7, f 8, f 9, f 10, f 11, f 12, f 13, f 14, f 15, f 16, f 17, f 18, f 19, f 20, f 21, f 22, f 23, f 24, f 25, f 26, f 27, f 28, f 29, f 30, f 31, f 32, f 33, f 34, f 35, f 36, f 37, f 38, f 39, f 40, f 41, f 42, f 43, f 44, f 45, f 46, f 47, f 48, f 49, f 50, f 51, f 52, f 53, f 54, f 55, f 56, f 57, f 58, f 59, f 60, f 61, f 62, f 63, f 64, f 65, f 66, f 67, f 68, f 69, f 70, f 71, f 72, f 73, f 74, f 75, f 76, f 77, f 78, f 79, f 80, f 81, f 82, f 83, f 84, f 85, f 86, f 87, f 88, f 89, f 90, f 91, f 92, f 93, f 94, f 95, f 96, f 97, f 98, f 99, f 100, f 101, f 102, f 103, f 104, f 105, f 106, f 107, f 108, f 109, f 110, f 111, f 112, f 113, f 114, f 115, f 116, f 117, f 118, f 119, f 120, f 121, f 122, f 123, f 124, f 125, f 126, f 127, f 128, f 129, f 130, f 131, f 132, f 133, f 134, f 135, f 136, f 137, f 138, f 139, f 140, f 141, f 142, f 143, f 144, f 145, f 146, f 147, f 148, f 149, f 150, f 151, f 152, f 153, f 154, f 155, f 156, f 157, f 158, f 159, f 160, f 161, f 162, f 163, f 164, f 165, f 166, f 167, f 168, f 169, f 170, f 171, f 172, f 173, f 174, f 175, f 176, f 177, f 178, f 179, f 180, f 181, f 182, f 183, f 184, f 185, f 186, f 187, f 188, f 189, f 190, f 191, f 192, f 193, f 194, f 195, f 196, f 197, f 198, f 199, f 200, f 201, f 202, f 203, f 204, f 205, f 206, f 207, f 208, f 209, f 210, f 211, f 212, f 213, f 214, f 215, f 216, f 217, f 218, f 219, f 220, f 221, f 222, f 223, f 224, f 225, f 226, f 227, f 228, f 229, f 230, f 231, f 232, f 233, f 234, f 235, f 236, f 237, f 238, f 239, f 240, f 241, f 242, f 243, f 244, f 245, f 246, f 247, f 248, f 249, f 250, f 251, f 252, f 253, f 254, f 255, f 256, f 257, f 258, f 259, f 260, f 261, f 262], []⟩ := (congrArg (Fm 263) (ov_self f _ hf)).symm.trans rfl
  rw [e]
  have HQ : ∀ (L : List Value) , L.length = 263 →  L.getD 24 undef = .int .i64 0 → (∀ j ∈ [2, 3, 4, 5, 23], L.getD j undef = f j) → K0 ⟨L.toArray, []⟩ w := fun L  hl  e24 hk => by
    rw [Fm_of L 263 hl]
    exact hQ _   e24 hk
  have HQ := Lib.hid HQ
  have HFF := Lib.hid hf
  clear hQ hf e
  conv => arg 2; whnf
  go_wp2
  refine HQ.out _  rfl  rfl (fun j hj => ?_)
  simp only [List.mem_cons, List.not_mem_nil, or_false] at hj
  rcases hj with rfl | rfl | rfl | rfl | rfl
  · rfl
  · rfl
  · rfl
  · rfl
  · rfl
noncomputable def r30Code : Code := ((Tryd.f22.body.bind (oneRegion 30)).getD .skip)
set_option maxHeartbeats 4000000 in
set_option maxRecDepth 1000000 in
theorem r30 (k : Nat) (hk : k ≤ 8) (f : Nat → Value) (hf : ∀ p ∈ ([(24, (.int .i64 (k : Int)))] : List (Nat × Value)), f p.1 = p.2) (w : World) (K0 : Act → World → Prop) 
    (hQ : ∀ (f' : Nat → Value) ,  f' 233 = .bool (decide ((k : Int) < 8)) → (∀ j ∈ [2, 3, 4, 5, 23, 24], f' j = f j) → K0 (Fm 263 f') w) :
    Code.wp Tryd.prog r30Code (Only K0) (Fm 263 f) w := by
  have e : Fm 263 f = ⟨#[f 0, f 1, f 2, f 3, f 4, f 5, f 6, f 7, f 8, f 9, f 10, f 11, f 12, f 13, f 14, f 15, f 16, f 17, f 18, f 19, f 20, f 21, f 22, f 23, (.int .i64 (k : Int)), f 25, f 26, f 27, f 28, f 29, f 30, f 31, f 32, f 33, f 34, f 35, f 36, f 37, f 38, f 39, f 40, f 41, f 42, f 43, f 44, f 45, f 46, f 47, f 48, f 49, f 50, f 51, f 52, f 53, f 54, f 55, f 56, f 57, f 58, f 59, f 60, f 61, f 62, f 63, f 64, f 65, f 66, f 67, f 68, f 69, f 70, f 71, f 72, f 73, f 74, f 75, f 76, f 77, f 78, f 79, f 80, f 81, f 82, f 83, f 84, f 85, f 86, f 87, f 88, f 89, f 90, f 91, f 92, f 93, f 94, f 95, f 96, f 97, f 98, f 99, f 100, f 101, f 102, f 103, f 104, f 105, f 106, f 107, f 108, f 109, f 110, f 111, f 112, f 113, f 114, f 115, f 116, f 117, f 118, f 119, f 120, f 121, f 122, f 123, f 124, f 125, f 126, f 127, f 128, f 129, f 130, f 131, f 132, f 133, f 134, f 135, f 136, f 137, f 138, f 139, f 140, f 141, f 142, f 143, f 144, f 145, f 146, f 147, f 148, f 149, f 150, f 151, f 152, f 153, f 154, f 155, f 156, f 157, f 158, f 159, f 160, f 161, f 162, f 163, f 164, f 165, f 166, f 167, f 168, f 169, f 170, f 171, f 172, f 173, f 174, f 175, f 176, f 177, f 178, f 179, f 180, f 181, f 182, f 183, f 184, f 185, f 186, f 187, f 188, f 189, f 190, f 191, f 192, f 193, f 194, f 195, f 196, f 197, f 198, f 199, f 200, f 201, f 202, f 203, f 204, f 205, f 206, f 207, f 208, f 209, f 210, f 211, f 212, f 213, f 214, f 215, f 216, f 217, f 218, f 219, f 220, f 221, f 222, f 223, f 224, f 225, f 226, f 227, f 228, f 229, f 230, f 231, f 232, f 233, f 234, f 235, f 236, f 237, f 238, f 239, f 240, f 241, f 242, f 243, f 244, f 245, f 246, f 247, f 248, f 249, f 250, f 251, f 252, f 253, f 254, f 255, f 256, f 257, f 258, f 259, f 260, f 261, f 262], []⟩ := (congrArg (Fm 263) (ov_self f _ hf)).symm.trans rfl
  rw [e]
  have HQ : ∀ (L : List Value) , L.length = 263 →  L.getD 233 undef = .bool (decide ((k : Int) < 8)) → (∀ j ∈ [2, 3, 4, 5, 23, 24], L.getD j undef = f j) → K0 ⟨L.toArray, []⟩ w := fun L  hl  e233 hk => by
    rw [Fm_of L 263 hl]
    exact hQ _   e233 hk
  have HQ := Lib.hid HQ
  have HFF := Lib.hid hf
  clear hQ hf e
  conv => arg 2; whnf
  go_wp2
  refine HQ.out _  rfl  rfl (fun j hj => ?_)
  simp only [List.mem_cons, List.not_mem_nil, or_false] at hj
  rcases hj with rfl | rfl | rfl | rfl | rfl | rfl
  · rfl
  · rfl
  · rfl
  · rfl
  · rfl
  · exact (HFF.out (24, (.int .i64 (k : Int))) (by simp)).symm
noncomputable def r31Code : Code := ((Tryd.f22.body.bind (oneRegion 31)).getD .skip)
set_option maxHeartbeats 4000000 in
set_option maxRecDepth 1000000 in
theorem r31 (k : Nat) (hk : k < 8) (f : Nat → Value) (hf : ∀ p ∈ ([(24, (.int .i64 (k : Int)))] : List (Nat × Value)), f p.1 = p.2) (w : World) (K0 : Act → World → Prop) 
    (hQ : ∀ (f' : Nat → Value) ,  f' 24 = .int .i64 ((k : Int) + 1) → (∀ j ∈ [2, 3, 4, 5, 23], f' j = f j) → K0 (Fm 263 f') w) :
    Code.wp Tryd.prog r31Code (Only K0) (Fm 263 f) w := by
  have e : Fm 263 f = ⟨#[f 0, f 1, f 2, f 3, f 4, f 5, f 6, f 7, f 8, f 9, f 10, f 11, f 12, f 13, f 14, f 15, f 16, f 17, f 18, f 19, f 20, f 21, f 22, f 23, (.int .i64 (k : Int)), f 25, f 26, f 27, f 28, f 29, f 30, f 31, f 32, f 33, f 34, f 35, f 36, f 37, f 38, f 39, f 40, f 41, f 42, f 43, f 44, f 45, f 46, f 47, f 48, f 49, f 50, f 51, f 52, f 53, f 54, f 55, f 56, f 57, f 58, f 59, f 60, f 61, f 62, f 63, f 64, f 65, f 66, f 67, f 68, f 69, f 70, f 71, f 72, f 73, f 74, f 75, f 76, f 77, f 78, f 79, f 80, f 81, f 82, f 83, f 84, f 85, f 86, f 87, f 88, f 89, f 90, f 91, f 92, f 93, f 94, f 95, f 96, f 97, f 98, f 99, f 100, f 101, f 102, f 103, f 104, f 105, f 106, f 107, f 108, f 109, f 110, f 111, f 112, f 113, f 114, f 115, f 116, f 117, f 118, f 119, f 120, f 121, f 122, f 123, f 124, f 125, f 126, f 127, f 128, f 129, f 130, f 131, f 132, f 133, f 134, f 135, f 136, f 137, f 138, f 139, f 140, f 141, f 142, f 143, f 144, f 145, f 146, f 147, f 148, f 149, f 150, f 151, f 152, f 153, f 154, f 155, f 156, f 157, f 158, f 159, f 160, f 161, f 162, f 163, f 164, f 165, f 166, f 167, f 168, f 169, f 170, f 171, f 172, f 173, f 174, f 175, f 176, f 177, f 178, f 179, f 180, f 181, f 182, f 183, f 184, f 185, f 186, f 187, f 188, f 189, f 190, f 191, f 192, f 193, f 194, f 195, f 196, f 197, f 198, f 199, f 200, f 201, f 202, f 203, f 204, f 205, f 206, f 207, f 208, f 209, f 210, f 211, f 212, f 213, f 214, f 215, f 216, f 217, f 218, f 219, f 220, f 221, f 222, f 223, f 224, f 225, f 226, f 227, f 228, f 229, f 230, f 231, f 232, f 233, f 234, f 235, f 236, f 237, f 238, f 239, f 240, f 241, f 242, f 243, f 244, f 245, f 246, f 247, f 248, f 249, f 250, f 251, f 252, f 253, f 254, f 255, f 256, f 257, f 258, f 259, f 260, f 261, f 262], []⟩ := (congrArg (Fm 263) (ov_self f _ hf)).symm.trans rfl
  rw [e]
  have HQ : ∀ (L : List Value) , L.length = 263 →  L.getD 24 undef = .int .i64 ((k : Int) + 1) → (∀ j ∈ [2, 3, 4, 5, 23], L.getD j undef = f j) → K0 ⟨L.toArray, []⟩ w := fun L  hl  e24 hk => by
    rw [Fm_of L 263 hl]
    exact hQ _   e24 hk
  have HQ := Lib.hid HQ
  have HFF := Lib.hid hf
  clear hQ hf e
  conv => arg 2; whnf
  go_wp2
  refine HQ.out _  rfl  rfl (fun j hj => ?_)
  simp only [List.mem_cons, List.not_mem_nil, or_false] at hj
  rcases hj with rfl | rfl | rfl | rfl | rfl
  · rfl
  · rfl
  · rfl
  · rfl
  · rfl
noncomputable def r9Code : Code := ((Tryd.f22.body.bind (oneRegion 9)).getD .skip)
set_option maxHeartbeats 4000000 in
set_option maxRecDepth 1000000 in
theorem r9 (at_ : Nat) (h5 : at_ ≤ 4194304) (f : Nat → Value) (hf : ∀ p ∈ ([(5, (.int .i64 (at_ : Int)))] : List (Nat × Value)), f p.1 = p.2) (w : World) (K0 : Act → World → Prop) 
    (hQ : ∀ (f' : Nat → Value) ,  f' 5 = .int .i64 ((at_ : Int) + 64) → (∀ j ∈ [2, 3, 4], f' j = f j) → K0 (Fm 263 f') w) :
    Code.wp Tryd.prog r9Code (Only K0) (Fm 263 f) w := by
  have e : Fm 263 f = ⟨#[f 0, f 1, f 2, f 3, f 4, (.int .i64 (at_ : Int)), f 6, f 7, f 8, f 9, f 10, f 11, f 12, f 13, f 14, f 15, f 16, f 17, f 18, f 19, f 20, f 21, f 22, f 23, f 24, f 25, f 26, f 27, f 28, f 29, f 30, f 31, f 32, f 33, f 34, f 35, f 36, f 37, f 38, f 39, f 40, f 41, f 42, f 43, f 44, f 45, f 46, f 47, f 48, f 49, f 50, f 51, f 52, f 53, f 54, f 55, f 56, f 57, f 58, f 59, f 60, f 61, f 62, f 63, f 64, f 65, f 66, f 67, f 68, f 69, f 70, f 71, f 72, f 73, f 74, f 75, f 76, f 77, f 78, f 79, f 80, f 81, f 82, f 83, f 84, f 85, f 86, f 87, f 88, f 89, f 90, f 91, f 92, f 93, f 94, f 95, f 96, f 97, f 98, f 99, f 100, f 101, f 102, f 103, f 104, f 105, f 106, f 107, f 108, f 109, f 110, f 111, f 112, f 113, f 114, f 115, f 116, f 117, f 118, f 119, f 120, f 121, f 122, f 123, f 124, f 125, f 126, f 127, f 128, f 129, f 130, f 131, f 132, f 133, f 134, f 135, f 136, f 137, f 138, f 139, f 140, f 141, f 142, f 143, f 144, f 145, f 146, f 147, f 148, f 149, f 150, f 151, f 152, f 153, f 154, f 155, f 156, f 157, f 158, f 159, f 160, f 161, f 162, f 163, f 164, f 165, f 166, f 167, f 168, f 169, f 170, f 171, f 172, f 173, f 174, f 175, f 176, f 177, f 178, f 179, f 180, f 181, f 182, f 183, f 184, f 185, f 186, f 187, f 188, f 189, f 190, f 191, f 192, f 193, f 194, f 195, f 196, f 197, f 198, f 199, f 200, f 201, f 202, f 203, f 204, f 205, f 206, f 207, f 208, f 209, f 210, f 211, f 212, f 213, f 214, f 215, f 216, f 217, f 218, f 219, f 220, f 221, f 222, f 223, f 224, f 225, f 226, f 227, f 228, f 229, f 230, f 231, f 232, f 233, f 234, f 235, f 236, f 237, f 238, f 239, f 240, f 241, f 242, f 243, f 244, f 245, f 246, f 247, f 248, f 249, f 250, f 251, f 252, f 253, f 254, f 255, f 256, f 257, f 258, f 259, f 260, f 261, f 262], []⟩ := (congrArg (Fm 263) (ov_self f _ hf)).symm.trans rfl
  rw [e]
  have HQ : ∀ (L : List Value) , L.length = 263 →  L.getD 5 undef = .int .i64 ((at_ : Int) + 64) → (∀ j ∈ [2, 3, 4], L.getD j undef = f j) → K0 ⟨L.toArray, []⟩ w := fun L  hl  e5 hk => by
    rw [Fm_of L 263 hl]
    exact hQ _   e5 hk
  have HQ := Lib.hid HQ
  have HFF := Lib.hid hf
  clear hQ hf e
  conv => arg 2; whnf
  go_wp2
  refine HQ.out _  rfl  rfl (fun j hj => ?_)
  simp only [List.mem_cons, List.not_mem_nil, or_false] at hj
  rcases hj with rfl | rfl | rfl
  · rfl
  · rfl
  · rfl
noncomputable def r15Code : Code := ((Tryd.f22.body.bind (oneRegion 15)).getD .skip)
set_option maxHeartbeats 4000000 in
set_option maxRecDepth 1000000 in
theorem r15 (S : Nat) (ta tb tc td te tf tg th : Int) (f : Nat → Value) (hf : ∀ p ∈ ([(3, (.slice (some ⟨S, 0, none⟩) 8 8))] : List (Nat × Value)), f p.1 = p.2) (w : World) (K0 : Act → World → Prop) (c0 : w.cell? ⟨S, 0, none⟩ = some (.int .u32 ta)) (c1 : w.cell? ⟨S, 1, none⟩ = some (.int .u32 tb)) (c2 : w.cell? ⟨S, 2, none⟩ = some (.int .u32 tc)) (c3 : w.cell? ⟨S, 3, none⟩ = some (.int .u32 td)) (c4 : w.cell? ⟨S, 4, none⟩ = some (.int .u32 te)) (c5 : w.cell? ⟨S, 5, none⟩ = some (.int .u32 tf)) (c6 : w.cell? ⟨S, 6, none⟩ = some (.int .u32 tg)) (c7 : w.cell? ⟨S, 7, none⟩ = some (.int .u32 th))
    (hQ : ∀ (f' : Nat → Value) (m : Nat),  f' 8 = .int .u32 ta → f' 9 = .int .u32 tb → f' 10 = .int .u32 tc → f' 11 = .int .u32 td → f' 12 = .int .u32 te → f' 13 = .int .u32 tf → f' 14 = .int .u32 tg → f' 15 = .int .u32 th → (∀ j ∈ [2, 3, 4, 5, 6], f' j = f j) → K0 (Fm 263 f') (w.drewN m)) :
    Code.wp Tryd.prog r15Code (Only K0) (Fm 263 f) w := by
  have e : Fm 263 f = ⟨#[f 0, f 1, f 2, (.slice (some ⟨S, 0, none⟩) 8 8), f 4, f 5, f 6, f 7, f 8, f 9, f 10, f 11, f 12, f 13, f 14, f 15, f 16, f 17, f 18, f 19, f 20, f 21, f 22, f 23, f 24, f 25, f 26, f 27, f 28, f 29, f 30, f 31, f 32, f 33, f 34, f 35, f 36, f 37, f 38, f 39, f 40, f 41, f 42, f 43, f 44, f 45, f 46, f 47, f 48, f 49, f 50, f 51, f 52, f 53, f 54, f 55, f 56, f 57, f 58, f 59, f 60, f 61, f 62, f 63, f 64, f 65, f 66, f 67, f 68, f 69, f 70, f 71, f 72, f 73, f 74, f 75, f 76, f 77, f 78, f 79, f 80, f 81, f 82, f 83, f 84, f 85, f 86, f 87, f 88, f 89, f 90, f 91, f 92, f 93, f 94, f 95, f 96, f 97, f 98, f 99, f 100, f 101, f 102, f 103, f 104, f 105, f 106, f 107, f 108, f 109, f 110, f 111, f 112, f 113, f 114, f 115, f 116, f 117, f 118, f 119, f 120, f 121, f 122, f 123, f 124, f 125, f 126, f 127, f 128, f 129, f 130, f 131, f 132, f 133, f 134, f 135, f 136, f 137, f 138, f 139, f 140, f 141, f 142, f 143, f 144, f 145, f 146, f 147, f 148, f 149, f 150, f 151, f 152, f 153, f 154, f 155, f 156, f 157, f 158, f 159, f 160, f 161, f 162, f 163, f 164, f 165, f 166, f 167, f 168, f 169, f 170, f 171, f 172, f 173, f 174, f 175, f 176, f 177, f 178, f 179, f 180, f 181, f 182, f 183, f 184, f 185, f 186, f 187, f 188, f 189, f 190, f 191, f 192, f 193, f 194, f 195, f 196, f 197, f 198, f 199, f 200, f 201, f 202, f 203, f 204, f 205, f 206, f 207, f 208, f 209, f 210, f 211, f 212, f 213, f 214, f 215, f 216, f 217, f 218, f 219, f 220, f 221, f 222, f 223, f 224, f 225, f 226, f 227, f 228, f 229, f 230, f 231, f 232, f 233, f 234, f 235, f 236, f 237, f 238, f 239, f 240, f 241, f 242, f 243, f 244, f 245, f 246, f 247, f 248, f 249, f 250, f 251, f 252, f 253, f 254, f 255, f 256, f 257, f 258, f 259, f 260, f 261, f 262], []⟩ := (congrArg (Fm 263) (ov_self f _ hf)).symm.trans rfl
  rw [e]
  have HQ : ∀ (L : List Value) (m : Nat), L.length = 263 →  L.getD 8 undef = .int .u32 ta → L.getD 9 undef = .int .u32 tb → L.getD 10 undef = .int .u32 tc → L.getD 11 undef = .int .u32 td → L.getD 12 undef = .int .u32 te → L.getD 13 undef = .int .u32 tf → L.getD 14 undef = .int .u32 tg → L.getD 15 undef = .int .u32 th → (∀ j ∈ [2, 3, 4, 5, 6], L.getD j undef = f j) → K0 ⟨L.toArray, []⟩ (w.drewN m) := fun L m hl  e8 e9 e10 e11 e12 e13 e14 e15 hk => by
    rw [Fm_of L 263 hl]
    exact hQ _ m  e8 e9 e10 e11 e12 e13 e14 e15 hk
  have HQ := Lib.hid HQ
  have HFF := Lib.hid hf
  clear hQ hf e
  conv => arg 2; whnf
  go_quiet (fail)
  go_wp2_with fail
  refine HQ.out _ _ rfl  rfl rfl rfl rfl rfl rfl rfl rfl (fun j hj => ?_)
  simp only [List.mem_cons, List.not_mem_nil, or_false] at hj
  rcases hj with rfl | rfl | rfl | rfl | rfl
  · rfl
  · exact (HFF.out (3, (.slice (some ⟨S, 0, none⟩) 8 8)) (by simp)).symm
  · rfl
  · rfl
  · rfl
noncomputable def r28Code : Code := ((Tryd.f22.body.bind (oneRegion 28)).getD .skip)
set_option maxHeartbeats 4000000 in
set_option maxRecDepth 1000000 in
theorem r28 (ta tb tc td te tf tg th : Int) (f : Nat → Value) (hf : ∀ p ∈ ([(8, (.int .u32 ta)), (9, (.int .u32 tb)), (10, (.int .u32 tc)), (11, (.int .u32 td)), (12, (.int .u32 te)), (13, (.int .u32 tf)), (14, (.int .u32 tg)), (15, (.int .u32 th))] : List (Nat × Value)), f p.1 = p.2) (w : World) (K0 : Act → World → Prop) 
    (hQ : ∀ (f' : Nat → Value) ,  f' 23 = .slice (some ⟨w.heap.size, 0, none⟩) 8 8 → (∀ j ∈ [2, 3, 4, 5], f' j = f j) → K0 (Fm 263 f') (w.alloc (.cells #[.int .u32 ta, .int .u32 tb, .int .u32 tc, .int .u32 td, .int .u32 te, .int .u32 tf, .int .u32 tg, .int .u32 th] 49))) :
    Code.wp Tryd.prog r28Code (Only K0) (Fm 263 f) w := by
  have e : Fm 263 f = ⟨#[f 0, f 1, f 2, f 3, f 4, f 5, f 6, f 7, (.int .u32 ta), (.int .u32 tb), (.int .u32 tc), (.int .u32 td), (.int .u32 te), (.int .u32 tf), (.int .u32 tg), (.int .u32 th), f 16, f 17, f 18, f 19, f 20, f 21, f 22, f 23, f 24, f 25, f 26, f 27, f 28, f 29, f 30, f 31, f 32, f 33, f 34, f 35, f 36, f 37, f 38, f 39, f 40, f 41, f 42, f 43, f 44, f 45, f 46, f 47, f 48, f 49, f 50, f 51, f 52, f 53, f 54, f 55, f 56, f 57, f 58, f 59, f 60, f 61, f 62, f 63, f 64, f 65, f 66, f 67, f 68, f 69, f 70, f 71, f 72, f 73, f 74, f 75, f 76, f 77, f 78, f 79, f 80, f 81, f 82, f 83, f 84, f 85, f 86, f 87, f 88, f 89, f 90, f 91, f 92, f 93, f 94, f 95, f 96, f 97, f 98, f 99, f 100, f 101, f 102, f 103, f 104, f 105, f 106, f 107, f 108, f 109, f 110, f 111, f 112, f 113, f 114, f 115, f 116, f 117, f 118, f 119, f 120, f 121, f 122, f 123, f 124, f 125, f 126, f 127, f 128, f 129, f 130, f 131, f 132, f 133, f 134, f 135, f 136, f 137, f 138, f 139, f 140, f 141, f 142, f 143, f 144, f 145, f 146, f 147, f 148, f 149, f 150, f 151, f 152, f 153, f 154, f 155, f 156, f 157, f 158, f 159, f 160, f 161, f 162, f 163, f 164, f 165, f 166, f 167, f 168, f 169, f 170, f 171, f 172, f 173, f 174, f 175, f 176, f 177, f 178, f 179, f 180, f 181, f 182, f 183, f 184, f 185, f 186, f 187, f 188, f 189, f 190, f 191, f 192, f 193, f 194, f 195, f 196, f 197, f 198, f 199, f 200, f 201, f 202, f 203, f 204, f 205, f 206, f 207, f 208, f 209, f 210, f 211, f 212, f 213, f 214, f 215, f 216, f 217, f 218, f 219, f 220, f 221, f 222, f 223, f 224, f 225, f 226, f 227, f 228, f 229, f 230, f 231, f 232, f 233, f 234, f 235, f 236, f 237, f 238, f 239, f 240, f 241, f 242, f 243, f 244, f 245, f 246, f 247, f 248, f 249, f 250, f 251, f 252, f 253, f 254, f 255, f 256, f 257, f 258, f 259, f 260, f 261, f 262], []⟩ := (congrArg (Fm 263) (ov_self f _ hf)).symm.trans rfl
  rw [e]
  have HQ : ∀ (L : List Value) , L.length = 263 →  L.getD 23 undef = .slice (some ⟨w.heap.size, 0, none⟩) 8 8 → (∀ j ∈ [2, 3, 4, 5], L.getD j undef = f j) → K0 ⟨L.toArray, []⟩ (w.alloc (.cells #[.int .u32 ta, .int .u32 tb, .int .u32 tc, .int .u32 td, .int .u32 te, .int .u32 tf, .int .u32 tg, .int .u32 th] 49)) := fun L  hl  e23 hk => by
    rw [Fm_of L 263 hl]
    exact hQ _   e23 hk
  have HQ := Lib.hid HQ
  have HFF := Lib.hid hf
  clear hQ hf e
  conv => arg 2; whnf
  go_wp2
  refine HQ.out _  rfl  rfl (fun j hj => ?_)
  simp only [List.mem_cons, List.not_mem_nil, or_false] at hj
  rcases hj with rfl | rfl | rfl | rfl
  · rfl
  · rfl
  · rfl
  · rfl
noncomputable def r32Code : Code := ((Tryd.f22.body.bind (oneRegion 32)).getD .skip)
set_option maxHeartbeats 4000000 in
set_option maxRecDepth 1000000 in
theorem r32 (k S M : Nat) (x y : Int) (hk : k < 8) (f : Nat → Value) (hf : ∀ p ∈ ([(3, (.slice (some ⟨S, 0, none⟩) 8 8)), (23, (.slice (some ⟨M, 0, none⟩) 8 8)), (24, (.int .i64 (k : Int)))] : List (Nat × Value)), f p.1 = p.2) (w : World) (K0 : Act → World → Prop) (cS : w.cell? ⟨S, k, none⟩ = some (.int .u32 x)) (cM : w.cell? ⟨M, k, none⟩ = some (.int .u32 y)) (fS : w.frozen? ⟨S, k, none⟩ = false)
    (hQ : ∀ (f' : Nat → Value) (v : Value), v = .int .u32 ((x + y) % 4294967296) → (∀ j ∈ [2, 3, 4, 5, 23, 24], f' j = f j) → K0 (Fm 263 f') (w.drew.setCell ⟨S, k, none⟩ v)) :
    Code.wp Tryd.prog r32Code (Only K0) (Fm 263 f) w := by
  have e : Fm 263 f = ⟨#[f 0, f 1, f 2, (.slice (some ⟨S, 0, none⟩) 8 8), f 4, f 5, f 6, f 7, f 8, f 9, f 10, f 11, f 12, f 13, f 14, f 15, f 16, f 17, f 18, f 19, f 20, f 21, f 22, (.slice (some ⟨M, 0, none⟩) 8 8), (.int .i64 (k : Int)), f 25, f 26, f 27, f 28, f 29, f 30, f 31, f 32, f 33, f 34, f 35, f 36, f 37, f 38, f 39, f 40, f 41, f 42, f 43, f 44, f 45, f 46, f 47, f 48, f 49, f 50, f 51, f 52, f 53, f 54, f 55, f 56, f 57, f 58, f 59, f 60, f 61, f 62, f 63, f 64, f 65, f 66, f 67, f 68, f 69, f 70, f 71, f 72, f 73, f 74, f 75, f 76, f 77, f 78, f 79, f 80, f 81, f 82, f 83, f 84, f 85, f 86, f 87, f 88, f 89, f 90, f 91, f 92, f 93, f 94, f 95, f 96, f 97, f 98, f 99, f 100, f 101, f 102, f 103, f 104, f 105, f 106, f 107, f 108, f 109, f 110, f 111, f 112, f 113, f 114, f 115, f 116, f 117, f 118, f 119, f 120, f 121, f 122, f 123, f 124, f 125, f 126, f 127, f 128, f 129, f 130, f 131, f 132, f 133, f 134, f 135, f 136, f 137, f 138, f 139, f 140, f 141, f 142, f 143, f 144, f 145, f 146, f 147, f 148, f 149, f 150, f 151, f 152, f 153, f 154, f 155, f 156, f 157, f 158, f 159, f 160, f 161, f 162, f 163, f 164, f 165, f 166, f 167, f 168, f 169, f 170, f 171, f 172, f 173, f 174, f 175, f 176, f 177, f 178, f 179, f 180, f 181, f 182, f 183, f 184, f 185, f 186, f 187, f 188, f 189, f 190, f 191, f 192, f 193, f 194, f 195, f 196, f 197, f 198, f 199, f 200, f 201, f 202, f 203, f 204, f 205, f 206, f 207, f 208, f 209, f 210, f 211, f 212, f 213, f 214, f 215, f 216, f 217, f 218, f 219, f 220, f 221, f 222, f 223, f 224, f 225, f 226, f 227, f 228, f 229, f 230, f 231, f 232, f 233, f 234, f 235, f 236, f 237, f 238, f 239, f 240, f 241, f 242, f 243, f 244, f 245, f 246, f 247, f 248, f 249, f 250, f 251, f 252, f 253, f 254, f 255, f 256, f 257, f 258, f 259, f 260, f 261, f 262], []⟩ := (congrArg (Fm 263) (ov_self f _ hf)).symm.trans rfl
  rw [e]
  have HQ : ∀ (L : List Value) (v : Value), L.length = 263 → v = .int .u32 ((x + y) % 4294967296) → (∀ j ∈ [2, 3, 4, 5, 23, 24], L.getD j undef = f j) → K0 ⟨L.toArray, []⟩ (w.drew.setCell ⟨S, k, none⟩ v) := fun L v hl q0  hk => by
    rw [Fm_of L 263 hl]
    exact hQ _ v q0  hk
  have HQ := Lib.hid HQ
  have HFF := Lib.hid hf
  clear hQ hf e
  have hk0 : (0 : Int) ≤ (k : Int) := by omega
  have hk8 : (k : Int) < 8 := by omega
  conv => arg 2; whnf
  go_region
  all_goals go_wp2_with fail
  all_goals
    refine HQ.out _ _ rfl (by first | rfl | (simp only [IntKind.wrap_u32']; rfl) | (congr 1; simp only [IntKind.wrap_u32']))  (fun j hj => ?_)
    simp only [List.mem_cons, List.not_mem_nil, or_false] at hj
    rcases hj with rfl | rfl | rfl | rfl | rfl | rfl
    · rfl
    · exact (HFF.out (3, (.slice (some ⟨S, 0, none⟩) 8 8)) (by simp)).symm
    · rfl
    · rfl
    · exact (HFF.out (23, (.slice (some ⟨M, 0, none⟩) 8 8)) (by simp)).symm
    · exact (HFF.out (24, (.int .i64 (k : Int))) (by simp)).symm
end Go.Proofs.YtcdfflieooopjaaDoor.Sha
