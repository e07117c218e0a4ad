/-
  The end of the reference's Sum: the state's bytes, copied into the answer (made by wip/tools/mkouter.py).
-/
import Derived.Test.YtcdfflieooopjaaDoorRefOuter
import Derived.Test.YtcdfflieooopjaaDoorBaseB
namespace Go.Proofs.YtcdfflieooopjaaDoor.Sha
open Go.RowKit Base

def sBytes (s : St) : Nat → List UInt8
  | 0 => []
  | k + 1 => sBytes s k ++ beb (s.at k).toNat 4
theorem beb4_length (v : Nat) : (beb v 4).length = 4 := by simp [beb]
theorem sBytes_length (s : St) : ∀ k, (sBytes s k).length = 4 * k
  | 0 => rfl
  | k + 1 => by rw [sBytes, List.length_append, sBytes_length s k, beb4_length]; omega
theorem sBytes_get (s : St) : ∀ k i, i < 4 * k → (sBytes s k)[i]? = some (UInt8.ofNat ((s.at (i / 4)).toNat / 2 ^ (8 * (3 - i % 4))))
  | 0, i, h => by omega
  | k + 1, i, h => by
    rw [sBytes]
    by_cases h' : i < 4 * k
    · rw [List.getElem?_append_left (by rw [sBytes_length]; exact h')]
      exact sBytes_get s k i h'
    · rw [List.getElem?_append_right (by rw [sBytes_length]; omega), sBytes_length]
      have e1 : i / 4 = k := by omega
      have e2 : i - 4 * k = i % 4 := by omega
      rw [e1, e2]
      have : i % 4 < 4 := Nat.mod_lt _ (by decide)
      simp [beb, this]
theorem sBytes_digest (m : List UInt8) : sBytes (fin m) 8 = digest m := by
  apply List.ext_getElem?
  intro i
  by_cases hi : i < 32
  · rw [sBytes_get _ 8 i (by omega)]
    have b := st_ok (pad m) ((pad m).length / 64) (i / 4)
    simp only [digest, List.getElem?_map, List.getElem?_range hi, Option.map_some]
    congr 2
    have e : 8 * (3 - i % 4) = 24 - 8 * (i % 4) := by omega
    rw [e]
    obtain ⟨n, hn⟩ := Int.eq_ofNat_of_zero_le (show 0 ≤ (fin m).at (i / 4) from b.1)
    rw [hn]
    simp only [Int.toNat_natCast]
    rw [show ((n : Int) / 2 ^ (24 - 8 * (i % 4))).toNat = n / 2 ^ (24 - 8 * (i % 4)) from by
      have : ((n : Int) / 2 ^ (24 - 8 * (i % 4))) = ((n / 2 ^ (24 - 8 * (i % 4)) : Nat) : Int) := by push_cast; rfl
      rw [this, Int.toNat_natCast]]
  · rw [List.getElem?_eq_none (by rw [sBytes_length]; omega), List.getElem?_eq_none (by simp [digest]; omega)]
noncomputable def r33Code : Code := ((Tryd.f22.body.bind (oneRegion 33)).getD .skip)
set_option maxHeartbeats 4000000 in
set_option maxRecDepth 1000000 in
theorem r33  (f : Nat → Value) (hf : ∀ p ∈ ([] : List (Nat × Value)), f p.1 = p.2) (w : World) (K0 : Act → World → Prop) 
    (hQ : ∀ (f' : Nat → Value) ,  f' 25 = .slice none 0 0 → (∀ j ∈ [2, 3], f' j = f j) → K0 (Fm 263 f') w) :
    Code.wp Tryd.prog r33Code (Only K0) (Fm 263 f) w := by
  have e : Fm 263 f = ⟨#[f 0, f 1, f 2, f 3, f 4, f 5, f 6, f 7, f 8, f 9, f 10, f 11, f 12, f 13, f 14, f 15, f 16, f 17, f 18, f 19, f 20, f 21, f 22, f 23, f 24, f 25, f 26, f 27, f 28, f 29, f 30, f 31, f 32, f 33, f 34, f 35, f 36, f 37, f 38, f 39, f 40, f 41, f 42, f 43, f 44, f 45, f 46, f 47, f 48, f 49, f 50, f 51, f 52, f 53, f 54, f 55, f 56, f 57, f 58, f 59, f 60, f 61, f 62, f 63, f 64, f 65, f 66, f 67, f 68, f 69, f 70, f 71, f 72, f 73, f 74, f 75, f 76, f 77, f 78, f 79, f 80, f 81, f 82, f 83, f 84, f 85, f 86, f 87, f 88, f 89, f 90, f 91, f 92, f 93, f 94, f 95, f 96, f 97, f 98, f 99, f 100, f 101, f 102, f 103, f 104, f 105, f 106, f 107, f 108, f 109, f 110, f 111, f 112, f 113, f 114, f 115, f 116, f 117, f 118, f 119, f 120, f 121, f 122, f 123, f 124, f 125, f 126, f 127, f 128, f 129, f 130, f 131, f 132, f 133, f 134, f 135, f 136, f 137, f 138, f 139, f 140, f 141, f 142, f 143, f 144, f 145, f 146, f 147, f 148, f 149, f 150, f 151, f 152, f 153, f 154, f 155, f 156, f 157, f 158, f 159, f 160, f 161, f 162, f 163, f 164, f 165, f 166, f 167, f 168, f 169, f 170, f 171, f 172, f 173, f 174, f 175, f 176, f 177, f 178, f 179, f 180, f 181, f 182, f 183, f 184, f 185, f 186, f 187, f 188, f 189, f 190, f 191, f 192, f 193, f 194, f 195, f 196, f 197, f 198, f 199, f 200, f 201, f 202, f 203, f 204, f 205, f 206, f 207, f 208, f 209, f 210, f 211, f 212, f 213, f 214, f 215, f 216, f 217, f 218, f 219, f 220, f 221, f 222, f 223, f 224, f 225, f 226, f 227, f 228, f 229, f 230, f 231, f 232, f 233, f 234, f 235, f 236, f 237, f 238, f 239, f 240, f 241, f 242, f 243, f 244, f 245, f 246, f 247, f 248, f 249, f 250, f 251, f 252, f 253, f 254, f 255, f 256, f 257, f 258, f 259, f 260, f 261, f 262], []⟩ := (congrArg (Fm 263) (ov_self f _ hf)).symm.trans rfl
  rw [e]
  have HQ : ∀ (L : List Value) , L.length = 263 →  L.getD 25 undef = .slice none 0 0 → (∀ j ∈ [2, 3], L.getD j undef = f j) → K0 ⟨L.toArray, []⟩ w := fun L  hl  e25 hk => by
    rw [Fm_of L 263 hl]
    exact hQ _   e25 hk
  have HQ := Lib.hid HQ
  have HFF := Lib.hid hf
  clear hQ hf e
  conv => arg 2; whnf
  go_wp2
  refine HQ.out _  rfl  rfl (fun j hj => ?_)
  simp only [List.mem_cons, List.not_mem_nil, or_false] at hj
  rcases hj with rfl | rfl
  · rfl
  · rfl
noncomputable def r34Code : Code := ((Tryd.f22.body.bind (oneRegion 34)).getD .skip)
set_option maxHeartbeats 4000000 in
set_option maxRecDepth 1000000 in
theorem r34  (f : Nat → Value) (hf : ∀ p ∈ ([] : List (Nat × Value)), f p.1 = p.2) (w : World) (K0 : Act → World → Prop) 
    (hQ : ∀ (f' : Nat → Value) ,  f' 26 = .int .i64 0 → (∀ j ∈ [2, 3, 25], f' j = f j) → K0 (Fm 263 f') w) :
    Code.wp Tryd.prog r34Code (Only K0) (Fm 263 f) w := by
  have e : Fm 263 f = ⟨#[f 0, f 1, f 2, f 3, f 4, f 5, f 6, f 7, f 8, f 9, f 10, f 11, f 12, f 13, f 14, f 15, f 16, f 17, f 18, f 19, f 20, f 21, f 22, f 23, f 24, f 25, f 26, f 27, f 28, f 29, f 30, f 31, f 32, f 33, f 34, f 35, f 36, f 37, f 38, f 39, f 40, f 41, f 42, f 43, f 44, f 45, f 46, f 47, f 48, f 49, f 50, f 51, f 52, f 53, f 54, f 55, f 56, f 57, f 58, f 59, f 60, f 61, f 62, f 63, f 64, f 65, f 66, f 67, f 68, f 69, f 70, f 71, f 72, f 73, f 74, f 75, f 76, f 77, f 78, f 79, f 80, f 81, f 82, f 83, f 84, f 85, f 86, f 87, f 88, f 89, f 90, f 91, f 92, f 93, f 94, f 95, f 96, f 97, f 98, f 99, f 100, f 101, f 102, f 103, f 104, f 105, f 106, f 107, f 108, f 109, f 110, f 111, f 112, f 113, f 114, f 115, f 116, f 117, f 118, f 119, f 120, f 121, f 122, f 123, f 124, f 125, f 126, f 127, f 128, f 129, f 130, f 131, f 132, f 133, f 134, f 135, f 136, f 137, f 138, f 139, f 140, f 141, f 142, f 143, f 144, f 145, f 146, f 147, f 148, f 149, f 150, f 151, f 152, f 153, f 154, f 155, f 156, f 157, f 158, f 159, f 160, f 161, f 162, f 163, f 164, f 165, f 166, f 167, f 168, f 169, f 170, f 171, f 172, f 173, f 174, f 175, f 176, f 177, f 178, f 179, f 180, f 181, f 182, f 183, f 184, f 185, f 186, f 187, f 188, f 189, f 190, f 191, f 192, f 193, f 194, f 195, f 196, f 197, f 198, f 199, f 200, f 201, f 202, f 203, f 204, f 205, f 206, f 207, f 208, f 209, f 210, f 211, f 212, f 213, f 214, f 215, f 216, f 217, f 218, f 219, f 220, f 221, f 222, f 223, f 224, f 225, f 226, f 227, f 228, f 229, f 230, f 231, f 232, f 233, f 234, f 235, f 236, f 237, f 238, f 239, f 240, f 241, f 242, f 243, f 244, f 245, f 246, f 247, f 248, f 249, f 250, f 251, f 252, f 253, f 254, f 255, f 256, f 257, f 258, f 259, f 260, f 261, f 262], []⟩ := (congrArg (Fm 263) (ov_self f _ hf)).symm.trans rfl
  rw [e]
  have HQ : ∀ (L : List Value) , L.length = 263 →  L.getD 26 undef = .int .i64 0 → (∀ j ∈ [2, 3, 25], L.getD j undef = f j) → K0 ⟨L.toArray, []⟩ w := fun L  hl  e26 hk => by
    rw [Fm_of L 263 hl]
    exact hQ _   e26 hk
  have HQ := Lib.hid HQ
  have HFF := Lib.hid hf
  clear hQ hf e
  conv => arg 2; whnf
  go_wp2
  refine HQ.out _  rfl  rfl (fun j hj => ?_)
  simp only [List.mem_cons, List.not_mem_nil, or_false] at hj
  rcases hj with rfl | rfl | rfl
  · rfl
  · rfl
  · rfl
noncomputable def r35Code : Code := ((Tryd.f22.body.bind (oneRegion 35)).getD .skip)
set_option maxHeartbeats 4000000 in
set_option maxRecDepth 1000000 in
theorem r35 (k : Nat) (hk : k ≤ 8) (f : Nat → Value) (hf : ∀ p ∈ ([(26, (.int .i64 (k : Int)))] : List (Nat × Value)), f p.1 = p.2) (w : World) (K0 : Act → World → Prop) 
    (hQ : ∀ (f' : Nat → Value) ,  f' 249 = .bool (decide ((k : Int) < 8)) → (∀ j ∈ [2, 3, 25, 26], f' j = f j) → K0 (Fm 263 f') w) :
    Code.wp Tryd.prog r35Code (Only K0) (Fm 263 f) w := by
  have e : Fm 263 f = ⟨#[f 0, f 1, f 2, f 3, f 4, f 5, f 6, f 7, f 8, f 9, f 10, f 11, f 12, f 13, f 14, f 15, f 16, f 17, f 18, f 19, f 20, f 21, f 22, f 23, f 24, f 25, (.int .i64 (k : Int)), f 27, f 28, f 29, f 30, f 31, f 32, f 33, f 34, f 35, f 36, f 37, f 38, f 39, f 40, f 41, f 42, f 43, f 44, f 45, f 46, f 47, f 48, f 49, f 50, f 51, f 52, f 53, f 54, f 55, f 56, f 57, f 58, f 59, f 60, f 61, f 62, f 63, f 64, f 65, f 66, f 67, f 68, f 69, f 70, f 71, f 72, f 73, f 74, f 75, f 76, f 77, f 78, f 79, f 80, f 81, f 82, f 83, f 84, f 85, f 86, f 87, f 88, f 89, f 90, f 91, f 92, f 93, f 94, f 95, f 96, f 97, f 98, f 99, f 100, f 101, f 102, f 103, f 104, f 105, f 106, f 107, f 108, f 109, f 110, f 111, f 112, f 113, f 114, f 115, f 116, f 117, f 118, f 119, f 120, f 121, f 122, f 123, f 124, f 125, f 126, f 127, f 128, f 129, f 130, f 131, f 132, f 133, f 134, f 135, f 136, f 137, f 138, f 139, f 140, f 141, f 142, f 143, f 144, f 145, f 146, f 147, f 148, f 149, f 150, f 151, f 152, f 153, f 154, f 155, f 156, f 157, f 158, f 159, f 160, f 161, f 162, f 163, f 164, f 165, f 166, f 167, f 168, f 169, f 170, f 171, f 172, f 173, f 174, f 175, f 176, f 177, f 178, f 179, f 180, f 181, f 182, f 183, f 184, f 185, f 186, f 187, f 188, f 189, f 190, f 191, f 192, f 193, f 194, f 195, f 196, f 197, f 198, f 199, f 200, f 201, f 202, f 203, f 204, f 205, f 206, f 207, f 208, f 209, f 210, f 211, f 212, f 213, f 214, f 215, f 216, f 217, f 218, f 219, f 220, f 221, f 222, f 223, f 224, f 225, f 226, f 227, f 228, f 229, f 230, f 231, f 232, f 233, f 234, f 235, f 236, f 237, f 238, f 239, f 240, f 241, f 242, f 243, f 244, f 245, f 246, f 247, f 248, f 249, f 250, f 251, f 252, f 253, f 254, f 255, f 256, f 257, f 258, f 259, f 260, f 261, f 262], []⟩ := (congrArg (Fm 263) (ov_self f _ hf)).symm.trans rfl
  rw [e]
  have HQ : ∀ (L : List Value) , L.length = 263 →  L.getD 249 undef = .bool (decide ((k : Int) < 8)) → (∀ j ∈ [2, 3, 25, 26], L.getD j undef = f j) → K0 ⟨L.toArray, []⟩ w := fun L  hl  e249 hk => by
    rw [Fm_of L 263 hl]
    exact hQ _   e249 hk
  have HQ := Lib.hid HQ
  have HFF := Lib.hid hf
  clear hQ hf e
  conv => arg 2; whnf
  go_wp2
  refine HQ.out _  rfl  rfl (fun j hj => ?_)
  simp only [List.mem_cons, List.not_mem_nil, or_false] at hj
  rcases hj with rfl | rfl | rfl | rfl
  · rfl
  · rfl
  · rfl
  · exact (HFF.out (26, (.int .i64 (k : Int))) (by simp)).symm
noncomputable def r36Code : Code := ((Tryd.f22.body.bind (oneRegion 36)).getD .skip)
set_option maxHeartbeats 4000000 in
set_option maxRecDepth 1000000 in
theorem r36 (k : Nat) (hk : k < 8) (f : Nat → Value) (hf : ∀ p ∈ ([(26, (.int .i64 (k : Int)))] : List (Nat × Value)), f p.1 = p.2) (w : World) (K0 : Act → World → Prop) 
    (hQ : ∀ (f' : Nat → Value) ,  f' 26 = .int .i64 ((k : Int) + 1) → (∀ j ∈ [2, 3, 25], f' j = f j) → K0 (Fm 263 f') w) :
    Code.wp Tryd.prog r36Code (Only K0) (Fm 263 f) w := by
  have e : Fm 263 f = ⟨#[f 0, f 1, f 2, f 3, f 4, f 5, f 6, f 7, f 8, f 9, f 10, f 11, f 12, f 13, f 14, f 15, f 16, f 17, f 18, f 19, f 20, f 21, f 22, f 23, f 24, f 25, (.int .i64 (k : Int)), f 27, f 28, f 29, f 30, f 31, f 32, f 33, f 34, f 35, f 36, f 37, f 38, f 39, f 40, f 41, f 42, f 43, f 44, f 45, f 46, f 47, f 48, f 49, f 50, f 51, f 52, f 53, f 54, f 55, f 56, f 57, f 58, f 59, f 60, f 61, f 62, f 63, f 64, f 65, f 66, f 67, f 68, f 69, f 70, f 71, f 72, f 73, f 74, f 75, f 76, f 77, f 78, f 79, f 80, f 81, f 82, f 83, f 84, f 85, f 86, f 87, f 88, f 89, f 90, f 91, f 92, f 93, f 94, f 95, f 96, f 97, f 98, f 99, f 100, f 101, f 102, f 103, f 104, f 105, f 106, f 107, f 108, f 109, f 110, f 111, f 112, f 113, f 114, f 115, f 116, f 117, f 118, f 119, f 120, f 121, f 122, f 123, f 124, f 125, f 126, f 127, f 128, f 129, f 130, f 131, f 132, f 133, f 134, f 135, f 136, f 137, f 138, f 139, f 140, f 141, f 142, f 143, f 144, f 145, f 146, f 147, f 148, f 149, f 150, f 151, f 152, f 153, f 154, f 155, f 156, f 157, f 158, f 159, f 160, f 161, f 162, f 163, f 164, f 165, f 166, f 167, f 168, f 169, f 170, f 171, f 172, f 173, f 174, f 175, f 176, f 177, f 178, f 179, f 180, f 181, f 182, f 183, f 184, f 185, f 186, f 187, f 188, f 189, f 190, f 191, f 192, f 193, f 194, f 195, f 196, f 197, f 198, f 199, f 200, f 201, f 202, f 203, f 204, f 205, f 206, f 207, f 208, f 209, f 210, f 211, f 212, f 213, f 214, f 215, f 216, f 217, f 218, f 219, f 220, f 221, f 222, f 223, f 224, f 225, f 226, f 227, f 228, f 229, f 230, f 231, f 232, f 233, f 234, f 235, f 236, f 237, f 238, f 239, f 240, f 241, f 242, f 243, f 244, f 245, f 246, f 247, f 248, f 249, f 250, f 251, f 252, f 253, f 254, f 255, f 256, f 257, f 258, f 259, f 260, f 261, f 262], []⟩ := (congrArg (Fm 263) (ov_self f _ hf)).symm.trans rfl
  rw [e]
  have HQ : ∀ (L : List Value) , L.length = 263 →  L.getD 26 undef = .int .i64 ((k : Int) + 1) → (∀ j ∈ [2, 3, 25], L.getD j undef = f j) → K0 ⟨L.toArray, []⟩ w := fun L  hl  e26 hk => by
    rw [Fm_of L 263 hl]
    exact hQ _   e26 hk
  have HQ := Lib.hid HQ
  have HFF := Lib.hid hf
  clear hQ hf e
  conv => arg 2; whnf
  go_wp2
  refine HQ.out _  rfl  rfl (fun j hj => ?_)
  simp only [List.mem_cons, List.not_mem_nil, or_false] at hj
  rcases hj with rfl | rfl | rfl
  · rfl
  · rfl
  · rfl
noncomputable def r37Code : Code := ((Tryd.f22.body.bind (oneRegion 37)).getD .skip)
set_option maxHeartbeats 4000000 in
set_option maxRecDepth 1000000 in
theorem r37 (k S : Nat) (x : Int) (v : Value) (l : List UInt8) (hk : k < 8) (bx : 0 ≤ x ∧ x < 4294967296) (hl : l.length ≤ 1000) (f : Nat → Value) (hf : ∀ p ∈ ([(3, (.slice (some ⟨S, 0, none⟩) 8 8)), (25, v), (26, (.int .i64 (k : Int)))] : List (Nat × Value)), f p.1 = p.2) (w : World) (K0 : Act → World → Prop) (cS : w.cell? ⟨S, k, none⟩ = some (.int .u32 x)) (hB : BytesIs w v l)
    (hQ : ∀ (f' : Nat → Value) (u : Value) (w2 : World), BytesIs w2 u (l ++ beb x.toNat 4) → Fr0 w w2 → f' 25 = u → (∀ j ∈ [2, 3, 26], f' j = f j) → K0 (Fm 263 f') w2) :
    Code.wp Tryd.prog r37Code (Only K0) (Fm 263 f) w := by
  have e : Fm 263 f = ⟨#[f 0, f 1, f 2, (.slice (some ⟨S, 0, none⟩) 8 8), f 4, f 5, f 6, f 7, f 8, f 9, f 10, f 11, f 12, f 13, f 14, f 15, f 16, f 17, f 18, f 19, f 20, f 21, f 22, f 23, f 24, v, (.int .i64 (k : Int)), f 27, f 28, f 29, f 30, f 31, f 32, f 33, f 34, f 35, f 36, f 37, f 38, f 39, f 40, f 41, f 42, f 43, f 44, f 45, f 46, f 47, f 48, f 49, f 50, f 51, f 52, f 53, f 54, f 55, f 56, f 57, f 58, f 59, f 60, f 61, f 62, f 63, f 64, f 65, f 66, f 67, f 68, f 69, f 70, f 71, f 72, f 73, f 74, f 75, f 76, f 77, f 78, f 79, f 80, f 81, f 82, f 83, f 84, f 85, f 86, f 87, f 88, f 89, f 90, f 91, f 92, f 93, f 94, f 95, f 96, f 97, f 98, f 99, f 100, f 101, f 102, f 103, f 104, f 105, f 106, f 107, f 108, f 109, f 110, f 111, f 112, f 113, f 114, f 115, f 116, f 117, f 118, f 119, f 120, f 121, f 122, f 123, f 124, f 125, f 126, f 127, f 128, f 129, f 130, f 131, f 132, f 133, f 134, f 135, f 136, f 137, f 138, f 139, f 140, f 141, f 142, f 143, f 144, f 145, f 146, f 147, f 148, f 149, f 150, f 151, f 152, f 153, f 154, f 155, f 156, f 157, f 158, f 159, f 160, f 161, f 162, f 163, f 164, f 165, f 166, f 167, f 168, f 169, f 170, f 171, f 172, f 173, f 174, f 175, f 176, f 177, f 178, f 179, f 180, f 181, f 182, f 183, f 184, f 185, f 186, f 187, f 188, f 189, f 190, f 191, f 192, f 193, f 194, f 195, f 196, f 197, f 198, f 199, f 200, f 201, f 202, f 203, f 204, f 205, f 206, f 207, f 208, f 209, f 210, f 211, f 212, f 213, f 214, f 215, f 216, f 217, f 218, f 219, f 220, f 221, f 222, f 223, f 224, f 225, f 226, f 227, f 228, f 229, f 230, f 231, f 232, f 233, f 234, f 235, f 236, f 237, f 238, f 239, f 240, f 241, f 242, f 243, f 244, f 245, f 246, f 247, f 248, f 249, f 250, f 251, f 252, f 253, f 254, f 255, f 256, f 257, f 258, f 259, f 260, f 261, f 262], []⟩ := (congrArg (Fm 263) (ov_self f _ hf)).symm.trans rfl
  rw [e]
  have HQ : ∀ (L : List Value) (u : Value) (w2 : World), L.length = 263 → BytesIs w2 u (l ++ beb x.toNat 4) → Fr0 w w2 → L.getD 25 undef = u → (∀ j ∈ [2, 3, 26], L.getD j undef = f j) → K0 ⟨L.toArray, []⟩ w2 := fun L u w2 hl q0 q1 e25 hk => by
    rw [Fm_of L 263 hl]
    exact hQ _ u w2 q0 q1 e25 hk
  have HQ := Lib.hid HQ
  have HFF := Lib.hid hf
  clear hQ hf e
  conv => arg 2; whnf
  have hk0 : (0 : Int) ≤ (k : Int) := by omega
  have hk8 : (k : Int) < 8 := by omega
  obtain ⟨n, rfl⟩ := Int.eq_ofNat_of_zero_le bx.1
  have HB := Lib.hid hB
  clear hB
  go_wp2_with fail
  refine (u_any v l n 4 (by omega) (by decide) (by omega) w HB.out).mono ?_
  rintro e w2 ⟨u, rfl, hB2, hF2, _⟩
  have HB2 := Lib.hid hB2
  have HF2 := Lib.hid hF2
  clear hB2 hF2
  go_wp2_with fail
  refine HQ.out _ _ _ rfl (by simpa using HB2.out) HF2.out rfl (fun j hj => ?_)
  simp only [List.mem_cons, List.not_mem_nil, or_false] at hj
  rcases hj with rfl | rfl | rfl
  · rfl
  · exact (HFF.out (3, (.slice (some ⟨S, 0, none⟩) 8 8)) (by simp)).symm
  · exact (HFF.out (26, (.int .i64 (k : Int))) (by simp)).symm
noncomputable def loop6Code : Code := ((Tryd.f22.body.bind (blockFull 10))).getD .skip
theorem loop6_is : loop6Code = .block 10 (.loop (.seq (.seq r35Code (.cond (.tmp 249) .skip (.exit 10))) (.seq (.block 11 r37Code) r36Code))) := by kernel_rfl
set_option maxHeartbeats 1000000 in
theorem loop6_any (s : St) (oks : s.ok) (S : Nat) (f0 : Nat → Value) (h3 : f0 3 = .slice (some ⟨S, 0, none⟩) 8 8) (h25 : f0 25 = .slice none 0 0) (h26 : f0 26 = .int .i64 0) (w : World) (hs : w.rowIs S 49 8 (stCell s)) (K0 : Act → World → Prop)
    (hQ : ∀ (f' : Nat → Value) (w2 : World) (v : Value), f' 25 = v → (∀ j ∈ [2, 3], f' j = f0 j) → BytesIs w2 v (sBytes s 8) → Fr0 w w2 → K0 (Fm 263 f') w2) :
    Code.wp Tryd.prog loop6Code (Only K0) (Fm 263 f0) w := by
  rw [loop6_is]
  refine wp_block (wp_loop (fun a' w' => ∃ (k : Nat) (f : Nat → Value) (v : Value), a' = Fm 263 f ∧ k ≤ 8 ∧ f 26 = .int .i64 (k : Int) ∧ f 25 = v ∧ (∀ j ∈ [2, 3], f j = f0 j) ∧ BytesIs w' v (sBytes s k) ∧ Fr0 w w')
    (fun a' _ => 8 - (intOf (a'.eval (.tmp 26))).toNat) ?_ ?_)
  · exact ⟨0, f0, _, rfl, by omega, h26, h25, fun _ _ => rfl, BytesIs.nil w, Fr.refl _ _⟩
  · rintro _ wr ⟨k, f, v, rfl, hk, e26, e25, hkeep, hB, hF⟩
    refine wp_seq (wp_seq (wp_mono (r35 k hk f (by simp [e26]) wr _ ?_) Only.then))
    intro f1 e249 k1
    by_cases hlt : k < 8
    · have hd : decide ((k : Int) < 8) = true := by rw [decide_eq_true_eq]; omega
      rw [hd] at e249
      refine wp_cond_true ((Fm_eval _ _ _ (by decide)).trans e249) (wp_skip ?_)
      refine wp_seq (wp_block ?_)
      refine wp_mono (r37 k S (s.at k) v (sBytes s k) hlt (oks k) (by rw [sBytes_length]; omega) f1 (by simp [k1, hkeep, e25, e26, h3]) wr _ ((hF.row hs (fun f => f)).cell (i := k) hlt) hB ?_) Only.inBlock
      intro f2 u w2 hB2 hF2 x25 k2
      refine wp_mono (r36 k hlt f2 (by simp [k2, k1, e26]) w2 _ ?_) Only.then
      intro f3 x26 k3
      refine ⟨⟨k + 1, f3, u, rfl, by omega, by rw [x26]; rfl, by rw [k3 25 (by simp), x25], ?_, hB2, hF.trans' hF2⟩, ?_⟩
      · intro j hj
        rw [k3 j (by simp at hj ⊢; omega), k2 j (by simp at hj ⊢; omega), k1 j (by simp at hj ⊢; omega)]
        exact hkeep j hj
      · rw [Fm_eval _ _ _ (by decide), Fm_eval _ _ _ (by decide), x26, e26]
        simp only [intOf]
        omega
    · have hd : decide ((k : Int) < 8) = false := by rw [decide_eq_false_iff_not]; omega
      rw [hd] at e249
      have hk8 : k = 8 := by omega
      subst hk8
      refine wp_cond_false ((Fm_eval _ _ _ (by decide)).trans e249) (wp_exit ?_)
      exact hQ f1 wr v (by rw [k1 25 (by simp), e25]) (fun j hj => (k1 j (by simp at hj ⊢; omega)).trans (hkeep j hj)) hB hF
end Go.Proofs.YtcdfflieooopjaaDoor.Sha
