/-
  The reference's Sum answers SHA-256: its last statements (made by wip/tools/mkouter.py).
-/
import Derived.Test.YtcdfflieooopjaaDoorRefEnd
namespace Go.Proofs.YtcdfflieooopjaaDoor.Sha
open Go.RowKit Base

theorem zero23j : (Tryd.prog.info? 23).map (fun i => (i.zero, i.size)) = some (some (.agg (Array.replicate 32 (.int .u8 0))), 32) := by kernel_rfl
theorem dig_bvals (m : List UInt8) : digArr m = (bvals (digest m)).toArray := rfl
theorem dig_info23 (m : List UInt8) : (Tryd.prog.info? 23).map (·.size) = some (digArr m).size := by
  rw [digArr_size]
  kernel_rfl
theorem digest_len' (m : List UInt8) : (digest m).length = 32 := by simp [digest]
theorem slice23 (G : Nat) (w : World) : (Instr.sliceAt 23 (.pointer (some ⟨G, 0, none⟩)) none none none).run Tryd.prog w = .ok (.slice (some ⟨G, 0, none⟩) 32 32) w := by
  have hA : Tryd.prog.arrayLen 23 = 32 := by kernel_rfl
  have hE : Tryd.prog.elem 23 = 5 := by kernel_rfl
  have hs : (Tryd.prog.info? 5).map (·.size) = some 1 := by kernel_rfl
  obtain ⟨i, hi, hz⟩ : ∃ i, Tryd.prog.info? 5 = some i ∧ i.size = 1 := by
    cases hq : Tryd.prog.info? 5 with
    | none => simp [hq] at hs
    | some i => exact ⟨i, rfl, by simpa [hq] using hs⟩
  have := run_sliceAt_array_all (P := Tryd.prog) w 23 ⟨G, 0, none⟩ (by rw [hA, hE]; exact Tryd.underlying23)
  rw [this, hE]
  simp [sizeOf, typeInfo, hi, hz, slicedAt, hA, Sem.run_bind, sliced, Addr.add]
theorem splice_all (l : List UInt8) (n : Nat) (h : l.length = n) : splice (bvals (List.replicate n 0)) 0 (bvals l) = bvals l := by
  rw [splice_zero l n, h, Nat.sub_self]
  simp
noncomputable def r38Code : Code := ((Tryd.f22.body.bind (oneRegion 38)).getD .skip)
set_option maxHeartbeats 4000000 in
set_option maxRecDepth 1000000 in
theorem r38 (Z : Array Value) (f : Nat → Value) (hf : ∀ p ∈ ([] : List (Nat × Value)), f p.1 = p.2) (w : World) (K0 : Act → World → Prop) (hz : ∀ w : World, (zeroValue 23).run Tryd.prog w = .ok (.agg Z) w)
    (hQ : ∀ (f' : Nat → Value) ,  f' 27 = .pointer (some ⟨w.heap.size, 0, none⟩) → (∀ j ∈ [2, 25], f' j = f j) → K0 (Fm 263 f') (w.alloc (.cells Z 23))) :
    Code.wp Tryd.prog r38Code (Only K0) (Fm 263 f) w := by
  have e : Fm 263 f = ⟨#[f 0, f 1, f 2, f 3, f 4, f 5, f 6, f 7, f 8, f 9, f 10, f 11, f 12, f 13, f 14, f 15, f 16, f 17, f 18, f 19, f 20, f 21, f 22, f 23, f 24, f 25, f 26, f 27, f 28, f 29, f 30, f 31, f 32, f 33, f 34, f 35, f 36, f 37, f 38, f 39, f 40, f 41, f 42, f 43, f 44, f 45, f 46, f 47, f 48, f 49, f 50, f 51, f 52, f 53, f 54, f 55, f 56, f 57, f 58, f 59, f 60, f 61, f 62, f 63, f 64, f 65, f 66, f 67, f 68, f 69, f 70, f 71, f 72, f 73, f 74, f 75, f 76, f 77, f 78, f 79, f 80, f 81, f 82, f 83, f 84, f 85, f 86, f 87, f 88, f 89, f 90, f 91, f 92, f 93, f 94, f 95, f 96, f 97, f 98, f 99, f 100, f 101, f 102, f 103, f 104, f 105, f 106, f 107, f 108, f 109, f 110, f 111, f 112, f 113, f 114, f 115, f 116, f 117, f 118, f 119, f 120, f 121, f 122, f 123, f 124, f 125, f 126, f 127, f 128, f 129, f 130, f 131, f 132, f 133, f 134, f 135, f 136, f 137, f 138, f 139, f 140, f 141, f 142, f 143, f 144, f 145, f 146, f 147, f 148, f 149, f 150, f 151, f 152, f 153, f 154, f 155, f 156, f 157, f 158, f 159, f 160, f 161, f 162, f 163, f 164, f 165, f 166, f 167, f 168, f 169, f 170, f 171, f 172, f 173, f 174, f 175, f 176, f 177, f 178, f 179, f 180, f 181, f 182, f 183, f 184, f 185, f 186, f 187, f 188, f 189, f 190, f 191, f 192, f 193, f 194, f 195, f 196, f 197, f 198, f 199, f 200, f 201, f 202, f 203, f 204, f 205, f 206, f 207, f 208, f 209, f 210, f 211, f 212, f 213, f 214, f 215, f 216, f 217, f 218, f 219, f 220, f 221, f 222, f 223, f 224, f 225, f 226, f 227, f 228, f 229, f 230, f 231, f 232, f 233, f 234, f 235, f 236, f 237, f 238, f 239, f 240, f 241, f 242, f 243, f 244, f 245, f 246, f 247, f 248, f 249, f 250, f 251, f 252, f 253, f 254, f 255, f 256, f 257, f 258, f 259, f 260, f 261, f 262], []⟩ := (congrArg (Fm 263) (ov_self f _ hf)).symm.trans rfl
  rw [e]
  have HQ : ∀ (L : List Value) , L.length = 263 →  L.getD 27 undef = .pointer (some ⟨w.heap.size, 0, none⟩) → (∀ j ∈ [2, 25], L.getD j undef = f j) → K0 ⟨L.toArray, []⟩ (w.alloc (.cells Z 23)) := fun L  hl  e27 hk => by
    rw [Fm_of L 263 hl]
    exact hQ _   e27 hk
  have HQ := Lib.hid HQ
  have HFF := Lib.hid hf
  clear hQ hf e
  conv => arg 2; whnf
  go_wp2
  refine HQ.out _  rfl  rfl (fun j hj => ?_)
  simp only [List.mem_cons, List.not_mem_nil, or_false] at hj
  rcases hj with rfl | rfl
  · rfl
  · rfl
noncomputable def r39Code : Code := ((Tryd.f22.body.bind (oneRegion 39)).getD .skip)
theorem r39 (G : Nat) (sa : Option Addr) (sc : Nat) (l : List UInt8) (hl : l.length = 32) (ZL : List Value) (hZL : ZL = bvals (List.replicate 32 0)) (f : Nat → Value) (hf : ∀ p ∈ ([(27, .pointer (some ⟨G, 0, none⟩)), (25, .slice sa 32 sc)] : List (Nat × Value)), f p.1 = p.2) (w : World) (K0 : Act → World → Prop)
    (hg : w.heap[G]? = some (.cells ZL.toArray 23 (0, 0))) (hB : BytesIs w (.slice sa 32 sc) l) (hGs : w.heap.size = G + 1)
    (hQ : ∀ (f' : Nat → Value) (w2 : World), w2.heap[G]? = some (.cells (bvals l).toArray 23 (0, 0)) → Fr1 G w w2 → (∀ j ∈ [2, 27], f' j = f j) → K0 (Fm 263 f') w2) :
    Code.wp Tryd.prog r39Code (Only K0) (Fm 263 f) w := by
  have h27 : f 27 = .pointer (some ⟨G, 0, none⟩) := hf (27, _) (by simp)
  have h25 : f 25 = .slice sa 32 sc := hf (25, _) (by simp)
  obtain ⟨a0, cap0, pb, po, hv, hcap, ha, hc⟩ := hB
  simp only [Value.slice.injEq] at hv
  obtain ⟨rfl, _, rfl⟩ := hv
  have hXL : (bvals l).length = Nat.min 32 32 := by rw [bvals_length, hl]; rfl
  have hZS : ZL.length = 32 := by rw [hZL, bvals_length, List.length_replicate]
  have hXF : 0 + (bvals l).length ≤ ZL.length := by rw [hXL, hZS]; decide
  have hPOS : 0 < (bvals l).length → some (⟨G, 0, none⟩ : Addr) = some ⟨G, 0, none⟩ ∧ ∃ ad, sa = some ad ∧ ∀ j u, (bvals l)[j]? = some u → w.cell? (ad.add j) = some u := fun _ => ⟨rfl, _, ha (by omega), fun j u hj => by
    have hjl : j < l.length := by have := (List.getElem?_eq_some_iff.1 hj).1; rwa [bvals_length] at this
    rw [Addr.add_mid, hc j hjl, ← hj, bvals_get _ _ hjl]⟩
  have hSP : splice ZL 0 (bvals l) = bvals l := by rw [hZL]; exact splice_all l 32 hl
  conv => arg 2; whnf
  refine wp_region_lit ?_
  refine wpList_val (.slice (some ⟨G, 0, none⟩) 32 32) rfl ?_ ?_
  · simp only [execOp, Fm_eval 263 f 27 (by decide), h27, Option.map_none, Sem.run_bind, slice23, Result.andThen_ok, Sem.run_pure]
  rw [Fm_put _ _ _ _ (by decide)]
  refine wpList_val (.slice sa 32 sc) rfl ?_ ?_
  · simp only [execOp, Fm_eval 263 _ 25 (by decide), Sem.run_pure, upd]
    rw [if_neg (by decide), h25]
  rw [Fm_put _ _ _ _ (by decide)]
  refine wpList_copy_splice rfl (.tmp 259) (.tmp 260) 30 30 rfl 5 Tryd.underlying30 (by kernel_rfl) _ _ 32 32 _ _ (by rw [Fm_eval _ _ _ (by decide)]; rfl) (by rw [Fm_eval _ _ _ (by decide)]; rfl) G 0 ZL 23 hg (bvals l) hXL hPOS hXF (bvals_one l) G _ (Below.refl _ _) (Nat.le_refl _) ?_
  intro w2 HG2 hB2
  rw [Fm_put _ _ _ _ (by decide)]
  refine wpList_nil (hQ _ w2 (by rw [← hSP]; exact HG2.out) ⟨hB2.os, hB2.tape, hB2.output, hB2.size, fun k hk hne => hB2.block k (by omega)⟩ (fun j hj => ?_))
  simp only [List.mem_cons, List.not_mem_nil, or_false] at hj
  rcases hj with rfl | rfl
  · rfl
  · rfl
noncomputable def r40Code : Code := ((Tryd.f22.body.bind (oneRegion 40)).getD .skip)
set_option maxHeartbeats 4000000 in
set_option maxRecDepth 1000000 in
theorem r40 (G N : Nat) (D : Array Value) (f : Nat → Value) (hf : ∀ p ∈ ([(2, (.pointer (some ⟨N, 0, none⟩))), (27, (.pointer (some ⟨G, 0, none⟩)))] : List (Nat × Value)), f p.1 = p.2) (w : World) (K0 : Act → World → Prop) (old : Array Value) (hG : w.heap[G]? = some (.cells D 23 (0, 0))) (hN : w.heap[N]? = some (.cells old 23 (0, 0))) (hi : (Tryd.prog.info? 23).map (·.size) = some D.size) (hsz : old.size = D.size) (h1 : D.all (·.oneCell') = true)
    (hQ : ∀ (f' : Nat → Value) ,  (∀ j ∈ [2], f' j = f j) → K0 (Fm 263 f') (w.setRow N D)) :
    Code.wp Tryd.prog r40Code (Only K0) (Fm 263 f) w := by
  have e : Fm 263 f = ⟨#[f 0, f 1, (.pointer (some ⟨N, 0, none⟩)), f 3, f 4, f 5, f 6, f 7, f 8, f 9, f 10, f 11, f 12, f 13, f 14, f 15, f 16, f 17, f 18, f 19, f 20, f 21, f 22, f 23, f 24, f 25, f 26, (.pointer (some ⟨G, 0, none⟩)), f 28, f 29, f 30, f 31, f 32, f 33, f 34, f 35, f 36, f 37, f 38, f 39, f 40, f 41, f 42, f 43, f 44, f 45, f 46, f 47, f 48, f 49, f 50, f 51, f 52, f 53, f 54, f 55, f 56, f 57, f 58, f 59, f 60, f 61, f 62, f 63, f 64, f 65, f 66, f 67, f 68, f 69, f 70, f 71, f 72, f 73, f 74, f 75, f 76, f 77, f 78, f 79, f 80, f 81, f 82, f 83, f 84, f 85, f 86, f 87, f 88, f 89, f 90, f 91, f 92, f 93, f 94, f 95, f 96, f 97, f 98, f 99, f 100, f 101, f 102, f 103, f 104, f 105, f 106, f 107, f 108, f 109, f 110, f 111, f 112, f 113, f 114, f 115, f 116, f 117, f 118, f 119, f 120, f 121, f 122, f 123, f 124, f 125, f 126, f 127, f 128, f 129, f 130, f 131, f 132, f 133, f 134, f 135, f 136, f 137, f 138, f 139, f 140, f 141, f 142, f 143, f 144, f 145, f 146, f 147, f 148, f 149, f 150, f 151, f 152, f 153, f 154, f 155, f 156, f 157, f 158, f 159, f 160, f 161, f 162, f 163, f 164, f 165, f 166, f 167, f 168, f 169, f 170, f 171, f 172, f 173, f 174, f 175, f 176, f 177, f 178, f 179, f 180, f 181, f 182, f 183, f 184, f 185, f 186, f 187, f 188, f 189, f 190, f 191, f 192, f 193, f 194, f 195, f 196, f 197, f 198, f 199, f 200, f 201, f 202, f 203, f 204, f 205, f 206, f 207, f 208, f 209, f 210, f 211, f 212, f 213, f 214, f 215, f 216, f 217, f 218, f 219, f 220, f 221, f 222, f 223, f 224, f 225, f 226, f 227, f 228, f 229, f 230, f 231, f 232, f 233, f 234, f 235, f 236, f 237, f 238, f 239, f 240, f 241, f 242, f 243, f 244, f 245, f 246, f 247, f 248, f 249, f 250, f 251, f 252, f 253, f 254, f 255, f 256, f 257, f 258, f 259, f 260, f 261, f 262], []⟩ := (congrArg (Fm 263) (ov_self f _ hf)).symm.trans rfl
  rw [e]
  have HQ : ∀ (L : List Value) , L.length = 263 →  (∀ j ∈ [2], L.getD j undef = f j) → K0 ⟨L.toArray, []⟩ (w.setRow N D) := fun L  hl   hk => by
    rw [Fm_of L 263 hl]
    exact hQ _    hk
  have HQ := Lib.hid HQ
  have HFF := Lib.hid hf
  clear hQ hf e
  conv => arg 2; whnf
  have HG := Lib.hid hG
  have HN := Lib.hid hN
  have HI := Lib.hid hi
  have HS := Lib.hid hsz
  have H1 := Lib.hid h1
  clear hG hN hi hsz h1
  go_wp2_with (first | (refine wpList_load_row rfl 23 _ rfl G rfl 23 D (0, 0) _ HG.out Tryd.underlying23 rfl HI.out ?_) | (refine wpList_store_row rfl 23 _ _ rfl N D rfl rfl 23 _ HN.out HI.out HS.out H1.out ?_))
  refine HQ.out _  rfl   (fun j hj => ?_)
  simp only [List.mem_cons, List.not_mem_nil, or_false] at hj
  rcases hj with rfl
  · exact (HFF.out (2, (.pointer (some ⟨N, 0, none⟩))) (by simp)).symm
noncomputable def endCode : Code := ((Tryd.f22.body.bind (fromRegion 33))).getD .skip
theorem endCode_is : endCode = .seq r33Code (.seq (.seq r34Code loop6Code) (.seq r38Code (.seq r39Code (.seq r40Code .ret)))) := by kernel_rfl
set_option maxHeartbeats 1000000 in
theorem end_code (m : List UInt8) (S N : Nat) (f0 : Nat → Value) (h2 : f0 2 = .pointer (some ⟨N, 0, none⟩)) (h3 : f0 3 = .slice (some ⟨S, 0, none⟩) 8 8) (w : World) (hs : w.rowIs S 49 8 (stCell (fin m))) (hN : w.rowIs N 23 32 (fun _ => .int .u8 0)) (Q : Exit → Act → World → Prop)
    (hQ : ∀ (f' : Nat → Value) (w' : World), f' 2 = .pointer (some ⟨N, 0, none⟩) → w'.heap[N]? = some (.cells (digArr m) 23 (0, 0)) → Fr1 N w w' → Q .ret (Fm 263 f') w') :
    Code.wp Tryd.prog endCode Q (Fm 263 f0) w := by
  have hz := (zero_of_info (P := Tryd.prog) zero23j).1
  rw [zerosB 32] at hz
  rw [endCode_is]
  refine wp_seq (wp_mono (r33 f0 (by simp) w _ ?_) Only.then)
  intro f1 x25 k1
  refine wp_seq (wp_seq (wp_mono (r34 f1 (by simp) w _ ?_) Only.then))
  intro f2 x26 k2
  refine wp_mono (loop6_any (fin m) (st_ok _ _) S f2 (by rw [k2 3 (by simp), k1 3 (by simp), h3]) (by rw [k2 25 (by simp), x25]) x26 w hs _ ?_) Only.then
  intro f3 w3 v y25 k3 hB3 hF3
  rw [sBytes_digest] at hB3
  refine wp_seq (wp_mono (r38 _ f3 (by simp) w3 _ hz ?_) Only.then)
  intro f4 x27 k4
  have hN3 := hF3.row hN (fun f => f)
  have hlN := hN3.lt
  obtain ⟨sa, sn, sc, hv⟩ := hB3.slice
  have hsn : sn = 32 := by obtain ⟨_, _, _, _, h, _⟩ := hB3; rw [hv] at h; cases h; exact digest_len' m
  subst hsn
  subst hv
  refine wp_seq (wp_mono (r39 w3.heap.size sa sc (digest m) (digest_len' m) _ rfl f4 (fs2 (x27) ((k4 25 (by simp)).trans y25)) _ _ (heap_alloc_new w3 _) (hB3.fr0 ((Fr.refl _ _).alloc _)) (by simp) ?_) Only.then)
  intro f5 w5 hG5 hF5 k5
  have hN5 := hF5.row (hN3.alloc _) (by omega)
  refine wp_seq (wp_mono (r40 w3.heap.size N (digArr m) f5 (fs2 (((((k5 2 (by simp)).trans (k4 2 (by simp))).trans (k3 2 (by simp))).trans (k2 2 (by simp))).trans ((k1 2 (by simp)).trans h2)) ((k5 27 (by simp)).trans x27)) w5 _ _ hG5 (row_cells hN5) (dig_info23 m) (by simp [digArr_size]) (digArr_one m) ?_) Only.then)
  intro f6 k6
  refine wp_ret (hQ f6 _ ?_ (setRow_heap _ _ _ _ _ _ (row_cells hN5)) ?_)
  · rw [k6 2 (by simp), k5 2 (by simp), k4 2 (by simp), k3 2 (by simp), k2 2 (by simp), k1 2 (by simp), h2]
  · exact Fr.setRow (S := fun k => k = N) (Fr.trans (S := fun k => k = N) (T := fun k => k = w3.heap.size) (Fr.mono (Fr.alloc hF3 _) (fun _ _ h => h.elim)) hF5 (fun i hi h => by have := hF3.size; omega)) (fun _ => rfl) _
end Go.Proofs.YtcdfflieooopjaaDoor.Sha
