/-
  The loops of the reference's Sum beside the rounds: a block's words, the state's sums (made by wip/tools/mkouter.py).
-/
import Derived.Test.YtcdfflieooopjaaDoorRefPieces
namespace Go.Proofs.YtcdfflieooopjaaDoor.Sha
open Go.RowKit Base

def stCell (s : St) (j : Nat) : Value := .int .u32 (s.at j)
theorem fs1 {f : Nat → Value} {a : Nat} {u : Value} (h : f a = u) : ∀ p ∈ ([(a, u)] : List (Nat × Value)), f p.1 = p.2 := by
  intro p hp
  simp only [List.mem_cons, List.not_mem_nil, or_false] at hp
  subst hp
  exact h
theorem fs2 {f : Nat → Value} {a b : Nat} {u v : Value} (h : f a = u) (k : f b = v) : ∀ p ∈ ([(a, u), (b, v)] : List (Nat × Value)), f p.1 = p.2 := by
  intro p hp
  simp only [List.mem_cons, List.not_mem_nil, or_false] at hp
  rcases hp with rfl | rfl
  · exact h
  · exact k
def addCell (s t : St) (k j : Nat) : Value := if j < k then .int .u32 ((s.at j + t.at j) % 4294967296) else .int .u32 (s.at j)
theorem add_at (s t : St) (j : Nat) (hj : j < 8) : (s.add t).at j = (s.at j + t.at j) % 4294967296 := by
  match j, hj with
  | 0, _ | 1, _ | 2, _ | 3, _ | 4, _ | 5, _ | 6, _ | 7, _ => rfl
noncomputable def loop5Code : Code := ((Tryd.f22.body.bind (blockFull 8))).getD .skip
theorem loop5_is : loop5Code = .block 8 (.loop (.seq (.seq r30Code (.cond (.tmp 233) .skip (.exit 8))) (.seq (.block 9 r32Code) r31Code))) := by kernel_rfl
set_option maxHeartbeats 1000000 in
theorem loop5_any (s t : St) (S M : Nat) (hSM : S ≠ M) (f0 : Nat → Value) (h3 : f0 3 = .slice (some ⟨S, 0, none⟩) 8 8) (h23 : f0 23 = .slice (some ⟨M, 0, none⟩) 8 8) (h24 : f0 24 = .int .i64 0) (w : World)
    (hs : w.rowIs S 49 8 (stCell s)) (hm : w.rowIs M 49 8 (stCell t)) (K0 : Act → World → Prop)
    (hQ : ∀ (f' : Nat → Value) (w2 : World), (∀ j ∈ [2, 3, 4, 5], f' j = f0 j) → w2.rowIs S 49 8 (stCell (s.add t)) → Fr1 S w w2 → K0 (Fm 263 f') w2) :
    Code.wp Tryd.prog loop5Code (Only K0) (Fm 263 f0) w := by
  rw [loop5_is]
  refine wp_block (wp_loop (fun a' w' => ∃ (k : Nat) (f : Nat → Value), a' = Fm 263 f ∧ k ≤ 8 ∧ f 24 = .int .i64 (k : Int) ∧ (∀ j ∈ [2, 3, 4, 5, 23], f j = f0 j) ∧ w'.rowIs S 49 8 (addCell s t k) ∧ w'.rowIs M 49 8 (stCell t) ∧ Fr1 S w w')
    (fun a' _ => 8 - (intOf (a'.eval (.tmp 24))).toNat) ?_ ?_)
  · exact ⟨0, f0, rfl, by omega, h24, fun _ _ => rfl, hs.congr (fun i _ => by simp [addCell, stCell]), hm, Fr.refl _ _⟩
  · rintro _ wr ⟨k, f, rfl, hk, e24, hkeep, hrs, hrm, hF⟩
    refine wp_seq (wp_seq (wp_mono (r30 k hk f (by simp [e24]) wr _ ?_) Only.then))
    intro f1 e233 k1
    by_cases hlt : k < 8
    · have hd : decide ((k : Int) < 8) = true := by rw [decide_eq_true_eq]; omega
      rw [hd] at e233
      refine wp_cond_true ((Fm_eval _ _ _ (by decide)).trans e233) (wp_skip ?_)
      refine wp_seq (wp_block ?_)
      refine wp_mono (r32 k S M (s.at k) (t.at k) hlt f1 (by simp [k1, hkeep, e24, h3, h23]) wr _ (by rw [hrs.cell (i := k) hlt]; simp [addCell]) (by rw [hrm.cell (i := k) hlt]; rfl) (hrs.frozen k) ?_) Only.inBlock
      intro f2 v hv k2
      refine wp_mono (r31 k hlt f2 (by simp [k2, k1, e24]) _ _ ?_) Only.then
      intro f3 x24 k3
      refine ⟨⟨k + 1, f3, rfl, by omega, by rw [x24]; rfl, ?_, ?_, ?_, ?_⟩, ?_⟩
      · intro j hj
        rw [k3 j (by simp at hj ⊢; omega), k2 j (by simp at hj ⊢; omega), k1 j (by simp at hj ⊢; omega)]
        exact hkeep j hj
      · refine (hrs.drew.set k _).congr (fun i hi => ?_)
        rw [hv]
        unfold addCell
        by_cases h : i = k
        · subst h; rw [if_pos rfl, if_pos (by omega)]
        · rw [if_neg h]
          by_cases h' : i < k
          · rw [if_pos h', if_pos (by omega)]
          · rw [if_neg h', if_neg (by omega)]
      · exact hrm.drew.setOther (by simpa using (Ne.symm hSM)) _
      · exact Fr.setCell hF.drew (fun _ => rfl) _
      · rw [Fm_eval _ _ _ (by decide), Fm_eval _ _ _ (by decide), x24, e24]
        simp only [intOf]
        omega
    · have hd : decide ((k : Int) < 8) = false := by rw [decide_eq_false_iff_not]; omega
      rw [hd] at e233
      have hk8 : k = 8 := by omega
      subst hk8
      refine wp_cond_false ((Fm_eval _ _ _ (by decide)).trans e233) (wp_exit ?_)
      exact hQ f1 wr (fun j hj => (k1 j (by simp at hj ⊢; omega)).trans (hkeep j (by simp at hj ⊢; omega))) (hrs.congr (fun i hi => by unfold addCell stCell; rw [if_pos hi, add_at s t i hi])) hF

noncomputable def r14Code : Code := ((Tryd.f22.body.bind (oneRegion 14)).getD .skip)
set_option maxHeartbeats 4000000 in
set_option maxRecDepth 1000000 in
theorem r14 (P : List UInt8) (q k base : Nat) (pa : Option Addr) (n4 pc at_ : Nat) (v : Value) (hk : k < 16) (hat : at_ = 64 * q) (hat2 : at_ ≤ 4194304) (f : Nat → Value) (hf : ∀ p ∈ ([(4, (.slice pa n4 pc)), (5, (.int .i64 (at_ : Int))), (6, v), (7, (.int .i64 (k : Int)))] : List (Nat × Value)), f p.1 = p.2) (w : World) (K0 : Act → World → Prop) (hn4 : n4 = P.length) (hP : BytesIs w (.slice pa n4 pc) P) (hPl : 64 * q + 64 ≤ P.length) (hown : w.ownsRow base 49 1 v k ((sch (blk P q) k).map (.int .u32))) (hbase : base ≤ w.heap.size)
    (hQ : ∀ (f' : Nat → Value) (g : Nat) (cap : Nat) (w2 : World), w2.ownsRow base 49 1 (.slice (some ⟨g, 0, none⟩) (k + 1) cap) (k + 1) ((sch (blk P q) (k + 1)).map (.int .u32)) → Fr (fun b => base ≤ b) w w2 → f' 6 = .slice (some ⟨g, 0, none⟩) (k + 1) cap → (∀ j ∈ [2, 3, 4, 5, 7], f' j = f j) → K0 (Fm 263 f') w2) :
    Code.wp Tryd.prog r14Code (Only K0) (Fm 263 f) w := by
  have e : Fm 263 f = ⟨#[f 0, f 1, f 2, f 3, (.slice pa n4 pc), (.int .i64 (at_ : Int)), v, (.int .i64 (k : Int)), f 8, f 9, f 10, f 11, f 12, f 13, f 14, f 15, f 16, f 17, f 18, f 19, f 20, f 21, f 22, f 23, f 24, f 25, f 26, f 27, f 28, f 29, f 30, f 31, f 32, f 33, f 34, f 35, f 36, f 37, f 38, f 39, f 40, f 41, f 42, f 43, f 44, f 45, f 46, f 47, f 48, f 49, f 50, f 51, f 52, f 53, f 54, f 55, f 56, f 57, f 58, f 59, f 60, f 61, f 62, f 63, f 64, f 65, f 66, f 67, f 68, f 69, f 70, f 71, f 72, f 73, f 74, f 75, f 76, f 77, f 78, f 79, f 80, f 81, f 82, f 83, f 84, f 85, f 86, f 87, f 88, f 89, f 90, f 91, f 92, f 93, f 94, f 95, f 96, f 97, f 98, f 99, f 100, f 101, f 102, f 103, f 104, f 105, f 106, f 107, f 108, f 109, f 110, f 111, f 112, f 113, f 114, f 115, f 116, f 117, f 118, f 119, f 120, f 121, f 122, f 123, f 124, f 125, f 126, f 127, f 128, f 129, f 130, f 131, f 132, f 133, f 134, f 135, f 136, f 137, f 138, f 139, f 140, f 141, f 142, f 143, f 144, f 145, f 146, f 147, f 148, f 149, f 150, f 151, f 152, f 153, f 154, f 155, f 156, f 157, f 158, f 159, f 160, f 161, f 162, f 163, f 164, f 165, f 166, f 167, f 168, f 169, f 170, f 171, f 172, f 173, f 174, f 175, f 176, f 177, f 178, f 179, f 180, f 181, f 182, f 183, f 184, f 185, f 186, f 187, f 188, f 189, f 190, f 191, f 192, f 193, f 194, f 195, f 196, f 197, f 198, f 199, f 200, f 201, f 202, f 203, f 204, f 205, f 206, f 207, f 208, f 209, f 210, f 211, f 212, f 213, f 214, f 215, f 216, f 217, f 218, f 219, f 220, f 221, f 222, f 223, f 224, f 225, f 226, f 227, f 228, f 229, f 230, f 231, f 232, f 233, f 234, f 235, f 236, f 237, f 238, f 239, f 240, f 241, f 242, f 243, f 244, f 245, f 246, f 247, f 248, f 249, f 250, f 251, f 252, f 253, f 254, f 255, f 256, f 257, f 258, f 259, f 260, f 261, f 262], []⟩ := (congrArg (Fm 263) (ov_self f _ hf)).symm.trans rfl
  rw [e]
  have HQ : ∀ (L : List Value) (g : Nat) (cap : Nat) (w2 : World), L.length = 263 → w2.ownsRow base 49 1 (.slice (some ⟨g, 0, none⟩) (k + 1) cap) (k + 1) ((sch (blk P q) (k + 1)).map (.int .u32)) → Fr (fun b => base ≤ b) w w2 → L.getD 6 undef = .slice (some ⟨g, 0, none⟩) (k + 1) cap → (∀ j ∈ [2, 3, 4, 5, 7], L.getD j undef = f j) → K0 ⟨L.toArray, []⟩ w2 := fun L g cap w2 hl q0 q1 e6 hk => by
    rw [Fm_of L 263 hl]
    exact hQ _ g cap w2 q0 q1 e6 hk
  have HQ := Lib.hid HQ
  have HFF := Lib.hid hf
  clear hQ hf e
  conv => arg 2; whnf
  obtain ⟨a', c', hcB, hcut⟩ := hP.cut (P := Tryd.prog) 30 5 Tryd.underlying30 (by kernel_rfl) (at_ + 4 * k) (at_ + 4 * k + 4) (by omega) (by omega)
  rw [show at_ + 4 * k + 4 - (at_ + 4 * k) = 4 from by omega] at hcB
  have HCB := Lib.hid hcB
  have hcut2 : ∀ wx : World, (Instr.sliceAt 30 (.slice pa n4 pc) (some (.int .i64 ((at_ : Int) + 4 * (k : Int)))) (some (.int .i64 ((at_ : Int) + 4 * (k : Int) + 4))) none).run Tryd.prog wx = .ok (.slice a' 4 c') wx := fun wx => by
    have h := hcut wx
    rw [show at_ + 4 * k + 4 - (at_ + 4 * k) = 4 from by omega] at h
    exact h
  have HPL := Lib.hid hPl
  have HOWN := Lib.hid hown
  have HAT := Lib.hid hat
  clear hcut hcB hown hP hat hn4 hPl
  go_wp2_with fail
  refine (num_word _ P q k hk HPL.out w (by have h := HCB.out; rw [HAT.out] at h; exact h)).mono ?_
  rintro e w' ⟨rfl, rfl⟩
  clear HCB
  have hwl := W_lt (blk P q) k (by omega)
  generalize hWk : W (blk P q) k = WK at hwl
  have HWK := Lib.hid hWk
  clear hWk
  obtain ⟨e5, hi5, hz0, hz1, hz2⟩ := info_parts infoU32
  go_wp2_with (refine wpList_append_lies _ rfl (.tmp 58) (.tmp 72) 67 rfl base 49 e5 (.int .u32 0) 1 4 Tryd.underlying67 hi5 hz0 hz1 hz2 rfl (by decide) _ k _ rfl (HOWN.out.alloc _) ⟨w.heap.size, 0, none⟩ 1 1 _ rfl rfl (one_cell w _ _) (by intro u hu; simp at hu; subst hu; rfl) (by omega) (by unfold maxLen; omega) (by omega) (by simp; omega) (w.heap.size + 1) (by simp) ?_; intro g cap w2 hown2 hgr2 hor hlt2)
  have HX : Hid (w2.ownsRow base 49 1 (.slice (some ⟨g, 0, none⟩) (k + 1) cap) (k + 1) ((sch (blk P q) (k + 1)).map (.int .u32))) := Lib.hid (by
    rw [words_next _ _ (by omega), HWK.out]; exact hown2)
  have HFX2 : Hid (Fr (fun b => base ≤ b) w w2) := Lib.hid (Fr.grown (Fr.alloc (Fr.refl _ _) _) hgr2 (fun q' hq' e => (HOWN.out.lt q' e).1))
  clear hown2 hgr2 hor
  go_wp2_with fail
  refine HQ.out _ _ _ _ rfl HX.out HFX2.out rfl (fun j hj => ?_)
  simp only [List.mem_cons, List.not_mem_nil, or_false] at hj
  rcases hj with rfl | rfl | rfl | rfl | rfl
  · rfl
  · rfl
  · exact (HFF.out (4, (.slice pa n4 pc)) (by simp)).symm
  · exact (HFF.out (5, (.int .i64 (at_ : Int))) (by simp)).symm
  · exact (HFF.out (7, (.int .i64 (k : Int))) (by simp)).symm
noncomputable def loop3Code : Code := ((Tryd.f22.body.bind (blockFull 4))).getD .skip
theorem loop3_is : loop3Code = .block 4 (.loop (.seq (.seq r12Code (.cond (.tmp 55) .skip (.exit 4))) (.seq (.block 5 r14Code) r13Code))) := by kernel_rfl
set_option maxHeartbeats 1000000 in
theorem loop3_any (P : List UInt8) (q : Nat) (pa : Option Addr) (n4 pc at_ : Nat) (hat : at_ = 64 * q) (hat2 : at_ ≤ 4194304) (f0 : Nat → Value) (h4 : f0 4 = .slice pa n4 pc) (h5 : f0 5 = .int .i64 (at_ : Int)) (h6 : f0 6 = .slice none 0 0) (h7 : f0 7 = .int .i64 0) (w : World)
    (hn4 : n4 = P.length) (hP : BytesIs w (.slice pa n4 pc) P) (hPl : 64 * q + 64 ≤ P.length) (K0 : Act → World → Prop)
    (hQ : ∀ (f' : Nat → Value) (w2 : World) (g cap : Nat), f' 6 = .slice (some ⟨g, 0, none⟩) 16 cap → (∀ j ∈ [2, 3, 4, 5], f' j = f0 j) → w2.ownsRow w.heap.size 49 1 (.slice (some ⟨g, 0, none⟩) 16 cap) 16 ((sch (blk P q) 16).map (.int .u32)) → Fr0 w w2 → K0 (Fm 263 f') w2) :
    Code.wp Tryd.prog loop3Code (Only K0) (Fm 263 f0) w := by
  rw [loop3_is]
  refine wp_block (wp_loop (fun a' w' => ∃ (k : Nat) (f : Nat → Value) (v : Value), a' = Fm 263 f ∧ k ≤ 16 ∧ f 7 = .int .i64 (k : Int) ∧ f 6 = v ∧ (∀ j ∈ [2, 3, 4, 5], f j = f0 j) ∧ w'.ownsRow w.heap.size 49 1 v k ((sch (blk P q) k).map (.int .u32)) ∧ Fr0 w w')
    (fun a' _ => 16 - (intOf (a'.eval (.tmp 7))).toNat) ?_ ?_)
  · exact ⟨0, f0, _, rfl, by omega, h7, h6, fun _ _ => rfl, ⟨rfl, .inl ⟨rfl, rfl⟩⟩, Fr.refl _ _⟩
  · rintro _ wr ⟨k, f, v, rfl, hk, e7, e6, hkeep, hown, hF⟩
    refine wp_seq (wp_seq (wp_mono (r12 k hk f (by simp [e7]) wr _ ?_) Only.then))
    intro f1 e55 k1
    by_cases hlt : k < 16
    · have hd : decide ((k : Int) < 16) = true := by rw [decide_eq_true_eq]; omega
      rw [hd] at e55
      refine wp_cond_true ((Fm_eval _ _ _ (by decide)).trans e55) (wp_skip ?_)
      refine wp_seq (wp_block ?_)
      refine wp_mono (r14 P q k w.heap.size pa n4 pc at_ v hlt hat hat2 f1 (by simp [k1, hkeep, e6, e7, h4, h5]) wr _ hn4 (hP.fr0 hF) hPl hown hF.size ?_) Only.inBlock
      intro f2 g cap w2 hown2 hF2 x6 k2
      refine wp_mono (r13 k hlt f2 (by simp [k2, k1, e7]) w2 _ ?_) Only.then
      intro f3 x7 k3
      refine ⟨⟨k + 1, f3, .slice (some ⟨g, 0, none⟩) (k + 1) cap, rfl, by omega, by rw [x7]; rfl, by rw [k3 6 (by simp), x6], ?_, hown2, hF.trans hF2 (fun i hi h => by omega)⟩, ?_⟩
      · intro j hj
        rw [k3 j (by simp at hj ⊢; omega), k2 j (by simp at hj ⊢; omega), k1 j (by simp at hj ⊢; omega)]
        exact hkeep j hj
      · rw [Fm_eval _ _ _ (by decide), Fm_eval _ _ _ (by decide), x7, e7]
        simp only [intOf]
        omega
    · have hd : decide ((k : Int) < 16) = false := by rw [decide_eq_false_iff_not]; omega
      rw [hd] at e55
      have hk16 : k = 16 := by omega
      subst hk16
      refine wp_cond_false ((Fm_eval _ _ _ (by decide)).trans e55) (wp_exit ?_)
      obtain ⟨g, cap, hv, _, _⟩ := hown.form (by decide)
      subst hv
      exact hQ f1 wr g cap (by rw [k1 6 (by simp), e6]) (fun j hj => (k1 j (by simp at hj ⊢; omega)).trans (hkeep j hj)) hown hF
end Go.Proofs.YtcdfflieooopjaaDoor.Sha
