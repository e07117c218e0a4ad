/-
  The blocks of a message, one behind the other: the reference's outer loop (made by wip/tools/mkouter.py).
-/
import Derived.Test.YtcdfflieooopjaaDoorRefLoopB
namespace Go.Proofs.YtcdfflieooopjaaDoor.Sha
open Go.RowKit Base

noncomputable def outerCode : Code := ((Tryd.f22.body.bind (blockFull 2))).getD .skip
theorem outer_is : outerCode = .block 2 (.loop (.seq (.seq r8Code (.cond (.tmp 51) .skip (.exit 2))) (.seq (.block 3 (.seq r10Code (.seq (.seq r11Code loop3Code) (.seq r15Code (.seq (.seq r16Code loop4Code) (.seq r28Code (.seq r29Code loop5Code))))))) r9Code))) := by kernel_rfl
theorem more_row (w : World) (t : St) : (w.alloc (.cells #[.int .u32 t.a, .int .u32 t.b, .int .u32 t.c, .int .u32 t.d, .int .u32 t.e, .int .u32 t.f, .int .u32 t.g, .int .u32 t.h] 49)).rowIs w.heap.size 49 8 (stCell t) :=
  rowIs_new w _ _ 8 _ rfl (fun i hi => by
    match i, hi with
    | 0, _ | 1, _ | 2, _ | 3, _ | 4, _ | 5, _ | 6, _ | 7, _ => rfl)
set_option maxHeartbeats 2000000 in
theorem outer_any (P : List UInt8) (Q S : Nat) (pa : Option Addr) (n4 pc : Nat) (hPl : P.length = 64 * Q) (hn4 : n4 = P.length) (hQ3 : Q ≤ 32768) (f0 : Nat → Value) (h3 : f0 3 = .slice (some ⟨S, 0, none⟩) 8 8) (h4 : f0 4 = .slice pa n4 pc) (h5 : f0 5 = .int .i64 0) (w : World)
    (hP : BytesIs w (.slice pa n4 pc) P) (hPS : ∀ a : Addr, pa = some a → a.block ≠ S) (hs : w.rowIs S 49 8 (stCell init)) (K0 : Act → World → Prop)
    (hQ : ∀ (f' : Nat → Value) (w2 : World), (∀ j ∈ [2, 3, 4], f' j = f0 j) → w2.rowIs S 49 8 (stCell (st P Q)) → Fr1 S w w2 → K0 (Fm 263 f') w2) :
    Code.wp Tryd.prog outerCode (Only K0) (Fm 263 f0) w := by
  rw [outer_is]
  refine wp_block (wp_loop (fun a' w' => ∃ (q : Nat) (f : Nat → Value), a' = Fm 263 f ∧ q ≤ Q ∧ f 5 = .int .i64 ((64 * q : Nat) : Int) ∧ (∀ j ∈ [2, 3, 4], f j = f0 j) ∧ w'.rowIs S 49 8 (stCell (st P q)) ∧ Fr1 S w w')
    (fun a' _ => 64 * Q - (intOf (a'.eval (.tmp 5))).toNat) ?_ ?_)
  · exact ⟨0, f0, rfl, by omega, h5, fun _ _ => rfl, hs, Fr.refl _ _⟩
  · rintro _ wr ⟨q, f, rfl, hq, e5, hkeep, hrs, hF⟩
    refine wp_seq (wp_seq (wp_mono (r8 pa n4 pc (64 * q) (by omega) (by omega) f (fs2 ((hkeep 4 (by simp)).trans h4) (e5)) wr _ ?_) Only.then))
    intro f1 e51 k1
    by_cases hlt : q < Q
    · have hd : decide (64 * q < n4) = true := by rw [decide_eq_true_eq]; omega
      rw [hd] at e51
      refine wp_cond_true ((Fm_eval _ _ _ (by decide)).trans e51) (wp_skip ?_)
      refine wp_seq (wp_block ?_)
      have hPr : BytesIs wr (.slice pa n4 pc) P := hP.fr hF (fun a n c e => by cases e; exact hPS a rfl)
      refine wp_seq (wp_mono (r10 f1 (by simp) wr _ ?_) Only.then)
      intro f2 e6 k2
      refine wp_seq (wp_seq (wp_mono (r11 f2 (by simp) wr _ ?_) Only.then))
      intro f3 e7 k3
      have g3 : ∀ j ∈ [2, 3, 4], f3 j = f0 j := fun j hj => by
        rw [k3 j (by simp at hj ⊢; omega), k2 j (by simp at hj ⊢; omega), k1 j (by simp at hj ⊢; omega)]; exact hkeep j hj
      have g5 : f3 5 = .int .i64 ((64 * q : Nat) : Int) := by rw [k3 5 (by simp), k2 5 (by simp), k1 5 (by simp)]; exact e5
      refine wp_mono (loop3_any P q pa n4 pc (64 * q) rfl (by omega) f3 ((g3 4 (by simp)).trans h4) g5 (by rw [k3 6 (by simp), e6]) e7 wr hn4 hPr (by omega) _ ?_) Only.then
      intro f4 w4 g cap x6 k4 hown4 hF4
      have hr4 := hF4.row hrs (fun f => f)
      have hc := fun i (hi : i < 8) => hr4.cell (i := i) hi
      refine wp_seq (wp_mono (r15 S (st P q).a (st P q).b (st P q).c (st P q).d (st P q).e (st P q).f (st P q).g (st P q).h f4 (fs1 (((k4 3 (by simp)).trans (g3 3 (by simp))).trans h3)) w4 _ (hc 0 (by omega)) (hc 1 (by omega)) (hc 2 (by omega)) (hc 3 (by omega)) (hc 4 (by omega)) (hc 5 (by omega)) (hc 6 (by omega)) (hc 7 (by omega)) ?_) Only.then)
      intro f5 m y8 y9 y10 y11 y12 y13 y14 y15 k5
      refine wp_seq (wp_seq (wp_mono (r16 f5 (by simp) _ _ ?_) Only.then))
      intro f6 y16 k6
      have hown6 : (w4.drewN m).ownsRow wr.heap.size 49 1 (.slice (some ⟨g, 0, none⟩) 16 cap) 16 ((sch (blk P q) 16).map (.int .u32)) := hown4
      refine wp_mono (loop4_any (blk P q) (st P q) (st_ok P q) g cap wr.heap.size f6 (by rw [k6 6 (by simp), k5 6 (by simp), x6]) (by rw [k6 8 (by simp), y8]) (by rw [k6 9 (by simp), y9]) (by rw [k6 10 (by simp), y10]) (by rw [k6 11 (by simp), y11]) (by rw [k6 12 (by simp), y12]) (by rw [k6 13 (by simp), y13]) (by rw [k6 14 (by simp), y14]) (by rw [k6 15 (by simp), y15]) y16 _ hown6 hF4.size _ ?_) Only.then
      intro f7 w7 g' cap' x67 z8 z9 z10 z11 z12 z13 z14 z15 k7 hown7 hF7
      have hlr := hrs.lt
      have hr7 : w7.rowIs S 49 8 (stCell (st P q)) := hF7.row (rowIs_drewN hr4 m) (by omega)
      refine wp_seq (wp_mono (r28 (rds K (W (blk P q)) 64 (st P q)).a (rds K (W (blk P q)) 64 (st P q)).b (rds K (W (blk P q)) 64 (st P q)).c (rds K (W (blk P q)) 64 (st P q)).d (rds K (W (blk P q)) 64 (st P q)).e (rds K (W (blk P q)) 64 (st P q)).f (rds K (W (blk P q)) 64 (st P q)).g (rds K (W (blk P q)) 64 (st P q)).h f7 (by simp [z8, z9, z10, z11, z12, z13, z14, z15]) w7 _ ?_) Only.then)
      intro f8 y23 k8
      refine wp_seq (wp_mono (r29 f8 (by simp) _ _ ?_) Only.then)
      intro f9 y24 k9
      have hl7 := hr7.lt
      have g9 : ∀ j ∈ [2, 3, 4], f9 j = f0 j := fun j hj => by
        rw [k9 j (by simp at hj ⊢; omega), k8 j (by simp at hj ⊢; omega), k7 j (by simp at hj ⊢; omega), k6 j (by simp at hj ⊢; omega), k5 j (by simp at hj ⊢; omega), k4 j (by simp at hj ⊢; omega)]; exact g3 j hj
      have g95 : f9 5 = .int .i64 ((64 * q : Nat) : Int) := by
        rw [k9 5 (by simp), k8 5 (by simp), k7 5 (by simp), k6 5 (by simp), k5 5 (by simp), k4 5 (by simp)]; exact g5
      refine wp_mono (loop5_any (st P q) (rds K (W (blk P q)) 64 (st P q)) S w7.heap.size (by omega) f9 ((g9 3 (by simp)).trans h3) (by rw [k9 23 (by simp), y23]) y24 _ (hr7.alloc _) (more_row w7 _) _ ?_) Only.inBlock
      intro f10 w10 k10 hr10 hF10
      refine wp_mono (r9 (64 * q) (by omega) f10 (fs1 ((k10 5 (by simp)).trans g95)) w10 _ ?_) Only.then
      intro f11 x5 k11
      refine ⟨⟨q + 1, f11, rfl, by omega, by rw [x5]; congr 1, ?_, hr10, ?_⟩, ?_⟩
      · intro j hj
        rw [k11 j hj, k10 j (by simp at hj ⊢; omega)]; exact g9 j hj
      · have hF47 : Fr1 S wr w7 := (Fr.mono hF4 (fun _ _ h => h.elim)).trans ((Fr.drewN (Fr.refl _ _) m).trans' hF7) (fun i hi h => by omega)
        exact hF.trans' ((hF47.alloc _).trans' hF10)
      · rw [Fm_eval _ _ _ (by decide), Fm_eval _ _ _ (by decide), x5, e5]
        simp only [intOf]
        omega
    · have hd : decide (64 * q < n4) = false := by rw [decide_eq_false_iff_not]; omega
      rw [hd] at e51
      have hqQ : q = Q := by omega
      subst hqQ
      refine wp_cond_false ((Fm_eval _ _ _ (by decide)).trans e51) (wp_exit ?_)
      exact hQ f1 wr (fun j hj => (k1 j (by simp at hj ⊢; omega)).trans (hkeep j hj)) hrs hF
end Go.Proofs.YtcdfflieooopjaaDoor.Sha
