/-
  The 64 rounds of the reference's Sum, the loop (made by wip/tools/mkpiece.py).
-/
import Derived.Test.YtcdfflieooopjaaDoorRefRounds
namespace Go.Proofs.YtcdfflieooopjaaDoor.Sha
open Go.RowKit Base

noncomputable def loop4Code : Code := ((Tryd.f22.body.bind (blockFull 6))).getD .skip
theorem loop4_is : loop4Code = .block 6 (.loop (.seq (.seq r17Code (.cond (.tmp 99) .skip (.exit 6))) (.seq (.block 7 (.seq (.seq r19Code cond103) tail4Code)) r18Code))) := by kernel_rfl
def L4 (f0 : Nat → Value) (B : Nat → Int) (T0 : St) (base : Nat) (w0 : World) (a' : Act) (w' : World) (k : Nat) : Prop :=
  ∃ (f : Nat → Value) (n g cap : Nat) (T : St), a' = Fm 263 f ∧ k ≤ 64 ∧ n = (if k < 16 then 16 else k) ∧ rds K (W B) k T0 = T ∧ f 6 = .slice (some ⟨g, 0, none⟩) n cap ∧ f 8 = .int .u32 T.a ∧ f 9 = .int .u32 T.b ∧ f 10 = .int .u32 T.c ∧ f 11 = .int .u32 T.d ∧ f 12 = .int .u32 T.e ∧ f 13 = .int .u32 T.f ∧ f 14 = .int .u32 T.g ∧ f 15 = .int .u32 T.h ∧ f 16 = .int .i64 (k : Int) ∧ (∀ j ∈ [2, 3, 4, 5, 7], f j = f0 j) ∧
    w'.ownsRow base 49 1 (.slice (some ⟨g, 0, none⟩) n cap) n ((sch B n).map (.int .u32)) ∧ Fr (fun b => base ≤ b) w0 w'
set_option maxHeartbeats 1000000 in
theorem loop4_any (B : Nat → Int) (T0 : St) (okT0 : T0.ok) (g cap base : Nat) (f0 : Nat → Value) (h6 : f0 6 = .slice (some ⟨g, 0, none⟩) 16 cap) (h8 : f0 8 = .int .u32 T0.a) (h9 : f0 9 = .int .u32 T0.b) (h10 : f0 10 = .int .u32 T0.c) (h11 : f0 11 = .int .u32 T0.d) (h12 : f0 12 = .int .u32 T0.e) (h13 : f0 13 = .int .u32 T0.f) (h14 : f0 14 = .int .u32 T0.g) (h15 : f0 15 = .int .u32 T0.h) (h16 : f0 16 = .int .i64 0) (w : World)
    (hown : w.ownsRow base 49 1 (.slice (some ⟨g, 0, none⟩) 16 cap) 16 ((sch B 16).map (.int .u32))) (hbase : base ≤ w.heap.size) (K0 : Act → World → Prop)
    (hQ : ∀ (f' : Nat → Value) (w2 : World) (g' cap' : Nat), f' 6 = .slice (some ⟨g', 0, none⟩) 64 cap' → f' 8 = .int .u32 (rds K (W B) 64 T0).a → f' 9 = .int .u32 (rds K (W B) 64 T0).b → f' 10 = .int .u32 (rds K (W B) 64 T0).c → f' 11 = .int .u32 (rds K (W B) 64 T0).d → f' 12 = .int .u32 (rds K (W B) 64 T0).e → f' 13 = .int .u32 (rds K (W B) 64 T0).f → f' 14 = .int .u32 (rds K (W B) 64 T0).g → f' 15 = .int .u32 (rds K (W B) 64 T0).h → (∀ j ∈ [2, 3, 4, 5, 7], f' j = f0 j) →
      w2.ownsRow base 49 1 (.slice (some ⟨g', 0, none⟩) 64 cap') 64 ((sch B 64).map (.int .u32)) → Fr (fun b => base ≤ b) w w2 → K0 (Fm 263 f') w2) :
    Code.wp Tryd.prog loop4Code (Only K0) (Fm 263 f0) w := by
  rw [loop4_is]
  refine wp_block (wp_loop (fun a' w' => ∃ k, L4 f0 B T0 base w a' w' k) (fun a' _ => 64 - (intOf (a'.eval (.tmp 16))).toNat) ?_ ?_)
  · exact ⟨0, f0, 16, g, cap, T0, rfl, by omega, by simp, rfl, h6, h8, h9, h10, h11, h12, h13, h14, h15, h16, fun _ _ => rfl, hown, Fr.refl _ _⟩
  · rintro _ wr ⟨k, f, n, g, cap, T, rfl, hk, hn, hT, e6, e8, e9, e10, e11, e12, e13, e14, e15, e16, hkeep, hown, hF⟩
    refine wp_seq (wp_seq (wp_mono (r17 k hk f (by simp [e16]) wr _ ?_) Only.then))
    intro f1 e99 k1
    have q := fun j (hj : j ∈ [2, 3, 4, 5, 7]) => (k1 j (by simp at hj ⊢; omega)).trans (hkeep j hj)
    by_cases hlt : k < 64
    · have hd : decide ((k : Int) < 64) = true := by rw [decide_eq_true_eq]; omega
      rw [hd] at e99
      refine wp_cond_true ((Fm_eval _ _ _ (by decide)).trans e99) (wp_skip ?_)
      refine wp_seq (wp_block ?_)
      refine wp_seq (wp_seq (wp_mono (r19 k hlt f1 (by simp [k1, e16]) wr _ ?_) Only.then))
      intro f2 e103 k2
      refine wp_mono (condF B k n g cap base hn hlt f2 (by simp [k2, k1, e6, e16, e103]) wr _ hown (Nat.le_trans hbase hF.size) ?_) Only.then
      intro f3 w3 g' n' cap' hn' hown3 hF3 e63 k3
      have hkn : k < n' := by rw [hn']; split <;> omega
      have okT : T.ok := by rw [← hT]; exact rds_ok _ _ okT0 k
      have hn64 : n' ≤ 64 := by rw [hn']; split <;> omega
      have hcell : w3.cell? ⟨g', k, none⟩ = some (.int .u32 (W B k)) := by
        rw [hown3.cellAt k (by omega)]
        exact words_get _ n' k hkn hn64
      refine wp_mono (tail4F k n' g' cap' T.a T.b T.c T.d T.e T.f T.g T.h (W B k) hlt hkn f3 (by simp [k3, k2, k1, e63, e8, e9, e10, e11, e12, e13, e14, e15, e16]) w3 _ (okT 0) (okT 1) (okT 2) (okT 3) (okT 4) (okT 5) (okT 6) (okT 7) hcell ?_) Only.inBlock
      intro f4 w4 hF4 x8 x9 x10 x11 x12 x13 x14 x15 k4
      refine wp_mono (r18 k hlt f4 (by simp [k4, k3, k2, k1, e16]) w4 _ ?_) Only.then
      intro f5 x16 k5
      refine ⟨⟨k + 1, f5, n', g', cap', rstep (K k) (W B k) T, rfl, by omega, hn', by rw [← hT]; rfl, ?_, ?_, ?_, ?_, ?_, ?_, ?_, ?_, ?_, by rw [x16]; rfl, ?_, ?_, ?_⟩, ?_⟩
      · rw [k5 6 (by simp), k4 6 (by simp), e63]
      · rw [k5 8 (by simp), x8]; rfl
      · rw [k5 9 (by simp), x9]; rfl
      · rw [k5 10 (by simp), x10]; rfl
      · rw [k5 11 (by simp), x11]; rfl
      · rw [k5 12 (by simp), x12]; rfl
      · rw [k5 13 (by simp), x13]; rfl
      · rw [k5 14 (by simp), x14]; rfl
      · rw [k5 15 (by simp), x15]; rfl
      · intro j hj
        rw [k5 j (by simp at hj ⊢; omega), k4 j (by simp at hj ⊢; omega), k3 j (by simp at hj ⊢; omega), k2 j (by simp at hj ⊢; omega)]
        exact q j hj
      · rcases hown3.2 with ⟨h, _⟩ | ⟨x, c, cur, hv, hb, hg, h1, h2, h3, h4⟩
        · cases h
        · exact ⟨hown3.1, .inr ⟨x, c, cur, hv, hb, hF4.heap hg (fun f => f), h1, h2, h3, h4⟩⟩
      · exact (hF.trans hF3 (fun i _ h => h)).trans hF4 (fun i _ h => h.elim)
      · rw [Fm_eval _ _ _ (by decide), Fm_eval _ _ _ (by decide), x16, e16]
        simp only [intOf]
        omega
    · have hd : decide ((k : Int) < 64) = false := by rw [decide_eq_false_iff_not]; omega
      rw [hd] at e99
      have hk64 : k = 64 := by omega
      subst hk64
      refine wp_cond_false ((Fm_eval _ _ _ (by decide)).trans e99) (wp_exit ?_)
      have hn' : n = 64 := hn
      subst hn'
      subst hT
      exact hQ f1 wr g cap (by rw [k1 6 (by simp), e6]) (by rw [k1 8 (by simp), e8]) (by rw [k1 9 (by simp), e9]) (by rw [k1 10 (by simp), e10]) (by rw [k1 11 (by simp), e11]) (by rw [k1 12 (by simp), e12]) (by rw [k1 13 (by simp), e13]) (by rw [k1 14 (by simp), e14]) (by rw [k1 15 (by simp), e15]) q hown hF
end Go.Proofs.YtcdfflieooopjaaDoor.Sha
