/-
  The reference's Key.
-/
import Derived.Test.YtmnbihpcgkgebaaCanonRef
namespace Go.Proofs.Ytmnbihpcgkgebaa.Canon
open Go.RowKit Base Pack _root_.Go.Proofs.Ytmnbihpcgkgebaa.Ask

theorem rput_of {a : Rq} (h : isQ a = true) (A : Option Addr) (C : Nat) (w : World) (hP : PairsIs w (.slice A (ofOut a).s.length C) (ofOut a).s) : Calls Try.prog 22 #[.agg (rv (.slice A (ofOut a).s.length C) (ofOut a))] w fun e w' => ∃ v, e = .returned (.tuple #[v, .int .i64 0]) ∧ BytesIs w' v (keyOut a) ∧ Fr0 w w' := by
  have hg : good (ofOut a) = true := by rw [(ofOut_isQ h).1]; exact one_good h
  have hn := good_name hg
  have hk : keyOut a = putB (ofOut a) := by rw [(ofOut_isQ h).2.2, (ofOut_isQ h).1]
  refine (rput_any A C (ofOut a) (by omega) w hP).mono ?_
  rintro e w' ⟨v, rfl, hB, hF⟩
  have he : putErr (ofOut a) = 0 := by unfold putErr; rw [if_pos hg]
  have ho : putOut (ofOut a) = putB (ofOut a) := by unfold putOut; rw [if_pos hg]
  exact ⟨v, by rw [he], by rw [hk, ← ho]; exact hB, hF⟩
set_option maxRecDepth 100000 in
set_option maxHeartbeats 4000000 in
theorem rkey_any (A : Option Addr) (C : Nat) (a : Rq) (hn : a.n.length ≤ 9223372036854775807) (w : World) (hS : PairsIs w (.slice A a.s.length C) a.s) :
    Calls Try.prog 13 #[.agg (rv (.slice A a.s.length C) a)] w fun e w' => e = .returned (.tuple #[.string ⟨(keyOut a).toArray⟩, .int .i64 (ofErr a)]) ∧ Fr0 w w' := by
  obtain ⟨W1, hW1⟩ : ∃ W1, W1 = w.alloc (.cells #[.int .i64 a.k, .string ⟨a.n.toArray⟩, .slice A a.s.length C, .int .i64 a.f, .int .i64 a.t, .int .i64 a.wn] 39) := ⟨_, rfl⟩
  have hf1 : Fr0 w W1 := by rw [hW1]; exact (Fr.refl _ _).alloc _
  have hof := rcanon_any A C a hn W1 (hS.fr0 hf1)
  have HB := Lib.hid (BoxR.new w (.slice A a.s.length C) a).heap
  have HF1 := Lib.hid hf1
  have HW1 := Lib.hid hW1
  have HP := Lib.hid (fun h A C w hp => rput_of (a := a) h A C w hp)
  have HN := Lib.hid (ofOut_no (a := a))
  have HY := Lib.hid (ofOut_isQ (a := a))
  unfold CanonPost rv at *
  generalize ofOut a = o at *
  generalize ofErr a = er at *
  generalize keyOut a = key at *
  clear hS hf1 hW1
  go_enter Try.func13, Try.ntmps13
  go_wp2_with (refine wpList_load_row rfl 39 _ rfl (w.heap.size) rfl 39 _ (0, 0) _ HB.out Try.underlying39 rfl (by kernel_rfl) ?_)
  rw [← HW1.out]
  refine hof.mono ?_
  clear hof HB HW1
  rintro e W2 ⟨A2, C2, rfl, hP2, hF2⟩
  have HF2 := Lib.hid (HF1.out.trans' hF2)
  have HP2 := Lib.hid hP2
  clear hF2 hP2
  have hg3 := heap_alloc_new W2 (.cells #[.int .i64 0, .string ⟨#[]⟩, .slice none 0 0, .int .i64 0, .int .i64 0, .int .i64 0] 39)
  obtain ⟨W3, hW3⟩ : ∃ W', W' = (W2.alloc (.cells #[.int .i64 0, .string ⟨#[]⟩, .slice none 0 0, .int .i64 0, .int .i64 0, .int .i64 0] 39)).setRow W2.heap.size #[.int .i64 o.k, .string ⟨o.n.toArray⟩, .slice A2 o.s.length C2, .int .i64 o.f, .int .i64 o.t, .int .i64 o.wn] := ⟨_, rfl⟩
  have hr3 := setRow_heap _ W2.heap.size _ #[.int .i64 o.k, .string ⟨o.n.toArray⟩, .slice A2 o.s.length C2, .int .i64 o.f, .int .i64 o.t, .int .i64 o.wn] _ _ hg3
  rw [← hW3] at hr3
  have hf3 : Fr0 W2 W3 := by rw [hW3]; exact Fr.setRow ((Fr.refl _ _).alloc _) (fun h => absurd h (Nat.lt_irrefl _)) _
  have HKR3 := Lib.hid hr3
  have HKW3 := Lib.hid hW3
  have HKG3 := Lib.hid hg3
  have HKF3 := Lib.hid hf3
  clear hg3 hW3 hr3 hf3
  have HF3 := Lib.hid (HF2.out.trans' HKF3.out)
  cases hq : isQ a with
  | false =>
    obtain ⟨h1, rfl, rfl⟩ := HN.out hq
    clear h1
    clear hq HN HY HP
    go_wp2_with (refine wpList_store_row rfl 39 _ _ rfl W2.heap.size #[.int .i64 o.k, .string ⟨o.n.toArray⟩, .slice A2 o.s.length C2, .int .i64 o.f, .int .i64 o.t, .int .i64 o.wn] rfl rfl 39 _ HKG3.out infoAsk rfl (ask_one _ _ _ _ _ _ rfl) ?_; rw [← HKW3.out])
    go_ret2
    exact ⟨rfl, HF3.out⟩
  | true =>
    have hput := HP.out hq A2 C2 W3 (HP2.out.fr0 HKF3.out)
    obtain ⟨h1, rfl, h3⟩ := HY.out hq
    clear h1 h3
    clear hq HY HN HP
    go_wp2_with (first | (refine wpList_store_row rfl 39 _ _ rfl W2.heap.size #[.int .i64 o.k, .string ⟨o.n.toArray⟩, .slice A2 o.s.length C2, .int .i64 o.f, .int .i64 o.t, .int .i64 o.wn] rfl rfl 39 _ HKG3.out infoAsk rfl (ask_one _ _ _ _ _ _ rfl) ?_; rw [← HKW3.out]) | (refine wpList_load_row rfl 39 _ rfl (W2.heap.size) rfl 39 _ (0, 0) _ HKR3.out Try.underlying39 rfl (by kernel_rfl) ?_))
    refine hput.mono ?_
    clear hput
    rintro e W4 ⟨v, rfl, hB, hF4⟩
    have HF4 := Lib.hid (HF3.out.trans' hF4)
    have hcv := hB.convert (P := Try.prog) 33 9 5 Try.underlying33 Try.underlying5 Try.underlying9
    obtain ⟨A4, C4, rfl⟩ := hB.form
    clear hB hF4
    go_wp2
    go_ret2
    exact ⟨rfl, HF4.out⟩
end Go.Proofs.Ytmnbihpcgkgebaa.Canon
