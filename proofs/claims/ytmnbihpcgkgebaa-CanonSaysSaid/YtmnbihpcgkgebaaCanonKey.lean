/-
  The program's Key, Same.
-/
import Derived.Test.YtmnbihpcgkgebaaCanonGo
namespace Go.Proofs.Ytmnbihpcgkgebaa.Canon
open Go.RowKit Base Pack _root_.Go.Proofs.Ytmnbihpcgkgebaa.Ask

theorem str_neq {a b : ByteArray} (h : ¬ a = b) : (a.toList == b.toList) = false := by
  rw [beq_eq_false_iff_ne]
  intro e
  apply h
  rw [ByteArray.toList_eq, ByteArray.toList_eq] at e
  cases a
  cases b
  congr 1
  exact Array.toList_inj.1 e
theorem ofOut_n {a : Rq} (h : isQ a = true) : (ofOut a).n = a.n := by rw [(ofOut_isQ h).1, (one_same a).2.1]
theorem ofOut_good {a : Rq} (h : isQ a = true) : good (ofOut a) = true := by rw [(ofOut_isQ h).1]; exact one_good h
/-- Put of what Of told -/
theorem put_of {a : Rq} (h : isQ a = true) (w : World) : Calls Try.prog 9 #[.agg (rv (.slice none 0 0) (ofOut a))] w fun e w' => ∃ v, e = .returned (.tuple #[v, .int .i64 0]) ∧ BytesIs w' v (keyOut a) ∧ Fr0 w w' := by
  have hg := ofOut_good h
  have hs := ofOut_s a
  have hn := good_name hg
  have hk : keyOut a = putB (ofOut a) := by rw [(ofOut_isQ h).2.2, (ofOut_isQ h).1]
  have hp : PairsIs w (.slice none (ofOut a).s.length 0) (ofOut a).s := by rw [hs]; exact pairs_nil w
  have hput := pput_any none 0 (ofOut a) (by omega) w hp
  rw [hs] at hput
  refine hput.mono ?_
  rintro e w' ⟨v, rfl, hB, hF⟩
  have he : putErr (ofOut a) = 0 := by unfold putErr; rw [if_pos hg]
  have ho : putOut (ofOut a) = putB (ofOut a) := by unfold putOut; rw [if_pos hg]
  exact ⟨v, by rw [he], by rw [hk, ← ho]; exact hB, hF⟩
set_option maxRecDepth 100000 in
set_option maxHeartbeats 4000000 in
theorem key_any (A : Option Addr) (C : Nat) (a : Rq) (hn : a.n.length ≤ 9223372036854775807) (w : World) :
    Calls Try.prog 8 #[.agg (rv (.slice A a.s.length C) a)] w fun e w' => e = .returned (.tuple #[.string ⟨(keyOut a).toArray⟩, .int .i64 (ofErr a)]) ∧ Fr0 w w' := by
  obtain ⟨W1, hW1⟩ : ∃ W1, W1 = w.alloc (.cells #[.int .i64 a.k, .string ⟨a.n.toArray⟩, .slice A a.s.length C, .int .i64 a.f, .int .i64 a.t, .int .i64 a.wn] 27) := ⟨_, rfl⟩
  have hof := of_any A C a hn W1
  have hb := (BoxQ.new w (.slice A a.s.length C) a).heap
  have HB := Lib.hid hb
  have HF1 : Hid (Fr0 w W1) := Lib.hid (by rw [hW1]; exact (Fr.refl _ _).alloc _)
  have HW1 := Lib.hid hW1
  have HP := Lib.hid (fun h w => put_of (a := a) h w)
  have HN := Lib.hid (ofOut_no (a := a))
  have HY := Lib.hid (ofOut_isQ (a := a))
  unfold rv at *
  generalize ofOut a = o at *
  generalize ofErr a = er at *
  generalize keyOut a = key at *
  clear hb hW1
  go_enter Try.func8, Try.ntmps8
  go_wp2_with (refine wpList_load_row rfl 27 _ rfl (w.heap.size) rfl 27 _ (0, 0) _ HB.out Try.underlying27 rfl (by kernel_rfl) ?_)
  rw [← HW1.out]
  refine hof.mono ?_
  clear hof HB HW1
  rintro e W2 ⟨rfl, hF2⟩
  have HF2 := Lib.hid (HF1.out.trans' hF2)
  clear hF2
  have hg3 := heap_alloc_new W2 (.cells #[.int .i64 0, .string ⟨#[]⟩, .slice none 0 0, .int .i64 0, .int .i64 0, .int .i64 0] 27)
  obtain ⟨W3, hW3⟩ : ∃ W', W' = (W2.alloc (.cells #[.int .i64 0, .string ⟨#[]⟩, .slice none 0 0, .int .i64 0, .int .i64 0, .int .i64 0] 27)).setRow W2.heap.size #[.int .i64 o.k, .string ⟨o.n.toArray⟩, .slice none 0 0, .int .i64 o.f, .int .i64 o.t, .int .i64 o.wn] := ⟨_, rfl⟩
  have hr3 := setRow_heap _ W2.heap.size _ #[.int .i64 o.k, .string ⟨o.n.toArray⟩, .slice none 0 0, .int .i64 o.f, .int .i64 o.t, .int .i64 o.wn] _ _ hg3
  rw [← hW3] at hr3
  have hf3 : Fr0 W2 W3 := by rw [hW3]; exact Fr.setRow ((Fr.refl _ _).alloc _) (fun h => absurd h (Nat.lt_irrefl _)) _
  have HKR3 := Lib.hid hr3
  have HKW3 := Lib.hid hW3
  have HKG3 := Lib.hid hg3
  have HKF3 := Lib.hid hf3
  clear hg3 hW3 hr3 hf3
  have HF3 := Lib.hid (HF2.out.trans' HKF3.out)
  cases hq : isQ a with
  | false =>
    obtain ⟨h1, rfl, rfl⟩ := HN.out hq
    clear h1
    clear hq HN HY HP
    go_wp2_with (refine wpList_store_row rfl 27 _ _ rfl W2.heap.size #[.int .i64 o.k, .string ⟨o.n.toArray⟩, .slice none 0 0, .int .i64 o.f, .int .i64 o.t, .int .i64 o.wn] rfl rfl 27 _ HKG3.out infoQ rfl (ask_one _ _ _ _ _ _ rfl) ?_; rw [← HKW3.out])
    go_ret2
    exact ⟨rfl, HF3.out⟩
  | true =>
    have hput := HP.out hq W3
    obtain ⟨h1, rfl, h3⟩ := HY.out hq
    clear h1 h3
    clear hq HY HN HP
    go_wp2_with (first | (refine wpList_store_row rfl 27 _ _ rfl W2.heap.size #[.int .i64 o.k, .string ⟨o.n.toArray⟩, .slice none 0 0, .int .i64 o.f, .int .i64 o.t, .int .i64 o.wn] rfl rfl 27 _ HKG3.out infoQ rfl (ask_one _ _ _ _ _ _ rfl) ?_; rw [← HKW3.out]) | (refine wpList_load_row rfl 27 _ rfl (W2.heap.size) rfl 27 _ (0, 0) _ HKR3.out Try.underlying27 rfl (by kernel_rfl) ?_))
    refine hput.mono ?_
    clear hput
    rintro e W4 ⟨v, rfl, hB, hF4⟩
    have HF4 := Lib.hid (HF3.out.trans' hF4)
    have hcv := hB.convert (P := Try.prog) 33 9 5 Try.underlying33 Try.underlying5 Try.underlying9
    obtain ⟨A4, C4, rfl⟩ := hB.form
    clear hB hF4
    go_wp2
    go_ret2
    exact ⟨rfl, HF4.out⟩
theorem err01 (a : Rq) : ofErr a = 0 ∨ ofErr a = 1 := by
  cases h : isQ a with
  | false => exact .inr (ofOut_no h).2.1
  | true => exact .inl (ofOut_isQ h).2.1
set_option maxRecDepth 100000 in
set_option maxHeartbeats 4000000 in
theorem same_go (A B : Option Addr) (C D : Nat) (a b : Rq) (hn : a.n.length ≤ 9223372036854775807) (hm : b.n.length ≤ 9223372036854775807) (w : World) :
    Calls Try.prog 10 #[.agg (rv (.slice A a.s.length C) a), .agg (rv (.slice B b.s.length D) b)] w fun e w' => e = .returned (.bool (sameK a b)) ∧ Fr0 w w' := by
  obtain ⟨r, hr⟩ : ∃ r, r = sameK a b := ⟨_, rfl⟩
  rw [← hr]
  rw [sameK_keys] at hr
  have hf0 : Fr0 (w.alloc (.cells #[.int .i64 a.k, .string ⟨a.n.toArray⟩, .slice A a.s.length C, .int .i64 a.f, .int .i64 a.t, .int .i64 a.wn] 27)) ((w.alloc (.cells #[.int .i64 a.k, .string ⟨a.n.toArray⟩, .slice A a.s.length C, .int .i64 a.f, .int .i64 a.t, .int .i64 a.wn] 27)).alloc (.cells #[.int .i64 b.k, .string ⟨b.n.toArray⟩, .slice B b.s.length D, .int .i64 b.f, .int .i64 b.t, .int .i64 b.wn] 27)) := (Fr.refl _ _).alloc _
  have ha := (BoxQ.new w (.slice A a.s.length C) a).fr0 hf0
  have hb := BoxQ.new (w.alloc (.cells #[.int .i64 a.k, .string ⟨a.n.toArray⟩, .slice A a.s.length C, .int .i64 a.f, .int .i64 a.t, .int .i64 a.wn] 27)) (.slice B b.s.length D) b
  rw [show (w.alloc (.cells #[.int .i64 a.k, .string ⟨a.n.toArray⟩, .slice A a.s.length C, .int .i64 a.f, .int .i64 a.t, .int .i64 a.wn] 27)).heap.size = w.heap.size + 1 by simp] at hb
  have HH := Lib.hid ha.heap
  have HF1 : Hid (Fr0 w ((w.alloc (.cells #[.int .i64 a.k, .string ⟨a.n.toArray⟩, .slice A a.s.length C, .int .i64 a.f, .int .i64 a.t, .int .i64 a.wn] 27)).alloc (.cells #[.int .i64 b.k, .string ⟨b.n.toArray⟩, .slice B b.s.length D, .int .i64 b.f, .int .i64 b.t, .int .i64 b.wn] 27))) := Lib.hid (((Fr.refl (fun _ => False) w).alloc _).alloc _)
  have HB1 := Lib.hid hb
  have hk1 := key_any A C a hn ((w.alloc (.cells #[.int .i64 a.k, .string ⟨a.n.toArray⟩, .slice A a.s.length C, .int .i64 a.f, .int .i64 a.t, .int .i64 a.wn] 27)).alloc (.cells #[.int .i64 b.k, .string ⟨b.n.toArray⟩, .slice B b.s.length D, .int .i64 b.f, .int .i64 b.t, .int .i64 b.wn] 27))
  have HK2 := Lib.hid (fun w => key_any B D b hm w)
  clear hf0 ha hb
  unfold rv at *
  have hea := err01 a
  have heb := err01 b
  generalize keyOut a = x at *
  generalize keyOut b = y at *
  generalize ofErr a = p at *
  generalize ofErr b = q at *
  have HR := Lib.hid hr
  have HEA := Lib.hid hea
  have HEB := Lib.hid heb
  clear hr hea heb
  go_enter Try.func10, Try.ntmps10
  go_wp2_with (refine wpList_load_row rfl 27 _ rfl (w.heap.size) rfl 27 _ (0, 0) _ HH.out Try.underlying27 rfl (by kernel_rfl) ?_)
  refine hk1.mono ?_
  clear hk1 HH
  rintro e W2 ⟨rfl, hF2⟩
  have HF2 := Lib.hid (HF1.out.trans' hF2)
  have HB2 := Lib.hid (HB1.out.fr0 hF2)
  clear hF2 HB1
  go_wp2_with (refine wpList_load_row rfl 27 _ rfl (w.heap.size + 1) rfl 27 _ (0, 0) _ HB2.out.heap Try.underlying27 rfl (by kernel_rfl) ?_)
  refine (HK2.out W2).mono ?_
  clear HK2
  rintro e W3 ⟨rfl, hF3⟩
  have HF3 := Lib.hid (HF2.out.trans' hF3)
  clear hF3
  rcases HEA.out with rfl | rfl
  · rcases HEB.out with rfl | rfl
    · by_cases hxy : x = y
      · subst hxy
        go_wp2
        go_ret
        exact ⟨by rw [HR.out]; simp, HF3.out⟩
      · have hn3 : ¬ (⟨x.toArray⟩ : ByteArray) = ⟨y.toArray⟩ := fun e => hxy (by simpa using e)
        have zn := str_neq hn3
        have HXY := Lib.hid hxy
        clear hxy hn3
        go_wp2
        go_ret
        exact ⟨by rw [HR.out]; simp [HXY.out], HF3.out⟩
    · go_wp2
      go_ret
      exact ⟨by rw [HR.out]; simp, HF3.out⟩
  · go_wp2
    go_ret
    exact ⟨by rw [HR.out]; simp, HF3.out⟩
end Go.Proofs.Ytmnbihpcgkgebaa.Canon
