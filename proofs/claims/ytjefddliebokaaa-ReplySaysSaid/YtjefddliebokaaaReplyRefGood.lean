/-
  The reference's GoodReply.
-/
import Derived.Test.YtjefddliebokaaaReplyMem
import Derived.Test.YtjefddliebokaaaChecked
import Derived.WalkKit
import Derived.KernelRfl
namespace Go.Proofs.Ytjefddliebokaaa.Reply
open Go.RowKit Base Pack

set_option maxHeartbeats 2000000 in
theorem rgoodR_any (A : Option Addr) (C : Nat) (r : Rp) (hn : r.body.length ≤ 9223372036854775807) (w : World) :
    Calls Try.prog 18 #[.agg (rp4 (.slice A r.body.length C) r)] w fun e w' => e = .returned (.bool (good r)) ∧ Fr0 w w' := by
  obtain ⟨b, hb⟩ : ∃ b, b = good r := ⟨_, rfl⟩
  rw [← hb]
  have HB : Hid (∀ {x}, good r = x → b = x) := Lib.hid (fun h => hb.trans h)
  have HNO : Hid (¬ ((0 ≤ r.st ∧ r.st ≤ 8) ∧ r.body.length ≤ 255 ∧ (r.st = 0 ∨ (r.hit = false ∧ r.body.length = 0))) → good r = false) := Lib.hid good_out
  have HYES : Hid ((0 ≤ r.st ∧ r.st ≤ 8) ∧ r.body.length ≤ 255 ∧ (r.st = 0 ∨ (r.hit = false ∧ r.body.length = 0)) → good r = true) := Lib.hid (good_iff r).2
  clear hb
  unfold rp4
  have HF : Hid (∀ o, Fr0 w (w.alloc o)) := Lib.hid (fun o => (Fr.refl _ _).alloc o)
  generalize r.body.length = L at *
  generalize r.st = st at *
  generalize r.hit = hit at *
  generalize r.slot = slot at *
  by_cases h1 : st < 0
  ·
    have HD := Lib.hid (HNO.out (fun h => by have := h.1.1; omega))
    go_enter Try.func18, Try.ntmps18
    go_wp2
    go_ret
    exact ⟨by rw [HB.out HD.out]; rfl, HF.out _⟩
  ·
    by_cases h2 : 8 < st
    ·
      have HD := Lib.hid (HNO.out (fun h => by have := h.1.2; omega))
      go_enter Try.func18, Try.ntmps18
      go_wp2
      go_ret
      exact ⟨by rw [HB.out HD.out]; rfl, HF.out _⟩
    ·
      by_cases h3 : 255 < (L : Int)
      ·
        have HD := Lib.hid (HNO.out (fun h => by have := h.2.1; omega))
        go_enter Try.func18, Try.ntmps18
        go_wp2
        go_ret
        exact ⟨by rw [HB.out HD.out]; rfl, HF.out _⟩
      ·
        by_cases h4 : st = 0
        ·
          have z4 : (st == 0) = true := beq_iff_eq.2 h4
          have HZ := Lib.hid h4
          clear h4
          have HD := Lib.hid (HYES.out ⟨⟨by omega, by omega⟩, by omega, .inl HZ.out⟩)
          go_enter Try.func18, Try.ntmps18
          go_wp2
          go_ret
          exact ⟨by rw [HB.out HD.out]; rfl, HF.out _⟩
        ·
          have z4 : (st == 0) = false := beq_eq_false_iff_ne.2 h4
          cases hit with
          | true =>
            have HD := Lib.hid (HNO.out (fun h => h.2.2.elim h4 (fun e => by cases e.1)))
            go_enter Try.func18, Try.ntmps18
            go_wp2
            go_ret
            exact ⟨by rw [HB.out HD.out]; rfl, HF.out _⟩
          | false =>
            by_cases h5 : L = 0
            ·
              have z5 : ((L : Int) == 0) = true := beq_iff_eq.2 (by omega)
              have HZ := Lib.hid h5
              clear h5
              have HD := Lib.hid (HYES.out ⟨⟨by omega, by omega⟩, by omega, .inr ⟨rfl, HZ.out⟩⟩)
              go_enter Try.func18, Try.ntmps18
              go_wp2
              go_ret
              exact ⟨by rw [HB.out HD.out]; rfl, HF.out _⟩
            ·
              have z5 : ((L : Int) == 0) = false := beq_eq_false_iff_ne.2 (by omega)
              have HD := Lib.hid (HNO.out (fun h => h.2.2.elim h4 (fun e => h5 e.2)))
              go_enter Try.func18, Try.ntmps18
              go_wp2
              go_ret
              exact ⟨by rw [HB.out HD.out]; rfl, HF.out _⟩
end Go.Proofs.Ytjefddliebokaaa.Reply
