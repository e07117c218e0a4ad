/-
  The program's within, Good.
-/
import Derived.Test.YtjhnijcefpnldaaTenantMem
import Derived.Test.YtjhnijcefpnldaaChecked
import Derived.WalkKit
import Derived.KernelRfl
import Derived.BigQuiet
namespace Go.Proofs.Ytjhnijcefpnldaa.Tenant
open Go.RowKit Base

set_option maxHeartbeats 1000000 in
theorem pin_any (v lo hi : Int) (w : World) :
    Calls Try.prog 16 #[.int .i64 v, .int .i64 lo, .int .i64 hi] w fun e w' => e = .returned (.bool (inn v lo hi)) ∧ w = w' := by
  by_cases h1 : lo ≤ v
  · by_cases h2 : v ≤ hi
    · have HD : Hid (inn v lo hi = true) := Lib.hid (decide_eq_true ⟨h1, h2⟩)
      go_enter Try.func16, Try.ntmps16
      go_wp2
      go_ret
      exact ⟨by rw [HD.out]; rfl, rfl⟩
    · have HD : Hid (inn v lo hi = false) := Lib.hid (decide_eq_false (fun h => h2 h.2))
      go_enter Try.func16, Try.ntmps16
      go_wp2
      go_ret
      exact ⟨by rw [HD.out]; rfl, rfl⟩
  · have HD : Hid (inn v lo hi = false) := Lib.hid (decide_eq_false (fun h => h1 h.1))
    go_enter Try.func16, Try.ntmps16
    go_wp2
    go_ret
    exact ⟨by rw [HD.out]; rfl, rfl⟩
set_option maxRecDepth 100000 in
set_option maxHeartbeats 4000000 in
theorem pgoodT_any (A : Option Addr) (C : Nat) (t : Tn) (hn : t.key.length ≤ 9223372036854775807) (w : World) :
    Calls Try.prog 9 #[.agg (t9 (.slice A t.key.length C) t)] w fun e w' => e = .returned (.bool (good t)) ∧ Fr0 w w' := by
  obtain ⟨W, hW⟩ : ∃ W, W = w.alloc (.cells #[.int .i64 t.id, .slice A t.key.length C, .int .i64 t.ri, .int .i64 t.bu, .int .i64 t.qu, .int .i64 t.ev, .int .i64 t.qe, .int .i64 t.se, .int .i64 t.re] 26) := ⟨_, rfl⟩
  have hc := (Bx.new 26 w (.slice A t.key.length C) t).cells
  have HF : Hid (Fr0 w (w.alloc (.cells #[.int .i64 t.id, .slice A t.key.length C, .int .i64 t.ri, .int .i64 t.bu, .int .i64 t.qu, .int .i64 t.ev, .int .i64 t.qe, .int .i64 t.se, .int .i64 t.re] 26))) := Lib.hid ((Fr.refl _ _).alloc _)
  have HG : Hid (good t = (inn t.id 0 65535 && (inn (t.key.length : Int) 1 64 && (inn t.ri 0 3 && (inn t.bu 0 65536 && (inn t.qu 0 1048576 && (inn t.ev 1 1048576 && (inn t.qe 1 16 && (inn t.se 1 16 && (inn t.re 1 64)))))))))) := Lib.hid rfl
  have HI0 := Lib.hid (fun w => pin_any t.id 0 65535 w)
  have HI1 := Lib.hid (fun w => pin_any (t.key.length : Int) 1 64 w)
  have HI2 := Lib.hid (fun w => pin_any t.ri 0 3 w)
  have HI3 := Lib.hid (fun w => pin_any t.bu 0 65536 w)
  have HI4 := Lib.hid (fun w => pin_any t.qu 0 1048576 w)
  have HI5 := Lib.hid (fun w => pin_any t.ev 1 1048576 w)
  have HI6 := Lib.hid (fun w => pin_any t.qe 1 16 w)
  have HI7 := Lib.hid (fun w => pin_any t.se 1 16 w)
  have HI8 := Lib.hid (fun w => pin_any t.re 1 64 w)
  generalize inn t.id 0 65535 = b0 at *
  generalize inn (t.key.length : Int) 1 64 = b1 at *
  generalize inn t.ri 0 3 = b2 at *
  generalize inn t.bu 0 65536 = b3 at *
  generalize inn t.qu 0 1048576 = b4 at *
  generalize inn t.ev 1 1048576 = b5 at *
  generalize inn t.qe 1 16 = b6 at *
  generalize inn t.se 1 16 = b7 at *
  generalize inn t.re 1 64 = b8 at *
  generalize hW2 : w.alloc (.cells #[.int .i64 t.id, .slice A t.key.length C, .int .i64 t.ri, .int .i64 t.bu, .int .i64 t.qu, .int .i64 t.ev, .int .i64 t.qe, .int .i64 t.se, .int .i64 t.re] 26) = W2 at *
  obtain ⟨k0, k1, k2, k3, k4, k5, k6, k7, k8⟩ := hc
  clear hW
  generalize good t = gd at *
  unfold t9
  go_enter Try.func9, Try.ntmps9
  go_wp2_with fail
  clear hW2
  refine (HI0.out _).mono ?_
  rintro e wq ⟨rfl, rfl⟩
  cases b0 with
  | false =>
    go_wp2
    go_ret
    exact ⟨by rw [HG.out]; rfl, HF.out⟩
  | true =>
    go_wp2_with fail
    refine (HI1.out _).mono ?_
    rintro e wq ⟨rfl, rfl⟩
    cases b1 with
    | false =>
      go_wp2
      go_ret
      exact ⟨by rw [HG.out]; rfl, HF.out⟩
    | true =>
      go_wp2_with fail
      refine (HI2.out _).mono ?_
      rintro e wq ⟨rfl, rfl⟩
      cases b2 with
      | false =>
        go_wp2
        go_ret
        exact ⟨by rw [HG.out]; rfl, HF.out⟩
      | true =>
        go_wp2_with fail
        refine (HI3.out _).mono ?_
        rintro e wq ⟨rfl, rfl⟩
        cases b3 with
        | false =>
          go_wp2
          go_ret
          exact ⟨by rw [HG.out]; rfl, HF.out⟩
        | true =>
          go_wp2_with fail
          refine (HI4.out _).mono ?_
          rintro e wq ⟨rfl, rfl⟩
          cases b4 with
          | false =>
            go_wp2
            go_ret
            exact ⟨by rw [HG.out]; rfl, HF.out⟩
          | true =>
            go_wp2_with fail
            refine (HI5.out _).mono ?_
            rintro e wq ⟨rfl, rfl⟩
            cases b5 with
            | false =>
              go_wp2
              go_ret
              exact ⟨by rw [HG.out]; rfl, HF.out⟩
            | true =>
              go_wp2_with fail
              refine (HI6.out _).mono ?_
              rintro e wq ⟨rfl, rfl⟩
              cases b6 with
              | false =>
                go_wp2
                go_ret
                exact ⟨by rw [HG.out]; rfl, HF.out⟩
              | true =>
                go_wp2_with fail
                refine (HI7.out _).mono ?_
                rintro e wq ⟨rfl, rfl⟩
                cases b7 with
                | false =>
                  go_wp2
                  go_ret
                  exact ⟨by rw [HG.out]; rfl, HF.out⟩
                | true =>
                  go_wp2_with fail
                  refine (HI8.out _).mono ?_
                  rintro e wq ⟨rfl, rfl⟩
                  cases b8 with
                  | false =>
                    go_wp2
                    go_ret
                    exact ⟨by rw [HG.out]; rfl, HF.out⟩
                  | true =>
                    
                    go_wp2
                    go_ret
                    exact ⟨by rw [HG.out]; rfl, HF.out⟩
end Go.Proofs.Ytjhnijcefpnldaa.Tenant
