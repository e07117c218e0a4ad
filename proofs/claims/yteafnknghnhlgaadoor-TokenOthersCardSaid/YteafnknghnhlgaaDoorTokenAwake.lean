/-
  What the laws share: awake; a place where the table of the rounds lies.
-/
import Derived.Test.YteafnknghnhlgaaDoorTokenGo
import Derived.Lib.SlBytesConst
namespace Go.Proofs.YteafnknghnhlgaaDoor.TokenL
open Go.RowKit Base Pack _root_.Go.Proofs.YteafnknghnhlgaaDoor.Token

/-- the table of the rounds lies there -/
def Laid (w : World) : Prop := Sha.Rounds w ∧ 0 < w.heap.size
theorem Laid.fr {w w' : World} (h : Laid w) (hf : Fr0 w w') : Laid w' := ⟨h.1.fr hf (fun f => f), Nat.lt_of_lt_of_le h.2 hf.size⟩
theorem lit_mark (w : World) (l : List UInt8) (c : Array Value) (t : TypeId) (fr : Nat × Nat) (n : Nat) (hn : n = l.length) (cap : Nat) (hcap : n ≤ cap) (hc : bvals l = c.toList) (N : Nat) (hN : N = w.heap.size) :
    BytesIs (w.alloc (.cells c t fr)) (.slice (some ⟨N, 0, none⟩) n cap) l := by
  subst hn hN
  refine ⟨_, cap, w.heap.size, 0, rfl, hcap, fun _ => rfl, fun j hj => ?_⟩
  rw [cell_of_row _ _ _ _ _ _ (heap_alloc_new w _), Nat.zero_add]
  have := bvals_get l j hj
  rw [hc] at this
  simpa using this
/-- sealed by an ID that may be -/
theorem seal_yes {n : Nat} (hn : n < 65536) (v0 v1 : Value) (k b : List UInt8) (hk : k.length ≤ 1000000) (hb : b.length ≤ 900000) (w : World) (hK : BytesIs w v0 k) (hB : BytesIs w v1 b) (hR : Laid w) :
    Calls Tryd.prog 9 #[.int .i64 (n : Int), v0, v1] w fun e w' => ∃ A C, e = .returned (.tuple #[.slice A (34 + b.length) C, .int .i64 0]) ∧ BytesIs w' (.slice A (34 + b.length) C) (env n k b) ∧ w'.ownsRow w.heap.size 5 1 (.slice A (34 + b.length) C) (34 + b.length) (bvals (env n k b)) ∧ Fr0 w w' := by
  refine (pseal_any v0 v1 n k b (by omega) hk hb w hK hB hR.1 hR.2).mono ?_
  rintro e w' ⟨v, rfl, hO, hF⟩
  rw [(seal_ok hn k b).1, env_length] at hO
  rw [(seal_ok hn k b).2]
  have hX := BytesIs.own hO
  obtain ⟨A, C, rfl, _⟩ := owns_form hO
  exact ⟨A, C, rfl, hX, hO, hF⟩
theorem seal_bad {id : Int} (hn : id < 0 ∨ 65535 < id) (hid : -9223372036854775808 ≤ id ∧ id ≤ 9223372036854775807) (v0 v1 : Value) (k b : List UInt8) (hk : k.length ≤ 1000000) (hb : b.length ≤ 900000) (w : World) (hK : BytesIs w v0 k) (hB : BytesIs w v1 b) (hR : Laid w) :
    Calls Tryd.prog 9 #[.int .i64 id, v0, v1] w fun e w' => ∃ A C, e = .returned (.tuple #[.slice A 0 C, .int .i64 1]) ∧ Fr0 w w' := by
  refine (pseal_any v0 v1 id k b hid hk hb w hK hB hR.1 hR.2).mono ?_
  rintro e w' ⟨v, rfl, hO, hF⟩
  rw [(seal_no hn k b).1] at hO
  rw [(seal_no hn k b).2]
  obtain ⟨A, C, rfl, _⟩ := owns_form hO
  exact ⟨A, C, rfl, hF⟩
/-- opened, or not, as is known -/
theorem open_is {b k o : List UInt8} {id er : Int} (he : openErr b id k = er) (ho : openOut b id k = o) (v0 v1 : Value) (hid : -9223372036854775808 ≤ id ∧ id ≤ 9223372036854775807) (hk : k.length ≤ 1000000) (hb : b.length ≤ 900000) (w : World) (hB : BytesIs w v0 b) (hK : BytesIs w v1 k) (hR : Laid w) :
    Calls Tryd.prog 10 #[v0, .int .i64 id, v1] w fun e w' => ∃ A C, e = .returned (.tuple #[.slice A o.length C, .int .i64 er]) ∧ BytesIs w' (.slice A o.length C) o ∧ Fr0 w w' := by
  refine (popen_any v0 v1 b k id hid hk hb w hB hK hR.1 hR.2).mono ?_
  rintro e w' ⟨v, rfl, hX, _, hF⟩
  rw [ho] at hX
  rw [he]
  obtain ⟨A, C, rfl⟩ := hX.form
  exact ⟨A, C, rfl, hX, hF⟩
set_option maxRecDepth 100000 in
set_option maxHeartbeats 4000000 in
theorem awake_any (w : World) (hR : Laid w) : Calls Tryd.prog 8 #[] w fun e w' => e = .returned (.bool true) ∧ Fr0 w w' := by
  have HR := Lib.hid hR
  have kc := fun (w : World) (C : Array Value) (n c : Nat) => Lib.run_convert_bytes_const (P := Tryd.prog) w 23 5 C n c Tryd.underlying23 Tryd.underlying5
  have hL1 : Fr0 w (w.alloc (.cells #[.int .u8 107] 5 (1, 2))) := (Fr.refl _ _).alloc _
  have hse := seal_yes (n := 7) (by decide) _ (.slice none 0 0) [107] [] (by decide) (by decide) _ (lit_mark w [107] #[.int .u8 107] 5 (1, 2) 1 rfl 1 (Nat.le_refl _) rfl w.heap.size rfl) (BytesIs.nil _) (HR.out.fr hL1)
  have HL1 := Lib.hid hL1
  clear hR hL1
  go_enter Tryd.func8, Tryd.ntmps8
  go_wp2_with fail
  refine hse.mono ?_
  clear hse
  rintro e w1 ⟨A, C, rfl, hX, _, hF⟩
  have hX : BytesIs w1 (.slice A 34 C) (env 7 [107] []) := hX
  have HF1 := Lib.hid (HL1.out.trans' hF)
  have HX := Lib.hid hX
  have hpi := pid_any _ _ (by rw [env_length]; decide) w1 hX
  unfold IdPost at hpi
  rw [show idOut (env 7 [107] []) = 7 by unfold idOut; rw [if_neg (by rw [env_length]; decide), env_take2 (by decide)], show idOk (env 7 [107] []) = true from decide_eq_true (by rw [env_length]; decide)] at hpi
  clear hX hF HL1
  go_wp2_with fail
  refine hpi.mono ?_
  clear hpi
  rintro e w2 ⟨rfl, hF⟩
  have HF2 := Lib.hid (HF1.out.trans' hF)
  have HX2 := Lib.hid (HX.out.fr0 hF)
  have hL2 : Fr0 w2 (w2.alloc (.cells #[.int .u8 107] 5 (1, 2))) := (Fr.refl _ _).alloc _
  have HL2 := Lib.hid (HF2.out.trans' hL2)
  have hop := open_is (open_own (n := 7) (by decide) [107] []).1 (open_own (n := 7) (by decide) [107] []).2 _ _ (by decide) (by decide) (by rw [env_length]; decide) _ (HX2.out.fr0 hL2) (lit_mark w2 [107] #[.int .u8 107] 5 (1, 2) 1 rfl 1 (Nat.le_refl _) rfl w2.heap.size rfl) (HR.out.fr HL2.out)
  clear hF HX hL2
  go_wp2_with fail
  refine hop.mono ?_
  clear hop kc
  rintro e w3 ⟨A3, C3, rfl, _, hF⟩
  have HF3 := Lib.hid (HL2.out.trans' hF)
  clear hF
  go_wp2
  go_ret
  exact ⟨rfl, HF3.out⟩
end Go.Proofs.YteafnknghnhlgaaDoor.TokenL
