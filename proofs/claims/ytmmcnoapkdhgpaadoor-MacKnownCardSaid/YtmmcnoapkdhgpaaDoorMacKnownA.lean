/-
  MacKnown: what chapter 2 says of long keys, of no key, of unlike lengths: plain words.
-/
import Derived.Test.YtmmcnoapkdhgpaaDoorMacParts
import Derived.Deep.DeepCutAuto
namespace Go.Proofs.YtmmcnoapkdhgpaaDoor.Mac
open Go.RowKit Base Sha

def long : List UInt8 := List.replicate 65 0
theorem long_key (m : List UInt8) : hmac (digest long) m = hmac long m := by
  unfold hmac keyBlk
  have e1 : keyL long = digest long := by unfold keyL; rw [if_pos (by decide)]
  have e2 : keyL (digest long) = digest long := by unfold keyL; rw [if_neg (by rw [digest_len]; decide)]
  rw [e1, e2]
theorem no_key (m : List UInt8) : hmac (List.replicate 64 0) m = hmac [] m := hmac_zeros [] m 64 (by decide)
theorem wrong_key : decide (hmac [108] [97, 98] = hmac [107] [97, 98]) = false := by decide +kernel
theorem wrong_msg : decide (hmac [107] [98, 97] = hmac [107] [97, 98]) = false := by decide +kernel
theorem same_lit (x y : List UInt8) (d : Bool) (hd : decide (x = y) = d) (hx : x.length ≤ 100) (hy : y.length ≤ 100) (v u : Value) (w : World) (h1 : BytesIs w v x) (h2 : BytesIs w u y) : Calls Tryd.prog 22 #[v, u] w fun e w' => e = .returned (.bool d) ∧ Fr0 w w' := by
  subst hd
  exact same_any v u x y (by omega) (by omega) w h1 h2
def longArr : Array Value := (bvals long).toArray
theorem mk65 : ∀ w : World, (Instr.makeSlice 30 (.int .i64 65) (.int .i64 65)).run Tryd.prog w = .ok (.slice (some ⟨w.heap.size, 0, none⟩) 65 65) (w.alloc (.cells longArr 5)) := fun w => by kernel_rfl
def noArr : Array Value := (bvals (List.replicate 64 0)).toArray
theorem mk64 : ∀ w : World, (Instr.makeSlice 30 (.int .i64 64) (.int .i64 64)).run Tryd.prog w = .ok (.slice (some ⟨w.heap.size, 0, none⟩) 64 64) (w.alloc (.cells noArr 5)) := fun w => by kernel_rfl
theorem parts_none (w : World) : PartsIs w (.slice none 0 0) [] := ⟨none, 0, 0, 0, rfl, by simp, by simp, fun h => absurd h (by simp), fun i hi => absurd hi (by simp)⟩
theorem m1 (W : World) (c : UInt8) (v : Value) (hv : v = .int .u8 (c.toNat : Int)) (t : TypeId) (N : Nat) (hN : N = W.heap.size) : BytesIs (W.alloc (.cells #[v] t (1, 2))) (.slice (some ⟨N, 0, none⟩) 1 1) [c] := by
  subst hv
  exact bytes_marked W [c] _ t (1, 2) 1 rfl 1 (by omega) rfl N hN
theorem m2 (W : World) (c d : UInt8) (v u : Value) (hv : v = .int .u8 (c.toNat : Int)) (hu : u = .int .u8 (d.toNat : Int)) (t : TypeId) (N : Nat) (hN : N = W.heap.size) : BytesIs (W.alloc (.cells #[v, u] t (2, 3))) (.slice (some ⟨N, 0, none⟩) 2 2) [c, d] := by
  subst hv hu
  exact bytes_marked W [c, d] _ t (2, 3) 2 rfl 2 (by omega) rfl N hN
theorem n1 (W : World) (c : UInt8) (v : Value) (hv : v = .int .u8 (c.toNat : Int)) (t : TypeId) (N : Nat) (hN : N = W.heap.size) : BytesIs (W.alloc (.cells #[v] t)) (.slice (some ⟨N, 0, none⟩) 1 1) [c] := BytesIs.one W c v hv t N hN
theorem n2 (W : World) (c d : UInt8) (v u : Value) (hv : v = .int .u8 (c.toNat : Int)) (hu : u = .int .u8 (d.toNat : Int)) (t : TypeId) (N : Nat) (hN : N = W.heap.size) : BytesIs (W.alloc (.cells #[v, u] t)) (.slice (some ⟨N, 0, none⟩) 2 2) [c, d] := by
  subst hv hu
  exact BytesIs.new W [c, d] _ t 2 rfl 2 (by omega) (fun j hj => by
    match j, hj with
    | 0, _ | 1, _ => rfl) N hN
theorem n0 (W : World) (t : TypeId) (N : Nat) (hN : N = W.heap.size) : BytesIs (W.alloc (.cells #[] t)) (.slice (some ⟨N, 0, none⟩) 0 0) [] := BytesIs.new W [] _ t 0 rfl 0 (by omega) (fun j hj => by simp at hj) N hN
end Go.Proofs.YtmmcnoapkdhgpaaDoor.Mac
