/-
  HMAC as plain reckoning on bytes; bytes held against each other, bit by bit. No program stands here.
-/
import Derived.Test.YteafnknghnhlgaaDoorShaOf
import Derived.Laws.BitsAllLaws
namespace Go.Proofs.YteafnknghnhlgaaDoor.Mac
open Go.RowKit Base Sha

def keyL (k : List UInt8) : List UInt8 := if 64 < k.length then digest k else k
def keyBlk (k : List UInt8) : List UInt8 := keyL k ++ List.replicate (64 - (keyL k).length) 0
def xorB (p : UInt8) (l : List UInt8) : List UInt8 := l.map (· ^^^ p)
def hmac (k m : List UInt8) : List UInt8 := digest (xorB 92 (keyBlk k) ++ digest (xorB 54 (keyBlk k) ++ m))

theorem digest_len (m : List UInt8) : (digest m).length = 32 := by simp [digest]
theorem keyL_len (k : List UInt8) : (keyL k).length ≤ 64 := by
  unfold keyL
  split
  · rw [digest_len]; omega
  · omega
theorem keyBlk_len (k : List UInt8) : (keyBlk k).length = 64 := by
  have := keyL_len k
  simp [keyBlk]; omega
theorem xorB_len (p : UInt8) (l : List UInt8) : (xorB p l).length = l.length := by simp [xorB]
theorem hmac_len (k m : List UInt8) : (hmac k m).length = 32 := digest_len _

theorem xor_byte (x p : UInt8) : bits .xor .u8 (x.toNat : Int) (p.toNat : Int) = ((x ^^^ p).toNat : Int) := by
  rw [u8_xor_nat _ _ x.toNat_lt p.toNat_lt]
  simp

theorem bit_byte (X : UInt8) (m : Nat) (hm : m < 8) : bits .xor .u8 (X.toNat : Int) (2 ^ m % 256) = ((X ^^^ UInt8.ofNat (2 ^ m)).toNat : Int) ∧ X ^^^ UInt8.ofNat (2 ^ m) ≠ X := by
  have e : ((UInt8.ofNat (2 ^ m)).toNat : Int) = 2 ^ m % 256 := by
    match m, hm with
    | 0, _ | 1, _ | 2, _ | 3, _ | 4, _ | 5, _ | 6, _ | 7, _ => decide
  have hp : (UInt8.ofNat (2 ^ m)).toNat ≠ 0 := by
    match m, hm with
    | 0, _ | 1, _ | 2, _ | 3, _ | 4, _ | 5, _ | 6, _ | 7, _ => decide
  refine ⟨by rw [← e]; exact xor_byte _ _, fun h => hp ?_⟩
  have h1 := congrArg UInt8.toNat h
  rw [UInt8.toNat_xor] at h1
  have h2 : X.toNat ^^^ (X.toNat ^^^ (UInt8.ofNat (2 ^ m)).toNat) = X.toNat ^^^ X.toNat := by rw [h1]
  rwa [← Nat.xor_assoc, Nat.xor_self, Nat.zero_xor] at h2
/-- what is apart in the first k bytes, bit by bit -/
def apart (la lb : List UInt8) : Nat → Nat
  | 0 => 0
  | k + 1 => apart la lb k ||| ((la.getD k 0).toNat ^^^ (lb.getD k 0).toNat)
theorem apart_lt (la lb : List UInt8) : ∀ k, apart la lb k < 256
  | 0 => by show 0 < 256; decide
  | k + 1 => Nat.or_lt_two_pow (n := 8) (apart_lt la lb k) (Nat.xor_lt_two_pow (n := 8) (UInt8.toNat_lt _) (UInt8.toNat_lt _))
theorem xor_zero (a b : Nat) : a ^^^ b = 0 ↔ a = b := by
  constructor
  · intro h
    have : (a ^^^ b) ^^^ b = b := by rw [h, Nat.zero_xor]
    rwa [Nat.xor_assoc, Nat.xor_self, Nat.xor_zero] at this
  · rintro rfl
    exact Nat.xor_self _
theorem apart_zero (la lb : List UInt8) : ∀ k, apart la lb k = 0 ↔ ∀ j, j < k → la.getD j 0 = lb.getD j 0
  | 0 => by simp [apart]
  | k + 1 => by
    rw [apart, Nat.or_eq_zero_iff, apart_zero la lb k, xor_zero]
    constructor
    · rintro ⟨h1, h2⟩ j hj
      by_cases h : j < k
      · exact h1 j h
      · obtain rfl : j = k := by omega
        exact UInt8.toNat_inj.1 h2
    · intro h
      exact ⟨fun j hj => h j (by omega), by rw [h k (by omega)]⟩
theorem apart_eq (la lb : List UInt8) (h : la.length = lb.length) : apart la lb la.length = 0 ↔ la = lb := by
  rw [apart_zero]
  constructor
  · intro h'
    apply List.ext_getElem?
    intro i
    by_cases hi : i < la.length
    · have := h' i hi
      simp only [List.getD_eq_getElem?_getD] at this
      rw [List.getElem?_eq_getElem hi, List.getElem?_eq_getElem (by omega)] at this ⊢
      simpa using this
    · rw [List.getElem?_eq_none (by omega), List.getElem?_eq_none (by omega)]
  · rintro rfl j _
    rfl
end Go.Proofs.YteafnknghnhlgaaDoor.Mac
