/-
  Envelopes as bytes: whose they are, opened, spoilt. No program stands here.
-/
import Derived.Test.YteafnknghnhlgaaDoorMacSpec
import Derived.Test.YteafnknghnhlgaaDoorPackBe
namespace Go.Proofs.YteafnknghnhlgaaDoor.Token
open Go.RowKit Base Pack

def env (n : Nat) (k b : List UInt8) : List UInt8 := be 2 n ++ (Mac.hmac k (be 2 n ++ b) ++ b)
theorem env_length (n : Nat) (k b : List UInt8) : (env n k b).length = 34 + b.length := by
  unfold env
  rw [List.length_append, List.length_append, be_length, Mac.hmac_len]
  omega
def okId (id : Int) : Bool := decide (0 ≤ id ∧ id ≤ 65535)
def sealOut (id : Int) (k b : List UInt8) : List UInt8 := if okId id = true then env id.toNat k b else []
def sealErr (id : Int) : Int := if okId id = true then 0 else 1
theorem seal_ok {n : Nat} (h : n < 65536) (k b : List UInt8) : sealOut (n : Int) k b = env n k b ∧ sealErr (n : Int) = 0 := by
  have : okId (n : Int) = true := decide_eq_true (by omega)
  unfold sealOut sealErr
  rw [if_pos this, if_pos this]
  exact ⟨rfl, rfl⟩
theorem seal_no {id : Int} (h : id < 0 ∨ 65535 < id) (k b : List UInt8) : sealOut id k b = [] ∧ sealErr id = 1 := by
  have : ¬ okId id = true := by unfold okId; rw [decide_eq_true_eq]; omega
  unfold sealOut sealErr
  rw [if_neg this, if_neg this]
  exact ⟨rfl, rfl⟩
def idOut (b : List UInt8) : Nat := if b.length < 34 then 0 else num (b.take 2)
def idOk (b : List UInt8) : Bool := decide (34 ≤ b.length)
def openErr (b : List UInt8) (id : Int) (k : List UInt8) : Int := if b.length < 34 then 2 else if ((num (b.take 2) : Nat) : Int) = id ∧ env (num (b.take 2)) k (b.drop 34) = b then 0 else 5
def openOut (b : List UInt8) (id : Int) (k : List UInt8) : List UInt8 := if openErr b id k = 0 then b.drop 34 else []
theorem take2 (b : List UInt8) (h : 2 ≤ b.length) : num (b.take 2) = (b.getD 0 0).toNat * 256 + (b.getD 1 0).toNat := by
  match b, h with
  | x :: y :: l, _ => simp [num]
theorem env_take2 {n : Nat} (h : n < 65536) (k b : List UInt8) : num ((env n k b).take 2) = n := by
  unfold env
  rw [List.take_append_of_le_length (by rw [be_length]; exact Nat.le_refl _), List.take_of_length_le (by rw [be_length]; exact Nat.le_refl _), num_be_lt (k := 2) h]
theorem env_drop (n : Nat) (k b : List UInt8) : (env n k b).drop 34 = b := by
  unfold env
  rw [← List.append_assoc, List.drop_append_of_le_length (by rw [List.length_append, be_length, Mac.hmac_len]; exact Nat.le_refl _), List.drop_of_length_le (by rw [List.length_append, be_length, Mac.hmac_len]; exact Nat.le_refl _), List.nil_append]
/-- opened by its own -/
theorem open_own {n : Nat} (h : n < 65536) (k b : List UInt8) : openErr (env n k b) (n : Int) k = 0 ∧ openOut (env n k b) (n : Int) k = b := by
  have h1 : openErr (env n k b) (n : Int) k = 0 := by
    unfold openErr
    rw [if_neg (by rw [env_length]; omega), if_pos ⟨by rw [env_take2 h], by rw [env_take2 h, env_drop]⟩]
  exact ⟨h1, by unfold openOut; rw [if_pos h1, env_drop]⟩
/-- another's -/
theorem open_other {n : Nat} (h : n < 65536) (k b : List UInt8) (id : Int) (hid : id ≠ (n : Int)) (k' : List UInt8) : openErr (env n k b) id k' = 5 := by
  unfold openErr
  rw [if_neg (by rw [env_length]; omega), if_neg (fun hc => hid (by rw [← hc.1, env_take2 h]))]
theorem openOut_no {b : List UInt8} {id : Int} {k : List UInt8} (h : ¬ openErr b id k = 0) : openOut b id k = [] := by unfold openOut; rw [if_neg h]
/-- a byte of the ID or of the sum is another -/
theorem open_turned {n : Nat} (h : n < 65536) (k b : List UInt8) (i : Nat) (hi : i < 34) (x : UInt8) (hx : x ≠ (env n k b).getD i 0) : openErr ((env n k b).set i x) (n : Int) k = 5 := by
  have hl := env_length n k b
  unfold openErr
  rw [if_neg (by rw [List.length_set]; omega), if_neg]
  rintro ⟨h1, h2⟩
  have h3 : num (((env n k b).set i x).take 2) = n := by omega
  have hd : ((env n k b).set i x).drop 34 = b := by rw [List.drop_set_of_lt hi, env_drop]
  rw [h3, hd] at h2
  apply hx
  have h4 := congrArg (fun l => l.getD i 0) h2
  simp only [List.getD_eq_getElem?_getD, List.getElem?_set_self (show i < (env n k b).length by omega), Option.getD_some] at h4 ⊢
  exact h4.symm
/-- another body behind the same front -/
theorem open_body {n : Nat} (h : n < 65536) (k a b : List UInt8) : openErr ((env n k a).take 34 ++ b) (n : Int) k = if (env n k b).take 34 = (env n k a).take 34 then 0 else 5 := by
  have hl := env_length n k a
  have hl2 := env_length n k b
  have ht : ((env n k a).take 34).length = 34 := by rw [List.length_take]; omega
  have h2 : num (((env n k a).take 34 ++ b).take 2) = n := by
    rw [List.take_append_of_le_length (by omega), List.take_take, Nat.min_eq_left (by omega), env_take2 h]
  have hd : ((env n k a).take 34 ++ b).drop 34 = b := by rw [List.drop_append_of_le_length (by omega), List.drop_of_length_le (by omega), List.nil_append]
  have hs : env n k b = (env n k b).take 34 ++ b := by
    conv => lhs; rw [← List.take_append_drop 34 (env n k b), env_drop]
  unfold openErr
  rw [if_neg (by rw [List.length_append]; omega), h2, hd]
  by_cases hc : (env n k b).take 34 = (env n k a).take 34
  · rw [if_pos hc, if_pos ⟨rfl, by rw [← hc]; exact hs⟩]
  · rw [if_neg hc, if_neg]
    rintro ⟨_, h3⟩
    apply hc
    rw [h3, List.take_append_of_le_length (by omega), List.take_of_length_le (by omega)]
theorem open_body_out {n : Nat} (h : n < 65536) (k a b : List UInt8) (hc : (env n k b).take 34 = (env n k a).take 34) : openOut ((env n k a).take 34 ++ b) (n : Int) k = b := by
  have ht : ((env n k a).take 34).length = 34 := by rw [List.length_take, env_length]; omega
  unfold openOut
  rw [if_pos (by rw [open_body h, if_pos hc]), List.drop_append_of_le_length (by omega), List.drop_of_length_le (by omega), List.nil_append]
end Go.Proofs.YteafnknghnhlgaaDoor.Token
