/-
  Tenants: who may be, who may be side by side. No program stands here.
-/
import Derived.Test.YtbbmjkligiglmaaGround
namespace Go.Proofs.Ytbbmjkligiglmaa.Tenant
open Go.RowKit Base

structure Tn where
  id : Int
  key : List UInt8
  ri : Int
  bu : Int
  qu : Int
  ev : Int
  qe : Int
  se : Int
  re : Int
def zero : Tn := ⟨0, [], 0, 0, 0, 0, 0, 0, 0⟩
instance : Inhabited Tn := ⟨zero⟩
def inn (v lo hi : Int) : Bool := decide (lo ≤ v ∧ v ≤ hi)
theorem inn_iff (v lo hi : Int) : inn v lo hi = true ↔ lo ≤ v ∧ v ≤ hi := by unfold inn; rw [decide_eq_true_eq]
def good (t : Tn) : Bool := inn t.id 0 65535 && (inn t.key.length 1 64 && (inn t.ri 0 3 && (inn t.bu 0 65536 && (inn t.qu 0 1048576 && (inn t.ev 1 1048576 && (inn t.qe 1 16 && (inn t.se 1 16 && inn t.re 1 64)))))))
theorem good_iff (t : Tn) : good t = true ↔ (0 ≤ t.id ∧ t.id ≤ 65535) ∧ (1 ≤ t.key.length ∧ t.key.length ≤ 64) ∧ (0 ≤ t.ri ∧ t.ri ≤ 3) ∧ (0 ≤ t.bu ∧ t.bu ≤ 65536) ∧ (0 ≤ t.qu ∧ t.qu ≤ 1048576) ∧ (1 ≤ t.ev ∧ t.ev ≤ 1048576) ∧ (1 ≤ t.qe ∧ t.qe ≤ 16) ∧ (1 ≤ t.se ∧ t.se ≤ 16) ∧ (1 ≤ t.re ∧ t.re ≤ 64) := by
  unfold good
  simp only [Bool.and_eq_true, inn_iff]
  omega
/-- all budgets of the first so many together -/
def sumB (L : List Tn) : Nat → Int
  | 0 => 0
  | i + 1 => sumB L i + (L.getD i zero).bu
def Each (L : List Tn) (i : Nat) : Prop := (∀ j, j < i → good (L.getD j zero) = true) ∧ ∀ j, j < i → ∀ k, k < j → (L.getD k zero).id ≠ (L.getD j zero).id
theorem Each.start (L : List Tn) : Each L 0 := ⟨fun j h => absurd h (Nat.not_lt_zero j), fun j h => absurd h (Nat.not_lt_zero j)⟩
theorem Each.next {L : List Tn} {i : Nat} (h : Each L i) (hg : good (L.getD i zero) = true) (hn : ∀ k, k < i → (L.getD k zero).id ≠ (L.getD i zero).id) : Each L (i + 1) := by
  constructor
  · intro j hj
    rcases Nat.lt_or_eq_of_le (Nat.le_of_lt_succ hj) with h1 | rfl
    · exact h.1 j h1
    · exact hg
  · intro j hj
    rcases Nat.lt_or_eq_of_le (Nat.le_of_lt_succ hj) with h1 | rfl
    · exact h.2 j h1
    · exact hn
theorem Each.sum {L : List Tn} : ∀ {i : Nat}, Each L i → 0 ≤ sumB L i ∧ sumB L i ≤ 65536 * (i : Int)
  | 0, _ => by simp [sumB]
  | i + 1, h => by
    have h1 := Each.sum (L := L) (i := i) ⟨fun j hj => h.1 j (by omega), fun j hj => h.2 j (by omega)⟩
    have h2 := ((good_iff _).1 (h.1 i (by omega))).2.2.2.1
    show 0 ≤ sumB L i + _ ∧ sumB L i + _ ≤ _
    omega
def Fits (L : List Tn) (pool : Int) : Prop := (1 ≤ L.length ∧ L.length ≤ 64) ∧ (0 ≤ pool ∧ pool ≤ 65536) ∧ Each L L.length ∧ sumB L L.length ≤ pool
open Classical in
noncomputable def allErr (L : List Tn) (pool : Int) : Int := if Fits L pool then 0 else 1
theorem all_yes {L : List Tn} {pool : Int} (h : Fits L pool) : allErr L pool = 0 := if_pos h
theorem all_no {L : List Tn} {pool : Int} (h : ¬ Fits L pool) : allErr L pool = 1 := if_neg h
/-- who is found by an ID: the first one -/
def FoundBy (L : List Tn) (id : Int) (k : Nat) (ok : Bool) : Prop := (ok = true → k < L.length ∧ (L.getD k zero).id = id ∧ ∀ j, j < k → (L.getD j zero).id ≠ id) ∧ (ok = false → ∀ j, j < L.length → (L.getD j zero).id ≠ id)
end Go.Proofs.Ytbbmjkligiglmaa.Tenant
