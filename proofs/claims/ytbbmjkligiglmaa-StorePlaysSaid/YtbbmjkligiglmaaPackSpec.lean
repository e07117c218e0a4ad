/-
  What pack's numbers and readers are, as functions of lists. No program stands here.
-/
import Derived.Test.YtbbmjkligiglmaaGround
namespace Go.Proofs.Ytbbmjkligiglmaa.Base
open Go.RowKit
/-- v[:n] -/
theorem BytesIs.takeHi {w : World} {A : Option Addr} {C n : Nat} {l : List UInt8} (hle : n ≤ l.length) (hB : BytesIs w (.slice A l.length C) l) : BytesIs w (.slice A n C) (l.take n) := by
  obtain ⟨a', c', pb, po, he, h1, h2, h3⟩ := hB
  simp only [Value.slice.injEq, true_and] at he
  obtain ⟨rfl, rfl⟩ := he
  have hl : (l.take n).length = n := by simp; omega
  exact ⟨A, C, pb, po, by rw [hl], by rw [hl]; omega, fun h => h2 (by omega), fun j hj => by rw [hl] at hj; rw [h3 j (by omega)]; simp [hj]⟩
theorem BytesIs.form {w : World} {v : Value} {l : List UInt8} (h : BytesIs w v l) : ∃ a c, v = .slice a l.length c := by
  obtain ⟨a, c, _, _, hv, _⟩ := h
  exact ⟨a, c, hv⟩
end Go.Proofs.Ytbbmjkligiglmaa.Base
namespace Go.Proofs.Ytbbmjkligiglmaa.Pack
open Go.RowKit Base

/-- the number that bytes tell, the highest first -/
def num (l : List UInt8) : Nat := l.foldl (fun a x => a * 256 + x.toNat) 0
/-- the lowest k bytes of v, the highest first -/
def be (k v : Nat) : List UInt8 := (List.range k).map fun i => UInt8.ofNat (v / 2 ^ (8 * (k - 1 - i)) % 256)
theorem be_length (k v : Nat) : (be k v).length = k := by simp [be]
theorem num_append (l : List UInt8) (x : UInt8) : num (l ++ [x]) = num l * 256 + x.toNat := by simp [num]
theorem num_next (l : List UInt8) (k : Nat) (h : k < l.length) : num (l.take (k + 1)) = num (l.take k) * 256 + (l.getD k 0).toNat := by
  have : l.take (k + 1) = l.take k ++ [l.getD k 0] := by rw [List.take_add_one]; simp [h]
  rw [this, num_append]
theorem num_lt (l : List UInt8) : num l < 256 ^ l.length := by
  obtain ⟨m, rfl⟩ : ∃ m : List UInt8, l = m.reverse := ⟨l.reverse, by simp⟩
  induction m with
  | nil => simp [num]
  | cons x m ih =>
    rw [List.reverse_cons, num_append, List.length_append, List.length_singleton, Nat.pow_succ]
    have := x.toNat_lt
    omega
theorem num_lt_le {l : List UInt8} {k : Nat} (h : l.length ≤ k) : num l < 256 ^ k := Nat.lt_of_lt_of_le (num_lt l) (Nat.pow_le_pow_right (by decide) h)
theorem be_take (k v j : Nat) (hj : j ≤ k) : num ((be k v).take j) = v / 2 ^ (8 * (k - j)) % 256 ^ j := by
  induction j with
  | zero => simp [num, Nat.mod_one]
  | succ j ih =>
    rw [num_next _ _ (by rw [be_length]; omega), ih (by omega)]
    have hg : ((be k v).getD j 0).toNat = v / 2 ^ (8 * (k - (j + 1))) % 256 := by
      have : (be k v).getD j 0 = UInt8.ofNat (v / 2 ^ (8 * (k - 1 - j)) % 256) := by
        simp [be, show j < k from by omega]
      rw [this, UInt8.toNat_ofNat_of_lt' (Nat.mod_lt _ (by decide)), show k - 1 - j = k - (j + 1) from by omega]
    rw [hg]
    have e1 : 8 * (k - j) = 8 * (k - (j + 1)) + 8 := by omega
    rw [e1, Nat.pow_add, show (2 : Nat) ^ 8 = 256 from rfl, ← Nat.div_div_eq_div_mul]
    generalize v / 2 ^ (8 * (k - (j + 1))) = q
    rw [Nat.pow_succ, Nat.mul_comm (256 ^ j) 256, Nat.mod_mul]
    omega
theorem num_be (k v : Nat) : num (be k v) = v % 256 ^ k := by
  have := be_take k v k (Nat.le_refl _)
  rw [List.take_of_length_le (by rw [be_length]; exact Nat.le_refl _)] at this
  simpa using this
theorem be_next (k v i : Nat) (h : i < k) : (be k v).take (i + 1) = (be k v).take i ++ [UInt8.ofNat (v / 2 ^ (8 * (k - 1 - i)) % 256)] := by
  rw [List.take_add_one]; simp [be, h]

/-- what a reader cuts off, what is left, which error stays -/
def failE (c e : Int) : Int := if e = 0 then c else e
def cutOut (n : Nat) (l : List UInt8) : List UInt8 := if l.length < n then [] else l.take n
def cutRest (n : Nat) (l : List UInt8) : List UInt8 := if l.length < n then [] else l.drop n
def cutErr (n : Nat) (l : List UInt8) (e : Int) : Int := if l.length < n then failE 3 e else e
theorem cutOut_length (n : Nat) (l : List UInt8) : (cutOut n l).length ≤ n := by
  unfold cutOut; split
  · simp
  · simp; omega
theorem cutOut_num (n : Nat) (l : List UInt8) : num (cutOut n l) < 256 ^ n := num_lt_le (cutOut_length n l)
def bytesOut (m : Int) (l : List UInt8) : List UInt8 := if m < (num (cutOut 2 l) : Int) then [] else cutOut (num (cutOut 2 l)) (cutRest 2 l)
def bytesRest (m : Int) (l : List UInt8) : List UInt8 := if m < (num (cutOut 2 l) : Int) then [] else cutRest (num (cutOut 2 l)) (cutRest 2 l)
def bytesErr (m : Int) (l : List UInt8) (e : Int) : Int := if m < (num (cutOut 2 l) : Int) then failE 2 (cutErr 2 l e) else cutErr (num (cutOut 2 l)) (cutRest 2 l) (cutErr 2 l e)
def takeOut (n : Int) (l : List UInt8) : List UInt8 := if n < 0 then [] else cutOut n.toNat l
def takeRest (n : Int) (l : List UInt8) : List UInt8 := if n < 0 then [] else cutRest n.toNat l
def takeErr (n : Int) (l : List UInt8) (e : Int) : Int := if n < 0 then failE 1 e else cutErr n.toNat l e

/-- a reader's object lies at g: what is left, the error -/
def RdAt (w : World) (g : Nat) (t : TypeId) (l : List UInt8) (e : Int) : Prop := ∃ sv, w.rowIs g t 2 (fun i => if i = 0 then sv else .int .i64 e) ∧ BytesIs w sv l
/-- no byte lies in block g -/
def NoU8 (w : World) (g : Nat) : Prop := ∀ o n, w.cell? ⟨g, o, none⟩ ≠ some (.int .u8 n)
theorem RdAt.noU8 {w : World} {g : Nat} {t : TypeId} {l : List UInt8} {e : Int} (h : RdAt w g t l e) : NoU8 w g := by
  obtain ⟨sv, hr, hb⟩ := h
  obtain ⟨a, n, c, rfl⟩ := hb.slice
  intro o n hc
  have hcs := row_cells hr
  rw [cell_of_row _ _ _ _ _ _ hcs] at hc
  have ho : o < 2 := by
    have := (Array.getElem?_eq_some_iff.1 hc).1
    simpa using this
  rw [range_map_get _ o ho] at hc
  by_cases h0 : o = 0
  · simp [h0] at hc
  · simp [h0] at hc
theorem RdAt.lt {w : World} {g : Nat} {t : TypeId} {l : List UInt8} {e : Int} (h : RdAt w g t l e) : g < w.heap.size := by
  obtain ⟨sv, hr, _⟩ := h
  exact hr.lt
theorem bytes_fr1 {w w' : World} {g : Nat} {v : Value} {l : List UInt8} (h : BytesIs w v l) (hf : Fr1 g w w') (hg : NoU8 w g) : BytesIs w' v l := by
  obtain ⟨a, cap, pb, po, hv, hle, ha, hc⟩ := h
  refine ⟨a, cap, pb, po, hv, hle, ha, fun j hj => ?_⟩
  have h1 := hc j hj
  rw [hf.cell (p := ⟨pb, po + j, none⟩) (World.block_lt_of_cell? w _ h1) (fun e => ?_)]
  · exact h1
  · have e' : pb = g := e
    subst e'
    exact hg _ _ h1
theorem RdAt.fr1 {w w' : World} {g g' : Nat} {t : TypeId} {l : List UInt8} {e : Int} (h : RdAt w g t l e) (hf : Fr1 g' w w') (hne : g ≠ g') (hg : NoU8 w g') : RdAt w' g t l e := by
  obtain ⟨sv, hr, hb⟩ := h
  exact ⟨sv, hf.row hr hne, bytes_fr1 hb hf hg⟩
theorem RdAt.fr0 {w w' : World} {g : Nat} {t : TypeId} {l : List UInt8} {e : Int} (h : RdAt w g t l e) (hf : Fr0 w w') : RdAt w' g t l e := by
  obtain ⟨sv, hr, hb⟩ := h
  exact ⟨sv, hf.row hr (fun f => f), hb.fr0 hf⟩
theorem noU8_fr0 {w w' : World} {g : Nat} (h : NoU8 w g) (hf : Fr0 w w') (hlt : g < w.heap.size) : NoU8 w' g := fun o n hc => by
  rw [hf.cell (p := ⟨g, o, none⟩) hlt (fun f => f)] at hc
  exact h o n hc
theorem fr1_set {w w' : World} {g : Nat} (h : Fr1 g w w') (o : Nat) (v : Value) : Fr1 g w (w'.setCell ⟨g, o, none⟩ v) := Fr.setCell h (p := ⟨g, o, none⟩) (fun _ => rfl) v
end Go.Proofs.Ytbbmjkligiglmaa.Pack
