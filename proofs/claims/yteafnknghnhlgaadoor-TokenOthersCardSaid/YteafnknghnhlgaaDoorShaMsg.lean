/-
  The hasher's contents as a message grows: plain reckoning.
-/
import Derived.Test.YteafnknghnhlgaaDoorShaMix
namespace Go.Proofs.YteafnknghnhlgaaDoor.Sha
open Go.RowKit Base

/-- the block with x laid at n -/
def lay (B : Nat → Int) (n : Nat) (x : List UInt8) (j : Nat) : Int := if n ≤ j ∧ j < n + x.length then ((x.getD (j - n) 0).toNat : Int) else B j
theorem u8_lt (u : UInt8) : (0 : Int) ≤ (u.toNat : Int) ∧ (u.toNat : Int) < 256 := by have := u.toNat_lt; omega
theorem lay_lt (B : Nat → Int) (n : Nat) (x : List UInt8) (hB : ∀ j, j < 64 → 0 ≤ B j ∧ B j < 256) : ∀ j, j < 64 → 0 ≤ lay B n x j ∧ lay B n x j < 256 := by
  intro j hj
  unfold lay
  split
  · exact u8_lt _
  · exact hB j hj
theorem lay_blk (M x : List UInt8) (B : Nat → Int) (hn : M.length % 64 + x.length ≤ 64) (hB : ∀ j, j < M.length % 64 → B j = blk M (M.length / 64) j) :
    ∀ j, j < M.length % 64 + x.length → lay B (M.length % 64) x j = blk (M ++ x) (M.length / 64) j := by
  intro j hj
  unfold lay blk
  simp only [List.getD_eq_getElem?_getD]
  by_cases h : M.length % 64 ≤ j
  · rw [if_pos ⟨h, hj⟩, List.getElem?_append_right (by omega)]
    rw [show 64 * (M.length / 64) + j - M.length = j - M.length % 64 from by omega]
  · rw [if_neg (by omega), hB j (by omega), List.getElem?_append_left (by omega)]
    unfold blk
    simp only [List.getD_eq_getElem?_getD]
theorem grow_within (M x : List UInt8) (hn : M.length % 64 + x.length < 64) :
    (M ++ x).length % 64 = M.length % 64 + x.length ∧ (M ++ x).length / 64 = M.length / 64 ∧ st (M ++ x) (M.length / 64) = st M (M.length / 64) := by
  refine ⟨by rw [List.length_append]; omega, by rw [List.length_append]; omega, st_append M x _ (by omega)⟩
theorem grow_whole (M x : List UInt8) (B : Nat → Int) (hn : M.length % 64 + x.length = 64) (hB : ∀ j, j < M.length % 64 → B j = blk M (M.length / 64) j) :
    (M ++ x).length % 64 = 0 ∧ (M ++ x).length / 64 = M.length / 64 + 1 ∧ block (lay B (M.length % 64) x) (st M (M.length / 64)) = st (M ++ x) (M.length / 64 + 1) := by
  refine ⟨by rw [List.length_append]; omega, by rw [List.length_append]; omega, ?_⟩
  rw [st, st_append M x _ (by omega)]
  exact block_congr _ _ (fun j hj => lay_blk M x B (by omega) hB j (by omega)) _

/-- the hasher at b has taken msg; tot stands in its count -/
def HI (w : World) (b : Nat) (msg : List UInt8) (tot : Nat) : Prop :=
  ∃ B : Nat → Int, (∀ j, j < 64 → 0 ≤ B j ∧ B j < 256) ∧ (∀ j, j < msg.length % 64 → B j = blk msg (msg.length / 64) j) ∧ w.rowIs b 62 74 (hcell (st msg (msg.length / 64)) B (msg.length % 64) tot)
theorem HI.fr {S : Nat → Prop} {w w' : World} {b : Nat} {msg : List UInt8} {tot : Nat} (h : HI w b msg tot) (hf : Fr S w w') (hs : ¬ S b) : HI w' b msg tot := by
  obtain ⟨B, h1, h2, h3⟩ := h
  exact ⟨B, h1, h2, hf.row h3 hs⟩
theorem HI.lt {w : World} {b : Nat} {msg : List UInt8} {tot : Nat} (h : HI w b msg tot) : b < w.heap.size := by
  obtain ⟨B, _, _, h3⟩ := h
  exact h3.lt

def bytes (x : List UInt8) : List Value := x.map fun u => .int .u8 (u.toNat : Int)
theorem bytes_one (x : List UInt8) : ∀ v ∈ bytes x, v.oneCell' = true := by
  intro v hv
  simp [bytes] at hv
  obtain ⟨u, _, rfl⟩ := hv
  rfl
theorem bytes_length (x : List UInt8) : (bytes x).length = x.length := by simp [bytes]
theorem bytes_get (x : List UInt8) (j : Nat) (h : j < x.length) : (bytes x)[j]? = some (.int .u8 ((x.getD j 0).toNat : Int)) := by simp [bytes, h]

/-- the copy into the block, as an equation -/
theorem copy_eq (w : World) (b : Nat) (s : St) (B : Nat → Int) (n t : Nat) (h : w.rowIs b 62 74 (hcell s B n t)) (a : Addr) (sLen sCap : Nat) (x : List UInt8) (hx : x.length = Nat.min sLen (64 - n)) (hn : n < 64)
    (hsrc : ∀ j, j < x.length → w.cell? (a.add j) = some (.int .u8 ((x.getD j 0).toNat : Int))) :
    ∃ X : Array Value, (Builtin.copy_ #[23, 23] 3 #[.slice (some ⟨b, 8 + n, none⟩) (64 - n) (64 - n), .slice (some a) sLen sCap]).run Tryd.prog w = .ok (.int .i64 (x.length : Int)) (w.setRow b X) ∧
      (w.setRow b X).rowIs b 62 74 (hcell s (lay B n x) n t) := by
  have hc := row_cells h
  have hle : x.length ≤ 64 - n := by rw [hx]; exact Nat.min_le_right _ _
  have hrun := run_copy_row (P := Tryd.prog) w 23 23 3 5 b (8 + n) (64 - n) (64 - n) a sLen sCap _ _ (bytes x) Tryd.underlying23 (by kernel_rfl) hc (by rw [bytes_length, hx])
      (fun j v hv => by
        have hj : j < x.length := by have := (List.getElem?_eq_some_iff.1 hv).1; rwa [bytes_length] at this
        rw [bytes_get x j hj] at hv
        rw [hsrc j hj, hv]) (by simp [bytes_length]; omega) (bytes_one x)
  rw [bytes_length] at hrun
  refine ⟨_, hrun, rowIs_setRow h _ (by simp [bytes_length]; omega) (fun i hi => ?_)⟩
  rw [toArray_get]
  have := splice_get ((List.range 74).map (hcell s B n t)) (bytes x) (8 + n) i (by simp [bytes_length]; omega)
  rw [bytes_length] at this
  simp only [List.toList_toArray]
  rw [this]
  by_cases h1 : 8 + n ≤ i ∧ i < 8 + n + x.length
  · rw [if_pos h1, bytes_get x _ (by omega)]
    unfold hcell lay
    rw [if_neg (by omega), if_pos (by omega), if_pos (by omega), show i - 8 - n = i - (8 + n) from by omega]
  · rw [if_neg h1]
    simp only [List.getElem?_map, List.getElem?_range hi, Option.map_some]
    unfold hcell lay
    by_cases h2 : i < 8
    · rw [if_pos h2, if_pos h2]
    · rw [if_neg h2, if_neg h2]
      by_cases h3 : i < 72
      · rw [if_pos h3, if_pos h3, if_neg (by omega)]
      · rw [if_neg h3, if_neg h3]
end Go.Proofs.YteafnknghnhlgaaDoor.Sha
