/-
  The reference's words: four bytes as one, and what the rounds reckon.
-/
import Derived.Test.YtcdfflieooopjaaDoorRefU
import Derived.Deep.AppendLies
namespace Go.Proofs.YtcdfflieooopjaaDoor.Sha
open Go.RowKit Base

theorem be_nv (b0 b1 b2 b3 : Nat) (h0 : b0 < 256) (h1 : b1 < 256) (h2 : b2 < 256) (h3 : b3 < 256) : be b0 b1 b2 b3 = (((b0 * 256 + b1) * 256 + b2) * 256 + b3 : Nat) := by
  unfold be
  have e0 : (b0 : Int) * 16777216 = ((b0 * 16777216 : Nat) : Int) := by omega
  have e1 : (b1 : Int) * 65536 = ((b1 * 65536 : Nat) : Int) := by omega
  have e2 : (b2 : Int) * 256 = ((b2 * 256 : Nat) : Int) := by omega
  rw [e0, e1, e2, u32_or_nat _ _ (by omega) (by omega), nat_join 24 (b0 * 16777216) (b1 * 65536) (by omega) (by omega),
    u32_or_nat _ _ (by omega) (by omega), nat_join 16 (b0 * 16777216 + b1 * 65536) (b2 * 256) (by omega) (by omega),
    u32_or_nat _ _ (by omega) (by omega), nat_join 8 (b0 * 16777216 + b1 * 65536 + b2 * 256) b3 (by omega) (by omega)]
  omega
theorem nv_four (a b c d : UInt8) : nv [a, b, c, d] = ((a.toNat * 256 + b.toNat) * 256 + c.toNat) * 256 + d.toNat := by simp [nv]
theorem four (l : List UInt8) (k : Nat) (h : k + 4 ≤ l.length) : (l.drop k).take 4 = [l.getD k 0, l.getD (k + 1) 0, l.getD (k + 2) 0, l.getD (k + 3) 0] := by
  apply List.ext_getElem?
  intro i
  by_cases hi : i < 4
  · rw [List.getElem?_take_of_lt hi, List.getElem?_drop]
    match i, hi with
    | 0, _ | 1, _ | 2, _ | 3, _ =>
      simp only [List.getElem?_cons_zero, List.getElem?_cons_succ, List.getD_eq_getElem?_getD, Nat.add_zero]
      rw [List.getElem?_eq_getElem (by omega)]
      rfl
  · rw [List.getElem?_eq_none (by simp; omega), List.getElem?_eq_none (by simp; omega)]
theorem word_nv (P : List UInt8) (q k : Nat) (hk : k < 16) (hP : 64 * q + 64 ≤ P.length) : (nv ((P.drop (64 * q + 4 * k)).take 4) : Int) = W (blk P q) k := by
  rw [W_lo _ _ hk, four _ _ (by omega)]
  unfold blk
  rw [be_nv _ _ _ _ (UInt8.toNat_lt _) (UInt8.toNat_lt _) (UInt8.toNat_lt _) (UInt8.toNat_lt _), nv_four]
  rfl
theorem num_word (v : Value) (P : List UInt8) (q k : Nat) (hk : k < 16) (hP : 64 * q + 64 ≤ P.length) (w : World) (hB : BytesIs w v ((P.drop (64 * q + 4 * k)).take 4)) :
    Calls Tryd.prog 38 #[v] w fun e w' => e = .returned (.int .u64 (W (blk P q) k)) ∧ w = w' := by
  rw [← word_nv P q k hk hP]
  exact num_any v _ (by simp; omega) w hB
theorem infoU32 : (Tryd.prog.info? 49).map (fun i => (i.zero, i.size, i.bytes)) = some (some (.int .u32 0), 1, 4) := by kernel_rfl
theorem one_cell (w : World) (x : Value) (t : TypeId) : ∀ j u, [x][j]? = some u → (w.alloc (.cells #[x] t)).cell? ((⟨w.heap.size, 0, none⟩ : Addr).add j) = some u := by
  intro j u hj
  rw [Addr.add_mid, Nat.zero_add, cell_of_row _ _ _ _ _ _ (heap_alloc_new w _)]
  simpa using hj
theorem one_cell_drew (w : World) (x : Value) (t : TypeId) : ∀ j u, [x][j]? = some u → (w.alloc (.cells #[x] t)).drew.cell? ((⟨w.heap.size, 0, none⟩ : Addr).add j) = some u := one_cell w x t
theorem sch_next (B : Nat → Int) (k : Nat) (hk : k < 64) : sch B (k + 1) = sch B k ++ [W B k] := by
  have h := sch_last B k
  rw [W_sch B k (k + 1) (by omega) (by omega)] at h
  rw [h]
  rfl
theorem words_next (B : Nat → Int) (k : Nat) (hk : k < 64) : (sch B (k + 1)).map (Value.int .u32) = (sch B k).map (Value.int .u32) ++ [.int .u32 (W B k)] := by
  rw [sch_next B k hk]; simp
theorem words_get (B : Nat → Int) (k i : Nat) (hi : i < k) (hk : k ≤ 64) : ((sch B k).map (Value.int .u32))[i]? = some (.int .u32 (W B i)) := by
  have h := W_sch B i k hi hk
  have hl : i < (sch B k).length := by rw [sch_length]; exact hi
  rw [List.getD_eq_getElem?_getD, List.getElem?_eq_getElem hl] at h
  simp only [List.getElem?_map, List.getElem?_eq_getElem hl, Option.map_some]
  rw [← h]; rfl
theorem W_hi' (B : Nat → Int) (n : Nat) (h : 15 < n) (hn : n < 64) : (near (W B (n - 15)) + far (W B (n - 2)) + W B (n - 16) + W B (n - 7)) % 4294967296 = W B n := by
  rw [W_hi B n (by omega) hn]; unfold nextW
  generalize near (W B (n - 15)) = a
  generalize far (W B (n - 2)) = b
  generalize W B (n - 16) = c
  generalize W B (n - 7) = d
  rw [show c + a + d + b = a + b + c + d from by omega]
theorem W_hi_wrap (B : Nat → Int) (n : Nat) (h : 15 < n) (hn : n < 64) :
    IntKind.u32.wrap (IntKind.u32.wrap (IntKind.u32.wrap (near (W B (n - 15)) + far (W B (n - 2))) + W B (n - 16)) + W B (n - 7)) = W B n := by
  rw [← W_hi' B n h hn]
  generalize near (W B (n - 15)) = a
  generalize far (W B (n - 2)) = b
  generalize W B (n - 16) = c
  generalize W B (n - 7) = d
  simp only [IntKind.wrap_u32']
  omega
theorem rightZ (x n : Int) (hx : 0 ≤ x) (hx2 : x < 4294967296) (hn : 1 ≤ n) (hn2 : n ≤ 31) (w : World) : Calls Tryd.prog 39 #[.int .u32 x, .int .i64 n] w fun e w' => e = .returned (.int .u32 (rl x (32 - n.toNat))) ∧ w = w' := by
  obtain ⟨m, rfl⟩ := Int.eq_ofNat_of_zero_le (show 0 ≤ n by omega)
  exact right_any x m hx hx2 (by omega) (by omega) w
end Go.Proofs.YtcdfflieooopjaaDoor.Sha
