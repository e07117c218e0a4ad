/-
  The reference's small functions: right, round, num, U.
  The reference's U: a number behind bytes, the highest first.
  The reference's words: four bytes as one, and what the rounds reckon.
-/
import Derived.Test.YteafnknghnhlgaaDoorShaOf
import Derived.Test.YteafnknghnhlgaaDoorAppend
import Derived.Test.YteafnknghnhlgaaDoorHeld
import Derived.Deep.AppendLies
namespace Go.Proofs.YteafnknghnhlgaaDoor.Sha
open Go.RowKit Base

theorem bits_or_comm (a b : Int) : bits .or .u32 a b = bits .or .u32 b a := by
  unfold bits
  simp only [BitVec.or_comm]
set_option maxHeartbeats 400000 in
theorem right_any (x : Int) (n : Nat) (hx : 0 ≤ x) (hx2 : x < 4294967296) (hn : 1 ≤ n) (hn2 : n ≤ 31) (w : World) :
    Calls Tryd.prog 37 #[.int .u32 x, .int .i64 (n : Int)] w fun e w' => e = .returned (.int .u32 (rl x (32 - n))) ∧ w = w' := by
  go_enter Tryd.func37, Tryd.ntmps37
  go_wp2
  go_ret
  refine ⟨?_, rfl⟩
  unfold rl
  rw [bits_or_comm, show 32 - (32 - n) = n from by omega]
  rfl

theorem zero58i : (Tryd.prog.info? 73).map (fun i => (i.zero, i.size)) = some (some (.agg (Array.replicate 64 (.int .u32 0))), 64) := by kernel_rfl
theorem zero58 : ∀ w : World, (zeroValue 73).run Tryd.prog w = .ok (.agg (Array.replicate 64 (.int .u32 0))) w := (zero_of_info (P := Tryd.prog) zero58i).1
theorem infoU8 : (Tryd.prog.info? 5).map (fun i => (i.zero, i.size, i.bytes)) = some (some (.int .u8 0), 1, 1) := by kernel_rfl
def kArr : Array Value := (kl.map (Value.int .u32)).toArray
theorem kArr_size : kArr.size = 64 := by decide +kernel
theorem kArr_info : (Tryd.prog.info? 73).map (·.size) = some kArr.size := info58.trans (congrArg some kArr_size.symm)
theorem kArr_one : kArr.all (·.oneCell') = true := all_oneCell_toArray (by intro v hv; simp at hv; obtain ⟨u, _, rfl⟩ := hv; rfl)
theorem kArr_get (i : Nat) (h : i < 64) : kArr[i]? = some (.int .u32 (K i)) := by
  unfold kArr K
  rw [toArray_get]
  have : i < kl.length := by simpa [kl] using h
  simp [this]
set_option maxHeartbeats 1000000 in
set_option maxRecDepth 100000 in
theorem round_any (i : Nat) (hi : i < 64) (w : World) :
    Calls Tryd.prog 38 #[.int .i64 (i : Int)] w fun e w' => e = .returned (.int .u32 (K i)) ∧ Fr0 w w' := by
  have hz := zero58
  generalize hZ : Array.replicate 64 (Value.int .u32 0) = Z at hz
  have HZ := Lib.hid hZ
  clear hZ
  have hz2 : Z.size = kArr.size := by rw [kArr_size, ← HZ.out]; simp
  have hg := kArr_get i hi
  have HZ2 := Lib.hid hz2
  have HG := Lib.hid hg
  clear hz2 hg
  have hc : (w.alloc (.cells kArr 73)).cell? ⟨w.heap.size, i, none⟩ = some (.int .u32 (K i)) := by
    rw [cell_of_row _ _ _ _ _ _ (heap_alloc_new w _)]; exact HG.out
  go_enter Tryd.func38, Tryd.ntmps38
  go_wp2_with (first | (refine wpList_val (o := ⟨some 4, _, _, _, _, _⟩) (.agg kArr) rfl (by kernel_rfl) ?_) | (refine wpList_store_new rfl 73 _ _ rfl w.heap.size rfl kArr rfl rfl 73 _ kArr_info HZ2.out kArr_one ?_))

  go_ret
  exact ⟨rfl, (Fr.refl _ _).alloc _⟩

/-- bytes as a number, the highest first -/
def nv (l : List UInt8) : Nat := l.foldl (fun v b => v * 256 + b.toNat) 0
theorem nv_snoc (l : List UInt8) (b : UInt8) : nv (l ++ [b]) = nv l * 256 + b.toNat := by simp [nv]
theorem nv_lt : ∀ (n : Nat) (l : List UInt8), l.length = n → nv l < 256 ^ n
  | 0, l, h => by obtain rfl := List.eq_nil_of_length_eq_zero h; simp [nv]
  | n + 1, l, h => by
    obtain ⟨m, b, rfl⟩ : ∃ m b, l = m ++ [b] := ⟨l.dropLast, l.getLast (by intro e; simp [e] at h), (List.dropLast_concat_getLast _).symm⟩
    have := nv_lt n m (by simpa using h)
    have hb := b.toNat_lt
    rw [nv_snoc, Nat.pow_succ]
    omega
set_option maxHeartbeats 1000000 in
theorem num_any (v : Value) (l : List UInt8) (hl : l.length ≤ 8) (w : World) (hB : BytesIs w v l) :
    Calls Tryd.prog 36 #[v] w fun e w' => e = .returned (.int .u64 (nv l : Int)) ∧ w = w' := by
  obtain ⟨a, cap, pb, po, rfl, hcap, ha, hc⟩ := hB
  have HA := Lib.hid ha
  have HC := Lib.hid hc
  clear ha hc
  go_enter Tryd.func36, Tryd.ntmps36
  go_wp2_with fail
  go_loop [3, 4] (fun n i => ∃ k : Nat, k ≤ l.length ∧ i = .int .i64 k ∧ n = .int .u64 (nv (l.take k) : Int)) (fun _ i => l.length - (intOf i).toNat)
  case atStart => exact ⟨0, Nat.zero_le _, rfl, rfl⟩
  case round =>
    obtain ⟨k, hk, rfl, rfl⟩ := hrel
    by_cases hlt : k < l.length
    · obtain rfl := HA.out (by omega)
      have hcell := HC.out k hlt
      have hb := (l.getD k 0).toNat_lt
      have hn := nv_lt k (l.take k) (by simp; omega)
      have h7 : nv (l.take k) < 72057594037927936 := Nat.lt_of_lt_of_le hn (Nat.le_trans (Nat.pow_le_pow_right (by omega) (show k ≤ 7 by omega)) (by decide))
      have hs : nv (l.take (k + 1)) = nv (l.take k) * 256 + (l.getD k 0).toNat := by
        rw [List.take_add_one, ← nv_snoc]; simp [hlt]
      have HS := Lib.hid hs
      clear hs hn
      generalize (l.getD k 0).toNat = B at *
      generalize nv (l.take k) = N at *
      go_wp2
      go_round
      case rel => exact ⟨k + 1, by omega, by go_num, by rw [HS.out]; go_num⟩
      case measure => simp only [intOf]; omega
    · have hkl : k = l.length := by omega
      have HKL := Lib.hid hkl
      clear hkl
      go_wp2
      go_ret
      exact ⟨by rw [HKL.out, List.take_length]; rfl, rfl⟩
end Go.Proofs.YteafnknghnhlgaaDoor.Sha
namespace Go.Proofs.YteafnknghnhlgaaDoor.Sha
open Go.RowKit Base

def beb (v n : Nat) : List UInt8 := (List.range n).map fun j => UInt8.ofNat (v / 2 ^ (8 * (n - 1 - j)))
theorem beb_next (v n m : Nat) (h : m + 1 ≤ n) : (beb v n).take (n - (m + 1)) ++ [UInt8.ofNat (v / 2 ^ (8 * m))] = (beb v n).take (n - m) := by
  have e : n - m = (n - (m + 1)) + 1 := by omega
  have : (beb v n)[n - (m + 1)]? = some (UInt8.ofNat (v / 2 ^ (8 * m))) := by
    simp only [beb, List.getElem?_map]
    rw [List.getElem?_range (by omega)]
    simp [show n - 1 - (n - (m + 1)) = m from by omega]
  rw [e, List.take_add_one, this]
  rfl
/-- the call answers bytes that read as l; nothing that was there has turned -/
def RetBytes (w : World) (l : List UInt8) (e : Ending) (w' : World) : Prop := ∃ v, e = .returned v ∧ BytesIs w' v l ∧ Fr0 w w' ∧ ∀ a n c, v = .slice (some a) n c → w.heap.size ≤ a.block

theorem fresh_own {w : World} {base : Nat} {e : TypeId} {size : Nat} {v : Value} {n : Nat} {xs : List Value} (h : w.ownsRow base e size v n xs) : ∀ a m c, v = .slice (some a) m c → base ≤ a.block := by
  intro a m c hv
  have := h.lt a.block (by subst hv; simp [Value.ownBlock])
  exact this.1
set_option maxHeartbeats 1000000 in
theorem u_any (vb : Value) (l : List UInt8) (v n : Nat) (hv : v < 18446744073709551616) (hn : n ≤ 8) (hl : l.length ≤ 1099511627776) (w : World) (hB : BytesIs w vb l) :
    Calls Tryd.prog 22 #[vb, .int .u64 (v : Int), .int .i64 (n : Int)] w (RetBytes w (l ++ beb v n)) := by
  obtain ⟨sa, sn, sc, hsv⟩ := hB.slice
  subst hsv
  have HB := Lib.hid hB
  clear hB
  have HOWN0 := Lib.hid (owns_empty w w.heap.size 5 (Nat.le_refl _) w.heap.size rfl)
  go_enter Tryd.func22, Tryd.ntmps22
  go_wp2_with (at_builtin; refine wpList_append_bytes rfl _ _ 23 rfl w.heap.size 5 Tryd.underlying23 infoU8 _ _ 0 [] l rfl rfl HOWN0.out (HB.out.fr0 ((Fr.refl _ _).alloc _)) (by omega) (by simp) ?_)
  intro v1 w1 hown1 hgr1
  have HOWN1 : Hid (w1.ownsRow w.heap.size 5 1 v1 l.length (bvals l)) := Lib.hid (by simpa using hown1)
  have HF1 : Hid (Fr0 w w1) := Lib.hid (Fr.grown (Fr.alloc (Fr.refl _ _) _) hgr1 (fun q hq e => by have := HOWN0.out.lt q e; omega))
  clear hown1 hgr1 HOWN0
  go_wp2_with fail
  go_loopw [0, 7] (fun s i wr => ∃ (x : Int) (r : Nat), r ≤ n ∧ i = .int .i64 x ∧ x + 1 = r ∧ wr.ownsRow w.heap.size 5 1 s (l.length + (n - r)) (bvals (l ++ (beb v n).take (n - r))) ∧ Fr0 w wr) (fun _ i _ => (intOf i + 1).toNat)
  case atStart => exact ⟨_, n, Nat.le_refl _, rfl, by omega, by simpa using HOWN1.out, HF1.out⟩
  case round =>
    clear HOWN1 HF1
    obtain ⟨x, r, hr, rfl, hx, hown, hF⟩ := hrel
    have HOWN := Lib.hid hown
    have HF := Lib.hid hF
    clear hown hF
    by_cases h0 : 0 ≤ x
    · obtain ⟨m, rfl⟩ := Int.eq_ofNat_of_zero_le h0
      have hrm : m + 1 = r := by omega
      clear hx
      have hsz := HF.out.size
      have hone := BytesIs.one wr (UInt8.ofNat (v / 2 ^ (8 * m))) (.int .u8 ((v : Int) / 2 ^ (8 * m) % 256)) (by congr 1) 5 wr.heap.size rfl
      have HONE := Lib.hid hone
      have HRM := Lib.hid hrm
      have hmr : m + 1 ≤ n := by omega
      clear hone hrm hr
      have hOWN : wr.ownsRow w.heap.size 5 1 u0 (l.length + (n - (m + 1))) (bvals (l ++ (beb v n).take (n - (m + 1)))) := by rw [HRM.out]; exact HOWN.out
      have HOWN' := Lib.hid hOWN
      clear hOWN
      go_wp2_with (at_builtin; refine wpList_append_bytes rfl _ _ 23 rfl w.heap.size 5 Tryd.underlying23 infoU8 _ _ (l.length + (n - (m + 1))) _ [UInt8.ofNat (v / 2 ^ (8 * m))] rfl rfl (HOWN'.out.alloc _) HONE.out (by simp; omega) (by simp; omega) ?_)
      intro v2 w2 hown2 hgr2
      have HOWN2 : Hid (w2.ownsRow w.heap.size 5 1 v2 (l.length + (n - m)) (bvals (l ++ (beb v n).take (n - m)))) := Lib.hid (by
        have e : l ++ (List.take (n - (m + 1)) (beb v n) ++ [UInt8.ofNat (v / 2 ^ (8 * m))]) = l ++ (beb v n).take (n - m) := by rw [beb_next v n m hmr]
        rw [← e, show l.length + (n - m) = l.length + (n - (m + 1)) + 1 from by omega]
        exact hown2)
      have HF2 : Hid (Fr0 w w2) := Lib.hid (Fr.grown (Fr.alloc HF.out _) hgr2 (fun q hq e => by have := HOWN'.out.lt q e; omega))
      clear hown2 hgr2
      go_wp2
      go_roundw
      case rel => exact ⟨_, m, by omega, rfl, by omega, HOWN2.out, HF2.out⟩
      case measure => simp only [intOf]; omega
    · have hr0 : r = 0 := by omega
      have hown := HOWN.out
      rw [hr0, Nat.sub_zero, show (beb v n).take n = beb v n from by rw [List.take_of_length_le (by simp [beb])]] at hown
      have hBs := BytesIs.own (by rw [show l.length + n = (l ++ beb v n).length from by simp [beb]] at hown; exact hown)
      have HBS := Lib.hid hBs
      have HNEW := Lib.hid (fresh_own HOWN.out)
      clear hown hBs hr0 hx
      go_wp2
      go_ret
      exact ⟨_, rfl, HBS.out, HF.out, HNEW.out⟩
end Go.Proofs.YteafnknghnhlgaaDoor.Sha
namespace Go.Proofs.YteafnknghnhlgaaDoor.Sha
open Go.RowKit Base

theorem be_nv (b0 b1 b2 b3 : Nat) (h0 : b0 < 256) (h1 : b1 < 256) (h2 : b2 < 256) (h3 : b3 < 256) : be b0 b1 b2 b3 = (((b0 * 256 + b1) * 256 + b2) * 256 + b3 : Nat) := by
  unfold be
  have e0 : (b0 : Int) * 16777216 = ((b0 * 16777216 : Nat) : Int) := by omega
  have e1 : (b1 : Int) * 65536 = ((b1 * 65536 : Nat) : Int) := by omega
  have e2 : (b2 : Int) * 256 = ((b2 * 256 : Nat) : Int) := by omega
  rw [e0, e1, e2, u32_or_nat _ _ (by omega) (by omega), nat_join 24 (b0 * 16777216) (b1 * 65536) (by omega) (by omega),
    u32_or_nat _ _ (by omega) (by omega), nat_join 16 (b0 * 16777216 + b1 * 65536) (b2 * 256) (by omega) (by omega),
    u32_or_nat _ _ (by omega) (by omega), nat_join 8 (b0 * 16777216 + b1 * 65536 + b2 * 256) b3 (by omega) (by omega)]
  omega
theorem nv_four (a b c d : UInt8) : nv [a, b, c, d] = ((a.toNat * 256 + b.toNat) * 256 + c.toNat) * 256 + d.toNat := by simp [nv]
theorem four (l : List UInt8) (k : Nat) (h : k + 4 ≤ l.length) : (l.drop k).take 4 = [l.getD k 0, l.getD (k + 1) 0, l.getD (k + 2) 0, l.getD (k + 3) 0] := by
  apply List.ext_getElem?
  intro i
  by_cases hi : i < 4
  · rw [List.getElem?_take_of_lt hi, List.getElem?_drop]
    match i, hi with
    | 0, _ | 1, _ | 2, _ | 3, _ =>
      simp only [List.getElem?_cons_zero, List.getElem?_cons_succ, List.getD_eq_getElem?_getD, Nat.add_zero]
      rw [List.getElem?_eq_getElem (by omega)]
      rfl
  · rw [List.getElem?_eq_none (by simp; omega), List.getElem?_eq_none (by simp; omega)]
theorem word_nv (P : List UInt8) (q k : Nat) (hk : k < 16) (hP : 64 * q + 64 ≤ P.length) : (nv ((P.drop (64 * q + 4 * k)).take 4) : Int) = W (blk P q) k := by
  rw [W_lo _ _ hk, four _ _ (by omega)]
  unfold blk
  rw [be_nv _ _ _ _ (UInt8.toNat_lt _) (UInt8.toNat_lt _) (UInt8.toNat_lt _) (UInt8.toNat_lt _), nv_four]
  rfl
theorem num_word (v : Value) (P : List UInt8) (q k : Nat) (hk : k < 16) (hP : 64 * q + 64 ≤ P.length) (w : World) (hB : BytesIs w v ((P.drop (64 * q + 4 * k)).take 4)) :
    Calls Tryd.prog 36 #[v] w fun e w' => e = .returned (.int .u64 (W (blk P q) k)) ∧ w = w' := by
  rw [← word_nv P q k hk hP]
  exact num_any v _ (by simp; omega) w hB
theorem infoU32 : (Tryd.prog.info? 59).map (fun i => (i.zero, i.size, i.bytes)) = some (some (.int .u32 0), 1, 4) := by kernel_rfl
theorem one_cell (w : World) (x : Value) (t : TypeId) : ∀ j u, [x][j]? = some u → (w.alloc (.cells #[x] t)).cell? ((⟨w.heap.size, 0, none⟩ : Addr).add j) = some u := by
  intro j u hj
  rw [Addr.add_mid, Nat.zero_add, cell_of_row _ _ _ _ _ _ (heap_alloc_new w _)]
  simpa using hj
theorem one_cell_drew (w : World) (x : Value) (t : TypeId) : ∀ j u, [x][j]? = some u → (w.alloc (.cells #[x] t)).drew.cell? ((⟨w.heap.size, 0, none⟩ : Addr).add j) = some u := one_cell w x t
theorem sch_next (B : Nat → Int) (k : Nat) (hk : k < 64) : sch B (k + 1) = sch B k ++ [W B k] := by
  have h := sch_last B k
  rw [W_sch B k (k + 1) (by omega) (by omega)] at h
  rw [h]
  rfl
theorem words_next (B : Nat → Int) (k : Nat) (hk : k < 64) : (sch B (k + 1)).map (Value.int .u32) = (sch B k).map (Value.int .u32) ++ [.int .u32 (W B k)] := by
  rw [sch_next B k hk]; simp
theorem words_get (B : Nat → Int) (k i : Nat) (hi : i < k) (hk : k ≤ 64) : ((sch B k).map (Value.int .u32))[i]? = some (.int .u32 (W B i)) := by
  have h := W_sch B i k hi hk
  have hl : i < (sch B k).length := by rw [sch_length]; exact hi
  rw [List.getD_eq_getElem?_getD, List.getElem?_eq_getElem hl] at h
  simp only [List.getElem?_map, List.getElem?_eq_getElem hl, Option.map_some]
  rw [← h]; rfl
theorem W_hi' (B : Nat → Int) (n : Nat) (h : 15 < n) (hn : n < 64) : (near (W B (n - 15)) + far (W B (n - 2)) + W B (n - 16) + W B (n - 7)) % 4294967296 = W B n := by
  rw [W_hi B n (by omega) hn]; unfold nextW
  generalize near (W B (n - 15)) = a
  generalize far (W B (n - 2)) = b
  generalize W B (n - 16) = c
  generalize W B (n - 7) = d
  rw [show c + a + d + b = a + b + c + d from by omega]
theorem W_hi_wrap (B : Nat → Int) (n : Nat) (h : 15 < n) (hn : n < 64) :
    IntKind.u32.wrap (IntKind.u32.wrap (IntKind.u32.wrap (near (W B (n - 15)) + far (W B (n - 2))) + W B (n - 16)) + W B (n - 7)) = W B n := by
  rw [← W_hi' B n h hn]
  generalize near (W B (n - 15)) = a
  generalize far (W B (n - 2)) = b
  generalize W B (n - 16) = c
  generalize W B (n - 7) = d
  simp only [IntKind.wrap_u32']
  omega
theorem rightZ (x n : Int) (hx : 0 ≤ x) (hx2 : x < 4294967296) (hn : 1 ≤ n) (hn2 : n ≤ 31) (w : World) : Calls Tryd.prog 37 #[.int .u32 x, .int .i64 n] w fun e w' => e = .returned (.int .u32 (rl x (32 - n.toNat))) ∧ w = w' := by
  obtain ⟨m, rfl⟩ := Int.eq_ofNat_of_zero_le (show 0 ≤ n by omega)
  exact right_any x m hx hx2 (by omega) (by omega) w
end Go.Proofs.YteafnknghnhlgaaDoor.Sha
