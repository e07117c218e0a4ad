/-
  What TenantKnown needs.
-/
import Derived.Test.YtjhnijcefpnldaaTenantAwake
import Derived.Test.YtjhnijcefpnldaaTenantRow
import Derived.BigQuiet
import Derived.Deep.MidRow
namespace Go.Proofs.Ytjhnijcefpnldaa.TenantL
open Go.RowKit Base _root_.Go.Proofs.Ytjhnijcefpnldaa.Tenant

/-- what may not be -/
def badT : Nat → Tn
  | 0 => ⟨-1, [107], 3, 64, 5, 2, 4, 3, 9⟩
  | 1 => ⟨65536, [107], 3, 64, 5, 2, 4, 3, 9⟩
  | 2 => ⟨1, [], 3, 64, 5, 2, 4, 3, 9⟩
  | 3 => ⟨1, List.replicate 65 0, 3, 64, 5, 2, 4, 3, 9⟩
  | 4 => ⟨1, [107], 4, 64, 5, 2, 4, 3, 9⟩
  | 5 => ⟨1, [107], -1, 64, 5, 2, 4, 3, 9⟩
  | 6 => ⟨1, [107], 3, -1, 5, 2, 4, 3, 9⟩
  | 7 => ⟨1, [107], 3, 65537, 5, 2, 4, 3, 9⟩
  | 8 => ⟨1, [107], 3, 64, -1, 2, 4, 3, 9⟩
  | 9 => ⟨1, [107], 3, 64, 1048577, 2, 4, 3, 9⟩
  | 10 => ⟨1, [107], 3, 64, 5, 0, 4, 3, 9⟩
  | 11 => ⟨1, [107], 3, 64, 5, 1048577, 4, 3, 9⟩
  | 12 => ⟨1, [107], 3, 64, 5, 2, 0, 3, 9⟩
  | 13 => ⟨1, [107], 3, 64, 5, 2, 17, 3, 9⟩
  | 14 => ⟨1, [107], 3, 64, 5, 2, 4, 0, 9⟩
  | 15 => ⟨1, [107], 3, 64, 5, 2, 4, 17, 9⟩
  | 16 => ⟨1, [107], 3, 64, 5, 2, 4, 3, 0⟩
  | 17 => ⟨1, [107], 3, 64, 5, 2, 4, 3, 65⟩
  | _ => zero
theorem bad_no : ∀ i, i < 18 → good (badT i) = false := by decide
theorem all_one {t : Tn} (h : good t = false) (pool : Int) : allErr [t] pool = 1 := all_no (fun hf => by
  have := hf.2.2.1.1 0 Nat.zero_lt_one
  change good t = true at this
  rw [h] at this
  cases this)
def many (n : Nat) : List Tn := (List.range n).map fun i : Nat => someT (i : Int)
theorem many_len (n : Nat) : (many n).length = n := by simp [many]
theorem many_get (n i : Nat) (h : i < n) : (many n).getD i zero = someT (i : Int) := by simp [many, h]
theorem many_succ (n : Nat) : many (n + 1) = many n ++ [someT (n : Int)] := by simp [many, List.range_succ]
theorem many_take (n k : Nat) (h : k ≤ n) : (many n).take k = many k := by
  unfold many
  rw [← List.map_take, List.take_range, Nat.min_eq_left h]
theorem many_sum (n : Nat) : ∀ k, k ≤ n → sumB (many n) k = 64 * (k : Int)
  | 0, _ => rfl
  | k + 1, h => by
    show sumB (many n) k + ((many n).getD k zero).bu = _
    rw [many_sum n k (by omega), many_get n k (by omega)]
    show 64 * (k : Int) + 64 = _
    omega
theorem many_each (n : Nat) (h : n ≤ 65536) : Each (many n) (many n).length := by
  rw [many_len]
  refine ⟨fun j hj => ?_, fun j hj k hk => ?_⟩
  · rw [many_get n j hj]
    exact some_good _ (by omega)
  · rw [many_get n j hj, many_get n k (by omega)]
    show (k : Int) ≠ (j : Int)
    omega
theorem many_fits : allErr (many 64) 4096 = 0 := all_yes ⟨by rw [many_len]; decide, by decide, many_each 64 (by decide), by rw [many_len, many_sum 64 64 (Nat.le_refl _)]; decide⟩
theorem many_not : allErr (many 64) 4095 = 1 := all_no (fun h => by
  have := h.2.2.2
  rw [many_len, many_sum 64 64 (Nat.le_refl _)] at this
  exact absurd this (by decide))
theorem many_65 : allErr (many 65) 65536 = 1 := all_no (fun h => by have := h.1; rw [many_len] at this; omega)
theorem one_no (L : List Tn) (pool : Int) (h : pool < 0 ∨ 65536 < pool) : allErr L pool = 1 := all_no (fun hf => by have := hf.2.1; omega)
theorem none_no (pool : Int) : allErr [] pool = 1 := all_no (fun hf => by have := hf.1.1; exact absurd this (by decide))
theorem many_found {k : Nat} {ok : Bool} (h : FoundBy (many 65) 7 k ok) : k = 7 ∧ ok = true := by
  cases ok with
  | true =>
    obtain ⟨q1, q2, _⟩ := h.1 rfl
    rw [many_len] at q1
    rw [many_get 65 k q1] at q2
    have q2' : (k : Int) = 7 := q2
    exact ⟨by omega, rfl⟩
  | false =>
    have := h.2 rfl 7 (by rw [many_len]; decide)
    rw [many_get 65 7 (by decide)] at this
    exact absurd rfl this
theorem many_lost {k : Nat} {ok : Bool} (h : FoundBy (many 65) 99 k ok) : ok = false := by
  cases ok with
  | true =>
    obtain ⟨q1, q2, _⟩ := h.1 rfl
    rw [many_len] at q1
    rw [many_get 65 k q1] at q2
    have q2' : (k : Int) = 99 := q2
    omega
  | false => rfl
theorem info65 : (Try.prog.info? 5).map (fun i => (i.zero, i.size, i.bytes)) = some (some (.int .u8 0), 1, 1) := by kernel_rfl
theorem z9 : (Try.prog.info? 26).map (fun i => (i.zero, i.size, i.bytes)) = some (some (.agg #[.int .i64 0, .slice none 0 0, .int .i64 0, .int .i64 0, .int .i64 0, .int .i64 0, .int .i64 0, .int .i64 0, .int .i64 0]), 9, 88) := by kernel_rfl
theorem some_any' (id : Int) (w : World) :
    Calls Try.prog 8 #[.int .i64 id] w fun e w' => ∃ g R, e = .returned (.agg R) ∧ R = t9 (.slice (some ⟨g, 0, none⟩) 1 1) (someT id) ∧ BytesIs w' (.slice (some ⟨g, 0, none⟩) 1 1) [107] ∧ w.heap.size ≤ g ∧ Fr0 w w' :=
  (some_any id w).mono (fun e w' ⟨g, h1, h2, h3, h4⟩ => ⟨g, _, h1, rfl, h2, h3, h4⟩)
def zeros : List At := List.replicate 18 (.slice none 0 0, zero)
theorem zeros_len : zeros.length = 18 := rfl
theorem zeros_get (i : Nat) (h : i < zeros.length) : zeros[i] = (.slice none 0 0, zero) := List.getElem_replicate _
theorem made18 : madeCells (Value.agg #[.int .i64 0, .slice none 0 0, .int .i64 0, .int .i64 0, .int .i64 0, .int .i64 0, .int .i64 0, .int .i64 0, .int .i64 0]).cells 162 = (tcells zeros).toArray := by kernel_rfl
theorem make18 (w : World) : (Instr.makeSlice 23 (.int .i64 18) (.int .i64 18)).run Try.prog w = .ok (.slice (some ⟨w.heap.size, 0, none⟩) 18 18) (w.alloc (.cells (tcells zeros).toArray 26)) := by
  obtain ⟨i, hi, hz0, hz1, hz2⟩ := info_parts z9
  have := run_make (P := Try.prog) (w := w) 23 26 i _ Try.underlying23 hi hz0 .i64 .i64 18 18 (by decide) (by decide) (by rw [hz2]; decide) (by decide)
  rw [this, hz1, ← made18]
  rfl
theorem bad_new (w : World) : Bad 26 w (w.alloc (.cells (tcells zeros).toArray 26)) w.heap.size 18 (fun _ => (.slice none 0 0, zero)) := by
  refine ⟨rowIs_new w _ _ _ _ (by rw [List.size_toArray, tcells_length, zeros_len]) (fun i hi => ?_), fun i _ => ⟨BytesIs.nil _, rfl, fun a n c h => by cases h⟩, Nat.le_refl _, (Fr.refl _ _).alloc _⟩
  have := tcells_get zeros (i / 9) (by rw [zeros_len]; omega) (i % 9) (Nat.mod_lt _ (by decide))
  rw [show i / 9 * 9 + i % 9 = i by omega] at this
  rw [List.getElem?_toArray, this, zeros_get]
theorem _root_.Go.Proofs.Ytjhnijcefpnldaa.Tenant.Bad.ext {T : TypeId} {w0 w : World} {g N : Nat} {F G : Nat → At} (h : Bad T w0 w g N F) (e : ∀ i, i < N → F i = G i) : Bad T w0 w g N G :=
  ⟨h.row.congr (fun i hi => by rw [e (i / 9) (by omega)]), fun i hi => by rw [← e i hi]; exact h.keys i hi, h.base, h.fr⟩
def FB (kv : Nat → Value) (n : Nat) : Nat → At := fun i => (kv i, if i < n then badT i else someT 1)
theorem FB_same (kv : Nat → Value) (n i : Nat) (h : n ≤ i) : FB kv n i = (kv i, someT 1) := by unfold FB; rw [if_neg (by omega)]
/-- one that may not be more -/
theorem _root_.Go.Proofs.Ytjhnijcefpnldaa.Tenant.Bad.next {T : TypeId} {w0 w : World} {g : Nat} {kv : Nat → Value} {n : Nat} (h : Bad T w0 w g 18 (FB kv n)) (hn : n < 18) (k : Nat) (hk : k < 9) (v : Value) (hc : ∀ sv j, j < 9 → c9 sv (badT n) j = if j = k then v else c9 sv (someT 1) j) (hkey : (badT n).key = [107]) (o : Nat) (ho : o = n * 9 + k) : Bad T w0 (w.setCell ⟨g, o, none⟩ v) g 18 (FB kv (n + 1)) := by
  have hh := h.keys n hn
  rw [FB_same kv n n (Nat.le_refl _)] at hh
  refine Bad.ext (h.field n k hk v (kv n, badT n) (fun j hj => by rw [FB_same kv n n (Nat.le_refl _)]; exact hc (kv n) j hj) (fun _ => ⟨by show BytesIs w (kv n) (badT n).key; rw [hkey]; exact hh.1, hh.2⟩) o ho) (fun i hi => ?_)
  by_cases h1 : i = n
  · subst h1
    rw [upd_same]; unfold FB; rw [if_pos (by omega)]
  · rw [upd_other _ _ h1]; unfold FB
    by_cases h2 : i < n
    · rw [if_pos h2, if_pos (by omega)]
    · rw [if_neg h2, if_neg (by omega)]
/-- .. by its key -/
theorem _root_.Go.Proofs.Ytjhnijcefpnldaa.Tenant.Bad.nextK {T : TypeId} {w0 w : World} {g : Nat} {kv : Nat → Value} {n : Nat} (h : Bad T w0 w g 18 (FB kv n)) (hn : n < 18) (v : Value) (hc : ∀ sv j, j < 9 → c9 v (badT n) j = if j = 1 then v else c9 sv (someT 1) j) (hkey : BytesIs w v (badT n).key ∧ v.oneCell' = true ∧ ∀ a m c, v = .slice (some a) m c → a.block ≠ g) (o : Nat) (ho : o = n * 9 + 1) : Bad T w0 (w.setCell ⟨g, o, none⟩ v) g 18 (FB (fun i => if i = n then v else kv i) (n + 1)) := by
  refine Bad.ext (h.field n 1 (by decide) v (v, badT n) (fun j hj => by rw [FB_same kv n n (Nat.le_refl _)]; exact hc (kv n) j hj) (fun _ => hkey) o ho) (fun i hi => ?_)
  by_cases h1 : i = n
  · subst h1
    rw [upd_same]
    show (v, badT i) = ((if i = i then v else kv i), if i < i + 1 then badT i else someT 1)
    rw [if_pos rfl, if_pos (by omega)]
  · rw [upd_other _ _ h1]
    show (kv i, if i < n then badT i else someT 1) = ((if i = n then v else kv i), if i < n + 1 then badT i else someT 1)
    rw [if_neg h1]
    by_cases h2 : i < n
    · rw [if_pos h2, if_pos (by omega)]
    · rw [if_neg h2, if_neg (by omega)]
theorem _root_.Go.Proofs.Ytjhnijcefpnldaa.Tenant.Bad.all {T : TypeId} {w0 w : World} {g : Nat} {kv : Nat → Value} (h : Bad T w0 w g 18 (FB kv 18)) : Tens w (.slice (some ⟨g, 0, none⟩) 18 18) ((List.range 18).map badT) := by
  have := h.tens
  rw [show (List.range 18).map (fun i => (FB kv 18 i).2) = (List.range 18).map badT from rfl] at this
  exact this
theorem infoFI : (Try.prog.info? 3).map (·.size) = some 1 := by kernel_rfl
theorem infoFK : (Try.prog.info? 24).map (·.size) = some 1 := by kernel_rfl
theorem hc0 : ∀ sv j, j < 9 → c9 sv (badT 0) j = if j = 0 then .int .i64 (-1) else c9 sv (someT 1) j := fun sv j hj => by
  match j, hj with
  | 0, _ => rfl
  | 1, _ => rfl
  | 2, _ => rfl
  | 3, _ => rfl
  | 4, _ => rfl
  | 5, _ => rfl
  | 6, _ => rfl
  | 7, _ => rfl
  | 8, _ => rfl
theorem hc1 : ∀ sv j, j < 9 → c9 sv (badT 1) j = if j = 0 then .int .i64 (65536) else c9 sv (someT 1) j := fun sv j hj => by
  match j, hj with
  | 0, _ => rfl
  | 1, _ => rfl
  | 2, _ => rfl
  | 3, _ => rfl
  | 4, _ => rfl
  | 5, _ => rfl
  | 6, _ => rfl
  | 7, _ => rfl
  | 8, _ => rfl
theorem hc2 (v : Value) : ∀ sv j, j < 9 → c9 v (badT 2) j = if j = 1 then v else c9 sv (someT 1) j := fun sv j hj => by
  match j, hj with
  | 0, _ => rfl
  | 1, _ => rfl
  | 2, _ => rfl
  | 3, _ => rfl
  | 4, _ => rfl
  | 5, _ => rfl
  | 6, _ => rfl
  | 7, _ => rfl
  | 8, _ => rfl
theorem hc3 (v : Value) : ∀ sv j, j < 9 → c9 v (badT 3) j = if j = 1 then v else c9 sv (someT 1) j := fun sv j hj => by
  match j, hj with
  | 0, _ => rfl
  | 1, _ => rfl
  | 2, _ => rfl
  | 3, _ => rfl
  | 4, _ => rfl
  | 5, _ => rfl
  | 6, _ => rfl
  | 7, _ => rfl
  | 8, _ => rfl
theorem hc4 : ∀ sv j, j < 9 → c9 sv (badT 4) j = if j = 2 then .int .i64 (4) else c9 sv (someT 1) j := fun sv j hj => by
  match j, hj with
  | 0, _ => rfl
  | 1, _ => rfl
  | 2, _ => rfl
  | 3, _ => rfl
  | 4, _ => rfl
  | 5, _ => rfl
  | 6, _ => rfl
  | 7, _ => rfl
  | 8, _ => rfl
theorem hc5 : ∀ sv j, j < 9 → c9 sv (badT 5) j = if j = 2 then .int .i64 (-1) else c9 sv (someT 1) j := fun sv j hj => by
  match j, hj with
  | 0, _ => rfl
  | 1, _ => rfl
  | 2, _ => rfl
  | 3, _ => rfl
  | 4, _ => rfl
  | 5, _ => rfl
  | 6, _ => rfl
  | 7, _ => rfl
  | 8, _ => rfl
theorem hc6 : ∀ sv j, j < 9 → c9 sv (badT 6) j = if j = 3 then .int .i64 (-1) else c9 sv (someT 1) j := fun sv j hj => by
  match j, hj with
  | 0, _ => rfl
  | 1, _ => rfl
  | 2, _ => rfl
  | 3, _ => rfl
  | 4, _ => rfl
  | 5, _ => rfl
  | 6, _ => rfl
  | 7, _ => rfl
  | 8, _ => rfl
theorem hc7 : ∀ sv j, j < 9 → c9 sv (badT 7) j = if j = 3 then .int .i64 (65537) else c9 sv (someT 1) j := fun sv j hj => by
  match j, hj with
  | 0, _ => rfl
  | 1, _ => rfl
  | 2, _ => rfl
  | 3, _ => rfl
  | 4, _ => rfl
  | 5, _ => rfl
  | 6, _ => rfl
  | 7, _ => rfl
  | 8, _ => rfl
theorem hc8 : ∀ sv j, j < 9 → c9 sv (badT 8) j = if j = 4 then .int .i64 (-1) else c9 sv (someT 1) j := fun sv j hj => by
  match j, hj with
  | 0, _ => rfl
  | 1, _ => rfl
  | 2, _ => rfl
  | 3, _ => rfl
  | 4, _ => rfl
  | 5, _ => rfl
  | 6, _ => rfl
  | 7, _ => rfl
  | 8, _ => rfl
theorem hc9 : ∀ sv j, j < 9 → c9 sv (badT 9) j = if j = 4 then .int .i64 (1048577) else c9 sv (someT 1) j := fun sv j hj => by
  match j, hj with
  | 0, _ => rfl
  | 1, _ => rfl
  | 2, _ => rfl
  | 3, _ => rfl
  | 4, _ => rfl
  | 5, _ => rfl
  | 6, _ => rfl
  | 7, _ => rfl
  | 8, _ => rfl
theorem hc10 : ∀ sv j, j < 9 → c9 sv (badT 10) j = if j = 5 then .int .i64 (0) else c9 sv (someT 1) j := fun sv j hj => by
  match j, hj with
  | 0, _ => rfl
  | 1, _ => rfl
  | 2, _ => rfl
  | 3, _ => rfl
  | 4, _ => rfl
  | 5, _ => rfl
  | 6, _ => rfl
  | 7, _ => rfl
  | 8, _ => rfl
theorem hc11 : ∀ sv j, j < 9 → c9 sv (badT 11) j = if j = 5 then .int .i64 (1048577) else c9 sv (someT 1) j := fun sv j hj => by
  match j, hj with
  | 0, _ => rfl
  | 1, _ => rfl
  | 2, _ => rfl
  | 3, _ => rfl
  | 4, _ => rfl
  | 5, _ => rfl
  | 6, _ => rfl
  | 7, _ => rfl
  | 8, _ => rfl
theorem hc12 : ∀ sv j, j < 9 → c9 sv (badT 12) j = if j = 6 then .int .i64 (0) else c9 sv (someT 1) j := fun sv j hj => by
  match j, hj with
  | 0, _ => rfl
  | 1, _ => rfl
  | 2, _ => rfl
  | 3, _ => rfl
  | 4, _ => rfl
  | 5, _ => rfl
  | 6, _ => rfl
  | 7, _ => rfl
  | 8, _ => rfl
theorem hc13 : ∀ sv j, j < 9 → c9 sv (badT 13) j = if j = 6 then .int .i64 (17) else c9 sv (someT 1) j := fun sv j hj => by
  match j, hj with
  | 0, _ => rfl
  | 1, _ => rfl
  | 2, _ => rfl
  | 3, _ => rfl
  | 4, _ => rfl
  | 5, _ => rfl
  | 6, _ => rfl
  | 7, _ => rfl
  | 8, _ => rfl
theorem hc14 : ∀ sv j, j < 9 → c9 sv (badT 14) j = if j = 7 then .int .i64 (0) else c9 sv (someT 1) j := fun sv j hj => by
  match j, hj with
  | 0, _ => rfl
  | 1, _ => rfl
  | 2, _ => rfl
  | 3, _ => rfl
  | 4, _ => rfl
  | 5, _ => rfl
  | 6, _ => rfl
  | 7, _ => rfl
  | 8, _ => rfl
theorem hc15 : ∀ sv j, j < 9 → c9 sv (badT 15) j = if j = 7 then .int .i64 (17) else c9 sv (someT 1) j := fun sv j hj => by
  match j, hj with
  | 0, _ => rfl
  | 1, _ => rfl
  | 2, _ => rfl
  | 3, _ => rfl
  | 4, _ => rfl
  | 5, _ => rfl
  | 6, _ => rfl
  | 7, _ => rfl
  | 8, _ => rfl
theorem hc16 : ∀ sv j, j < 9 → c9 sv (badT 16) j = if j = 8 then .int .i64 (0) else c9 sv (someT 1) j := fun sv j hj => by
  match j, hj with
  | 0, _ => rfl
  | 1, _ => rfl
  | 2, _ => rfl
  | 3, _ => rfl
  | 4, _ => rfl
  | 5, _ => rfl
  | 6, _ => rfl
  | 7, _ => rfl
  | 8, _ => rfl
theorem hc17 : ∀ sv j, j < 9 → c9 sv (badT 17) j = if j = 8 then .int .i64 (65) else c9 sv (someT 1) j := fun sv j hj => by
  match j, hj with
  | 0, _ => rfl
  | 1, _ => rfl
  | 2, _ => rfl
  | 3, _ => rfl
  | 4, _ => rfl
  | 5, _ => rfl
  | 6, _ => rfl
  | 7, _ => rfl
  | 8, _ => rfl
theorem make65 (w : World) : (Instr.makeSlice 24 (.int .i64 65) (.int .i64 65)).run Try.prog w = .ok (.slice (some ⟨w.heap.size, 0, none⟩) 65 65) (w.alloc (.cells (Array.replicate 65 (.int .u8 0)) 5)) := by
  obtain ⟨i, hi, hz0, hz1, hz2⟩ := info_parts info65
  have := run_make (P := Try.prog) (w := w) 24 5 i _ Try.underlying24 hi hz0 .i64 .i64 65 65 (by decide) (by decide) (by rw [hz2]; decide) (by decide)
  rw [this, hz1]
  congr 2
  congr 1
  apply Array.ext
  · simp [madeCells, Value.cells]
  · intro j h1 h2
    simp [madeCells, Value.cells, Nat.mod_one]
theorem bytes65 (w : World) : BytesIs (w.alloc (.cells (Array.replicate 65 (.int .u8 0)) 5)) (.slice (some ⟨w.heap.size, 0, none⟩) 65 65) (List.replicate 65 0) :=
  BytesIs.new w _ _ _ 65 (by simp) 65 (Nat.le_refl _) (fun j hj => by
    rw [List.length_replicate] at hj
    rw [List.getD_eq_getElem?_getD, List.getElem?_replicate, if_pos hj, Array.getElem?_replicate, if_pos hj]
    rfl) _ rfl
theorem owns_empty9 (w : World) (base : Nat) (hb : base ≤ w.heap.size) : (w.alloc (.cells #[] 26)).ownsRow base 26 9 (.slice (some ⟨w.heap.size, 0, none⟩) 0 0) 0 (tcells []) :=
  ⟨rfl, .inr ⟨w.heap.size, 0, #[], rfl, hb, heap_alloc_new w _, Nat.le_refl _, by decide, rfl, rfl⟩⟩
theorem tens_nil (w : World) : Tens w (.slice none 0 0) [] := ⟨[], rfl, fun p hp => by simp at hp, ValsIs.nil w⟩
theorem tens_one {w : World} {a : Option Addr} {n cap : Nat} {L : List Tn} (h : Tens w (.slice a n cap) L) (i : Nat) (hi : i < L.length) (x y : Int) (hx : x = (i : Int)) (hy : y = (i : Int) + 1) :
    ∃ A, (∀ wx : World, (Instr.sliceAt 23 (.slice a n cap) (some (.int .i64 x)) (some (.int .i64 y)) none).run Try.prog wx = .ok (.slice A 1 (cap - i)) wx) ∧ Tens w (.slice A 1 (cap - i)) [L.getD i zero] := by
  obtain ⟨A, h1, h2⟩ := tens_cut (P := Try.prog) 23 26 Try.underlying23 infoP h i (i + 1) (by omega) (by omega) x y hx (by rw [hy]; omega)
  have e1 : i + 1 - i = 1 := by omega
  rw [e1] at h1 h2
  have e2 : (L.drop i).take 1 = [L.getD i zero] := by
    rw [List.take_one, List.head?_drop, List.getD_eq_getElem?_getD, List.getElem?_eq_getElem hi]
    rfl
  rw [e2] at h2
  exact ⟨A, h1, h2⟩
def bads : List Tn := (List.range 18).map badT
theorem bads_len : bads.length = 18 := rfl
theorem bads_no (i : Nat) (h : i < 18) : good (bads.getD i zero) = false := by
  have : bads.getD i zero = badT i := by simp [bads, h]
  rw [this]
  exact bad_no i h
theorem bads_key (i : Nat) (h : i < 18) : (bads.getD i zero).key.length ≤ 65 := by
  have : bads.getD i zero = badT i := by simp [bads, h]
  rw [this]
  exact (by decide : ∀ i, i < 18 → (badT i).key.length ≤ 65) i h
theorem many_key (n i : Nat) (h : i < (many n).length) : ((many n).getD i zero).key.length ≤ 9223372036854775807 := by
  rw [many_len] at h
  rw [many_get n i h]
  exact (by decide : (1 : Nat) ≤ 9223372036854775807)
theorem many_bu : (many 3).map (·.bu) = [64, 64, 64] := rfl
end Go.Proofs.Ytjhnijcefpnldaa.TenantL
