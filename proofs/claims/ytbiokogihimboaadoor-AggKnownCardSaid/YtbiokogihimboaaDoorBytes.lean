/-
  A slice of bytes that reads as a list; a slice of such slices.
-/
import Derived.Test.YtbiokogihimboaaDoorBase
namespace Go.Proofs.YtbiokogihimboaaDoor.Base
open Go.RowKit

/-- v is a slice of bytes that reads as l -/
def BytesIs (w : World) (v : Value) (l : List UInt8) : Prop :=
  ∃ (a : Option Addr) (cap pb po : Nat), v = .slice a l.length cap ∧ l.length ≤ cap ∧ (0 < l.length → a = some ⟨pb, po, none⟩) ∧ (∀ j, j < l.length → w.cell? ⟨pb, po + j, none⟩ = some (.int .u8 ((l.getD j 0).toNat : Int)))
theorem BytesIs.nil (w : World) : BytesIs w (.slice none 0 0) [] := ⟨none, 0, 0, 0, rfl, Nat.le_refl _, fun h => absurd h (by simp), fun j h => absurd h (by simp)⟩
theorem BytesIs.fr {S : Nat → Prop} {w w' : World} {v : Value} {l : List UInt8} (h : BytesIs w v l) (hf : Fr S w w') (hs : ∀ a n c, v = .slice (some a) n c → ¬ S a.block) : BytesIs w' v l := by
  obtain ⟨a, cap, pb, po, hv, hle, ha, hc⟩ := h
  refine ⟨a, cap, pb, po, hv, hle, ha, fun j hj => ?_⟩
  have h1 := hc j hj
  have h2 := ha (by omega)
  subst h2
  rw [hf.cell (p := ⟨pb, po + j, none⟩) (World.block_lt_of_cell? w _ h1) (by have := hs ⟨pb, po, none⟩ _ _ hv; exact this)]
  exact h1
theorem BytesIs.fr0 {w w' : World} {v : Value} {l : List UInt8} (h : BytesIs w v l) (hf : Fr0 w w') : BytesIs w' v l := h.fr hf (fun _ _ _ _ f => f)
theorem BytesIs.new (w : World) (l : List UInt8) (c : Array Value) (t : TypeId) (n : Nat) (hn : n = l.length) (cap : Nat) (hcap : n ≤ cap) (hc : ∀ j, j < l.length → c[j]? = some (.int .u8 ((l.getD j 0).toNat : Int))) (N : Nat) (hN : N = w.heap.size) :
    BytesIs (w.alloc (.cells c t)) (.slice (some ⟨N, 0, none⟩) n cap) l := by
  subst hn hN
  refine ⟨_, cap, w.heap.size, 0, rfl, hcap, fun _ => rfl, fun j hj => ?_⟩
  rw [cell_of_row _ _ _ _ _ _ (heap_alloc_new w _), Nat.zero_add]
  exact hc j hj
/-- v is a slice of slices of bytes that reads as ps -/
def PartsIs (w : World) (v : Value) (ps : List (List UInt8)) : Prop :=
  ∃ (a : Option Addr) (cap qb qo : Nat), v = .slice a ps.length cap ∧ ps.length ≤ cap ∧ ps.length ≤ 1152921504606846976 ∧ (0 < ps.length → a = some ⟨qb, qo, none⟩) ∧ (∀ i, i < ps.length → ∃ pv, w.cell? ⟨qb, qo + i, none⟩ = some pv ∧ BytesIs w pv (ps.getD i []))
theorem BytesIs.slice {w : World} {v : Value} {l : List UInt8} (h : BytesIs w v l) : ∃ a n c, v = .slice a n c := by
  obtain ⟨a, cap, _, _, hv, _⟩ := h
  exact ⟨a, _, cap, hv⟩
def bvals (x : List UInt8) : List Value := x.map fun u => .int .u8 (u.toNat : Int)
theorem bvals_get (x : List UInt8) (j : Nat) (h : j < x.length) : (bvals x)[j]? = some (.int .u8 ((x.getD j 0).toNat : Int)) := by simp [bvals, h]
theorem bvals_length (x : List UInt8) : (bvals x).length = x.length := by simp [bvals]
theorem bvals_append (x y : List UInt8) : bvals (x ++ y) = bvals x ++ bvals y := by simp [bvals]
theorem bvals_one (x : List UInt8) : ∀ v ∈ bvals x, v.oneCell' = true := by
  intro v hv
  simp [bvals] at hv
  obtain ⟨u, _, rfl⟩ := hv
  rfl
/-- an owned row of bytes reads as its list -/
theorem BytesIs.own {w : World} {base : Nat} {e : TypeId} {v : Value} {n : Nat} {l : List UInt8} (h : w.ownsRow base e 1 v n (bvals l)) : BytesIs w v l := by
  have hl : l.length = n := by have := h.1; rw [bvals_length] at this; omega
  rcases h.2 with ⟨rfl, hn⟩ | ⟨g, cap, cur, rfl, hb, hg, hnc, hcm, hcs, ht⟩
  · obtain rfl : l = [] := List.eq_nil_of_length_eq_zero (by omega)
    exact BytesIs.nil w
  · subst hl
    refine ⟨_, cap, g, 0, rfl, hnc, fun _ => rfl, fun j hj => ?_⟩
    rw [Nat.zero_add, h.cellAt j (by omega)]
    exact bvals_get l j hj
theorem strOfNums_bytes (l : List UInt8) : strOfNums (l.map fun u => (u.toNat : Int)) = ⟨l.toArray⟩ := by
  unfold strOfNums
  have : (l.map fun u => (u.toNat : Int)).map (fun n => UInt8.ofNat n.toNat) = l := by
    rw [List.map_map]
    conv => rhs; rw [← List.map_id l]
    apply List.map_congr_left
    intro u _
    simp
  simp only [this]
/-- string(b) -/
theorem BytesIs.convert {P : Program} {w : World} {v : Value} {l : List UInt8} (h : BytesIs w v l) (src dst e : TypeId) (hs : P.underlying src = some (.slice e)) (he : P.underlying e = some (.int .u8)) (hd : P.underlying dst = some .string) :
    (Go.convert src dst v).run P w = .ok (.string ⟨l.toArray⟩) w := by
  obtain ⟨a, cap, pb, po, rfl, hcap, ha, hc⟩ := h
  rw [← strOfNums_bytes]
  by_cases h0 : 0 < l.length
  · obtain rfl := ha h0
    refine run_convert_bytes_arg w src e hs he pb po l.length cap _ (by simp) (fun i hi => ?_) dst hd
    rw [hc i hi]; simp [hi]
  · obtain rfl : l = [] := List.eq_nil_of_length_eq_zero (by omega)
    cases a with
    | none => exact run_convert_bytes_nil w src e hs he 0 cap dst hd
    | some b =>
      have hl : (loadCells b 0).run P w = .ok (([] : List Int).map (Value.int .u8)).toArray w := run_loadCells_list (P := P) w b [] (fun j v hj => by simp at hj)
      have := run_convert_bytes_string (P := P) w src dst e (some b) 0 cap hs he hd
      simp only [List.length_nil, List.map_nil]
      rw [this, run_bytesToString w b 0 cap [] hl]
      rfl
theorem BytesIs.cut {P : Program} (t e : TypeId) (ht : P.underlying t = some (.slice e)) (hs : (P.info? e).map (·.size) = some 1) {w : World} {a : Option Addr} {n cap : Nat} {l : List UInt8} (h : BytesIs w (.slice a n cap) l) (lo hi : Nat) (h1 : lo ≤ hi) (h2 : hi ≤ l.length) :
    ∃ a' c', BytesIs w (.slice a' (hi - lo) c') ((l.drop lo).take (hi - lo)) ∧ ∀ wx : World, (Instr.sliceAt t (.slice a n cap) (some (.int .i64 (lo : Int))) (some (.int .i64 (hi : Int))) none).run P wx = .ok (.slice a' (hi - lo) c') wx := by
  obtain ⟨i, hi', hz⟩ : ∃ i, P.info? e = some i ∧ i.size = 1 := by
    cases hq : P.info? e with
    | none => simp [hq] at hs
    | some i => exact ⟨i, rfl, by simpa [hq] using hs⟩
  have hE : P.elem t = e := by simp [Program.elem, ht]
  obtain ⟨a0, cap0, pb, po, hv, hle, ha, hc⟩ := h
  simp only [Value.slice.injEq] at hv
  obtain ⟨rfl, rfl, rfl⟩ := hv
  have hl : ((l.drop lo).take (hi - lo)).length = hi - lo := by simp; omega
  refine ⟨if cap = lo then a else a.map (·.add lo), cap - lo, ⟨_, cap - lo, pb, po + lo, by rw [hl], by rw [hl]; omega, fun h0 => ?_, fun j hj => ?_⟩, fun wx => ?_⟩
  · rw [hl] at h0
    rw [if_neg (by omega), ha (by omega)]
    simp [Addr.add_mid]
  · rw [hl] at hj
    rw [Nat.add_assoc, hc (lo + j) (by omega)]
    simp [hj, show lo + j < l.length from by omega]
  · rw [run_sliceAt_slice wx t _ _ _ _ (by rw [hE]; exact ht), run_slice_lh wx t a l.length cap (by rw [hE]; exact ht) .i64 .i64 (lo : Int) (hi : Int) (by omega) (by omega) (by omega), hE]
    simp [sizeOf, typeInfo, hi', hz, sliced, Sem.run_bind]
theorem BytesIs.cutLo {P : Program} (t e : TypeId) (ht : P.underlying t = some (.slice e)) (hs : (P.info? e).map (·.size) = some 1) {w : World} {a : Option Addr} {n cap : Nat} {l : List UInt8} (h : BytesIs w (.slice a n cap) l) (lo : Nat) (h1 : lo ≤ l.length) :
    ∃ a' c', BytesIs w (.slice a' (l.length - lo) c') (l.drop lo) ∧ ∀ wx : World, (Instr.sliceAt t (.slice a n cap) (some (.int .i64 (lo : Int))) none none).run P wx = .ok (.slice a' (l.length - lo) c') wx := by
  obtain ⟨i, hi', hz⟩ : ∃ i, P.info? e = some i ∧ i.size = 1 := by
    cases hq : P.info? e with
    | none => simp [hq] at hs
    | some i => exact ⟨i, rfl, by simpa [hq] using hs⟩
  have hE : P.elem t = e := by simp [Program.elem, ht]
  obtain ⟨a0, cap0, pb, po, hv, hle, ha, hc⟩ := h
  simp only [Value.slice.injEq] at hv
  obtain ⟨rfl, rfl, rfl⟩ := hv
  have hl : (l.drop lo).length = l.length - lo := by simp
  refine ⟨if cap = lo then a else a.map (·.add lo), cap - lo, ⟨_, cap - lo, pb, po + lo, by rw [hl], by rw [hl]; omega, fun h0 => ?_, fun j hj => ?_⟩, fun wx => ?_⟩
  · rw [hl] at h0
    rw [if_neg (by omega), ha (by omega)]
    simp [Addr.add_mid]
  · rw [hl] at hj
    rw [Nat.add_assoc, hc (lo + j) (by omega)]
    simp [show lo + j < l.length from by omega]
  · rw [run_sliceAt_slice wx t _ _ _ _ (by rw [hE]; exact ht), run_slice_l wx t a l.length cap (by rw [hE]; exact ht) .i64 (lo : Int) (by omega) (by omega), hE]
    simp [sizeOf, typeInfo, hi', hz, sliced, Sem.run_bind]
theorem index_str {P : Program} (tS : TypeId) (hu : P.underlying tS = some .string) (t : List UInt8) (i : Nat) (hi : i < t.length) (k : IntKind) (w : World) :
    (Instr.index tS (.string ⟨t.toArray⟩) (.int k (i : Int))).run P w = .ok (.int .u8 ((t.getD i 0).toNat : Int)) w := by
  have hg : (⟨t.toArray⟩ : ByteArray)[((i : Int)).toNat]? = some (t.getD i 0) := by
    have : (⟨t.toArray⟩ : ByteArray)[i]? = t.toArray[i]? := by
      by_cases h : i < t.length
      · rw [getElem?_pos _ _ (by simpa [ByteArray.size] using h), getElem?_pos _ _ (by simpa using h)]; rfl
      · exact absurd hi h
    rw [Int.toNat_natCast, this]
    simp [hi]
  unfold Instr.index
  simp only [asIntOf, Sem.run_bind, Sem.run_pure, Result.andThen_ok, run_underlying hu w]
  rw [if_pos (by omega), hg]
  rfl
theorem size_str (t : List UInt8) : (⟨t.toArray⟩ : ByteArray).size = t.length := by simp [ByteArray.size]
end Go.Proofs.YtbiokogihimboaaDoor.Base
