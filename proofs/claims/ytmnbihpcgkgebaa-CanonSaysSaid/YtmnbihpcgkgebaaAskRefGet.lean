/-
  The reference's GetAsk: what it keeps while it reads.
-/
import Derived.Test.YtmnbihpcgkgebaaAskRefPut
import Derived.Test.YtmnbihpcgkgebaaPackRefO
namespace Go.Proofs.Ytmnbihpcgkgebaa.Ask
open Go.RowKit Base Pack

theorem r_ok {n : Nat} {b : List UInt8} (h : n ≤ b.length) : refOut n b 0 = b.take n ∧ refRest n b 0 = b.drop n ∧ refErr n b 0 = 0 := by
  have h1 : ¬ (n : Int) < 0 := by omega
  have h2 : ¬ (b.length : Int) < (n : Int) := by omega
  unfold refOut refRest refErr
  simp only [if_true, if_neg h1, if_neg h2, Int.toNat_natCast]
  exact ⟨trivial, trivial, trivial⟩
theorem r_short {n : Nat} {b : List UInt8} (h : b.length < n) : refOut n b 0 = [] ∧ refRest n b 0 = b ∧ refErr n b 0 = 3 := by
  have h1 : ¬ (n : Int) < 0 := by omega
  have h2 : (b.length : Int) < (n : Int) := by omega
  unfold refOut refRest refErr
  simp only [if_true, if_neg h1, if_pos h2]
  exact ⟨trivial, trivial, trivial⟩
theorem r_err {n : Nat} {b : List UInt8} {e : Int} (h : ¬ e = 0) : refOut n b e = [] ∧ refRest n b e = b ∧ refErr n b e = e := by
  unfold refOut refRest refErr
  rw [if_neg h, if_neg h, if_neg h]
  exact ⟨rfl, rfl, rfl⟩
theorem rbytes_err {m : Int} {b : List UInt8} {e : Int} (h : ¬ e = 0) : refBytesOut m b e = [] ∧ refBytesErr m b e = e := by
  obtain ⟨h1, h2, h3⟩ := r_err (n := 2) (b := b) h
  have h3 : refErr 2 b e = e := h3
  unfold refBytesOut refBytesErr
  rw [h3, if_neg h, if_neg h]
  exact ⟨rfl, rfl⟩
theorem rbytes_ok (m : Int) (b : List UInt8) : refBytesOut m b 0 = bytesOut m b ∧ refBytesErr m b 0 = bytesErr m b 0 ∧ (bytesErr m b 0 = 0 → refBytesRest m b 0 = bytesRest m b) := by
  obtain ⟨h1, h2, h3⟩ := alike_bytes m (l := b) (b := b) (e := 0) (E := 0) ⟨rfl, rfl⟩
  refine ⟨h1.symm, h2.symm, fun h => ?_⟩
  rw [h3, ← h2, if_pos h]
/-- one number less: the parsed ones, one behind the other -/
theorem parse_snoc (n : Nat) (l : List UInt8) : parse (n + 1) l = parse n l ++ [(un (num ((l.drop (16 * n)).take 8)), un (num ((l.drop (16 * n + 8)).take 8)))] := by
  induction n generalizing l with
  | zero => rfl
  | succ n ih =>
    rw [parse, ih (l.drop 16)]
    show _ = ((un (num (l.take 8)), un (num ((l.drop 8).take 8))) :: parse n (l.drop 16)) ++ _
    rw [List.drop_drop, List.drop_drop, List.cons_append, show 16 + 16 * n = 16 * (n + 1) by omega, show 16 + (16 * n + 8) = 16 * (n + 1) + 8 by omega]
def ask6 (k : Int) (nm : ByteArray) (sv : Value) (f t wn : Int) (i : Nat) : Value := (#[Value.int .i64 k, .string nm, sv, .int .i64 f, .int .i64 t, .int .i64 wn] : Array Value).getD i undef
structure Apart (w : World) (g0 gr ga : Nat) : Prop where
  n1 : gr ≠ ga
  n2 : gr ≠ g0
  n3 : ga ≠ g0
  o0 : w.heap.size ≤ g0
  o1 : w.heap.size ≤ gr
  o2 : w.heap.size ≤ ga
section
variable {w W W' : World} {g0 gr ga : Nat} {b b' : List UInt8} {e e' k : Int} {nm : ByteArray} {sv : Value} {f t wn : Int}
end
theorem pairs_nil (w : World) : PairsIs w (.slice none 0 0) [] := ⟨none, 0, 0, 0, rfl, Nat.le_refl _, fun h => absurd h (by simp), fun j hj => absurd hj (by simp)⟩
/-- samples in a row of one's own -/
def pcells (S : List (Int × Int)) : List Value := S.flatMap fun p => [.int .i64 p.1, .int .i64 p.2]
theorem pcells_length (S : List (Int × Int)) : (pcells S).length = S.length * 2 := by
  induction S with
  | nil => rfl
  | cons p S ih => simp only [pcells, List.flatMap_cons, List.length_append, List.length_cons, List.length_nil] at *; omega
theorem pcells_append (S M : List (Int × Int)) : pcells (S ++ M) = pcells S ++ pcells M := by simp [pcells]
theorem pcells_get (S : List (Int × Int)) (i : Nat) (h : i < S.length) : (pcells S)[i * 2]? = some (.int .i64 (S.getD i (0, 0)).1) ∧ (pcells S)[i * 2 + 1]? = some (.int .i64 (S.getD i (0, 0)).2) := by
  induction S generalizing i with
  | nil => simp at h
  | cons p S ih =>
    cases i with
    | zero => simp [pcells]
    | succ i =>
      have := ih i (by simpa using h)
      have e : pcells (p :: S) = [.int .i64 p.1, .int .i64 p.2] ++ pcells S := by simp [pcells]
      rw [e]
      rw [List.getElem?_append_right (by simp; omega), List.getElem?_append_right (by simp; omega)]
      simp only [List.length_cons, List.length_nil, List.getD_cons_succ]
      rw [show (i + 1) * 2 - (0 + 1 + 1) = i * 2 by omega, show (i + 1) * 2 + 1 - (0 + 1 + 1) = i * 2 + 1 by omega]
      exact this
theorem pairs_own {w : World} {base : Nat} {e : TypeId} {v : Value} {n : Nat} {S : List (Int × Int)} (h : w.ownsRow base e 2 v n (pcells S)) (hn : n = S.length) : PairsIs w v S := by
  subst hn
  have hl := pcells_length S
  rcases h.2 with ⟨rfl, h0⟩ | ⟨b, cap, cur, rfl, hb, hg, hnc, hcm, hcs, ht⟩
  · obtain rfl : S = [] := List.eq_nil_of_length_eq_zero h0
    exact pairs_nil w
  · refine ⟨_, cap, b, 0, rfl, hnc, fun _ => rfl, fun j hj => ?_⟩
    obtain ⟨k1, k2⟩ := pcells_get S j hj
    rw [Nat.zero_add, h.cellAt (j * 2) (by omega), h.cellAt (j * 2 + 1) (by omega), k1, k2]
    exact ⟨rfl, rfl⟩
theorem pair_lit (w : World) (x y : Int) (t : TypeId) : ValsIs (w.alloc (.cells #[.int .i64 x, .int .i64 y] t)) (.slice (some ⟨w.heap.size, 0, none⟩) 1 1) 1 [.int .i64 x, .int .i64 y] := by
  refine ⟨_, 1, w.heap.size, 0, rfl, Nat.le_refl _, fun _ => rfl, fun j hj => ?_⟩
  rw [cell_of_row _ _ _ _ _ _ (heap_alloc_new w _)]
  match j, hj with
  | 0, _ => rfl
  | 1, _ => rfl
theorem pcells_one (S : List (Int × Int)) : ∀ u ∈ pcells S, u.oneCell' = true := by
  intro u hu
  simp only [pcells, List.mem_flatMap, List.mem_cons, List.not_mem_nil, or_false] at hu
  obtain ⟨p, hp, rfl | rfl⟩ := hu <;> rfl
theorem infoSm : (Try.prog.info? 55).map (fun i => (i.zero, i.size, i.bytes)) = some (some (.agg #[.int .i64 0, .int .i64 0]), 2, 16) := by kernel_rfl
theorem refBytesOut_le (m : Int) (b : List UInt8) (e : Int) : (refBytesOut m b e).length ≤ 65535 := by
  unfold refBytesOut
  have hx : num (refOut 2 b e) < 65536 := num_lt_le (refOut_le 2 b e)
  have h := refOut_le (num (refOut 2 b e)) (refRest 2 b e) (refErr 2 b e)
  split
  · split
    · simp
    · omega
  · simp
theorem infoAsk : (Try.prog.info? 39).map (·.size) = some 6 := by kernel_rfl
theorem ask_one (k : Int) (nm : ByteArray) (sv : Value) (f t wn : Int) (h : sv.oneCell' = true) : (#[Value.int .i64 k, .string nm, sv, .int .i64 f, .int .i64 t, .int .i64 wn] : Array Value).all (·.oneCell') = true := by
  rw [Array.all_eq_true_iff_forall_mem]
  intro v hv
  simp only [List.mem_toArray, List.mem_cons, List.not_mem_nil, or_false] at hv
  rcases hv with rfl | rfl | rfl | rfl | rfl | rfl
  all_goals first | exact h | rfl
theorem results_ask {fn : Func} {p u : Tmp} (h : fn.results = #[.cell p 39, .tmp u]) (tmps : Array Value) (w : World) (g : Nat) (cs : Array Value) (hp : tmps.getD p undef = .pointer (some ⟨g, 0, none⟩)) (v : Value) (hu' : tmps.getD u undef = v) (hg : w.heap[g]? = some (.cells cs 39 (0, 0))) (hi : (Try.prog.info? 39).map (·.size) = some cs.size) :
    (results fn tmps).run Try.prog w = .ok (.tuple #[.agg cs, v]) w := by
  have hp' : tmps[p]?.getD undef = .pointer (some ⟨g, 0, none⟩) := by simpa using hp
  have hq' : tmps[u]?.getD undef = v := by simpa using hu'
  simp [results, h, hp', hq', asAddr, run_loadVar_row w g 39 39 cs (0, 0) _ hg Try.underlying39 rfl hi]
theorem pairs_fr {S : Nat → Prop} {w w' : World} {v : Value} {s : List (Int × Int)} (h : PairsIs w v s) (hf : Fr S w w') (hc : ∀ a n c, v = .slice (some a) n c → 0 < s.length → ¬ S a.block) : PairsIs w' v s := by
  obtain ⟨a, cap, pb, po, hv, hle, ha, hcell⟩ := h
  refine ⟨a, cap, pb, po, hv, hle, ha, fun j hj => ?_⟩
  obtain ⟨k1, k2⟩ := hcell j hj
  have k3 := ha (by omega)
  subst k3
  have k4 := hc ⟨pb, po, none⟩ _ _ hv (by omega)
  exact ⟨(hf.cell (p := ⟨pb, po + j * 2, none⟩) (World.block_lt_of_cell? w _ k1) k4).trans k1, (hf.cell (p := ⟨pb, po + j * 2 + 1, none⟩) (World.block_lt_of_cell? w _ k2) k4).trans k2⟩
/-- what it answers -/
def GetPost (b : List UInt8) (w : World) (e : Ending) (w' : World) : Prop := ∃ A C, e = .returned (.tuple #[.agg (rv (.slice A (getB b).1.s.length C) (getB b).1), .int .i64 (getB b).2]) ∧ PairsIs w' (.slice A (getB b).1.s.length C) (getB b).1.s ∧ Fr0 w w'
end Go.Proofs.Ytmnbihpcgkgebaa.Ask
