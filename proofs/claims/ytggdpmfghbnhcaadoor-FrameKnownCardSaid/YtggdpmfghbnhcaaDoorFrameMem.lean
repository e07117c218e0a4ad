/-
  Where a cutter and its pieces lie, and what they keep while other blocks turn.
-/
import Derived.Test.YtggdpmfghbnhcaaDoorProg
import Derived.Test.YtggdpmfghbnhcaaDoorFrameSpec
import Derived.Test.YtggdpmfghbnhcaaDoorAppNew
import Derived.Test.YtggdpmfghbnhcaaDoorCutB
import Derived.Laws.Small
namespace Go.Proofs.YtggdpmfghbnhcaaDoor.Frame
open Go.RowKit Base Pack Crc

def ptr (p : Nat) : Value := .pointer (some ⟨p, 0, none⟩)
/-- v lies nowhere in S -/
def Clear (S : Nat → Prop) (v : Value) (l : List UInt8) : Prop := ∀ a n c, v = .slice (some a) n c → 0 < l.length → ¬ S a.block
theorem Clear.mono {S T : Nat → Prop} {v : Value} {l : List UInt8} (h : Clear S v l) (hs : ∀ k, T k → S k) : Clear T v l := fun a n c hv hl ht => h a n c hv hl (hs _ ht)
theorem bytes_keep {S : Nat → Prop} {w w' : World} {v : Value} {l : List UInt8} (h : BytesIs w v l) (hf : Fr S w w') (hc : Clear S v l) : BytesIs w' v l := by
  obtain ⟨a, cap, pb, po, hv, hle, ha, hcell⟩ := h
  refine ⟨a, cap, pb, po, hv, hle, ha, fun j hj => ?_⟩
  have h1 := hcell j hj
  have h2 := ha (by omega)
  subst h2
  rw [hf.cell (p := ⟨pb, po + j, none⟩) (World.block_lt_of_cell? w _ h1) (by have := hc ⟨pb, po, none⟩ _ _ hv (by omega); exact this)]
  exact h1
theorem bytes_lt {w : World} {v : Value} {l : List UInt8} (h : BytesIs w v l) : ∀ a n c, v = .slice (some a) n c → 0 < l.length → a.block < w.heap.size := by
  obtain ⟨a, cap, pb, po, rfl, hle, ha, hcell⟩ := h
  intro a' n c hv hl
  obtain rfl := ha hl
  cases hv
  exact World.block_lt_of_cell? w _ (hcell 0 hl)
theorem vals_of_bytes {w : World} {v : Value} {l : List UInt8} (h : BytesIs w v l) : ValsIs w v l.length (bvals l) := by
  obtain ⟨a, cap, pb, po, hv, hle, ha, hcell⟩ := h
  refine ⟨a, cap, pb, po, hv, hle, ha, fun j hj => ?_⟩
  rw [bvals_length] at hj
  rw [hcell j hj]
  have : (bvals l).getD j undef = .int .u8 ((l.getD j 0).toNat : Int) := by rw [List.getD_eq_getElem?_getD (l := bvals l), bvals_get l j hj]; rfl
  rw [this]
theorem owns_fr {S : Nat → Prop} {a b : World} (h : Fr S a b) {base : Nat} {e : TypeId} {size : Nat} {v : Value} {n : Nat} {xs : List Value} (ho : a.ownsRow base e size v n xs) (hs : ∀ g, v.ownBlock = some g → ¬ S g) : b.ownsRow base e size v n xs := by
  refine ⟨ho.1, ?_⟩
  rcases ho.2 with hn | ⟨g, cap, cur, rfl, hb, hg, rest⟩
  · exact .inl hn
  · exact .inr ⟨g, cap, cur, rfl, hb, h.heap hg (hs g rfl), rest⟩
theorem owns_base0 {w : World} {base : Nat} {e : TypeId} {size : Nat} {v : Value} {n : Nat} {xs : List Value} (h : w.ownsRow base e size v n xs) : w.ownsRow 0 e size v n xs := by
  refine ⟨h.1, ?_⟩
  rcases h.2 with hn | ⟨g, cap, cur, rfl, hb, rest⟩
  · exact .inl hn
  · exact .inr ⟨g, cap, cur, rfl, Nat.zero_le _, rest⟩
theorem owns_heap {w : World} {base : Nat} {e : TypeId} {size : Nat} {v : Value} {n : Nat} {xs : List Value} (ho : w.ownsRow base e size v n xs) {g : Nat} (hg : v.ownBlock = some g) : ∃ cs, w.heap[g]? = some (.cells cs e (0, 0)) := by
  rcases ho.2 with ⟨rfl, _⟩ | ⟨g', cap, cur, rfl, hb, hg', _⟩
  · cases hg
  · cases hg
    exact ⟨cur, hg'⟩
/-- a cutter's blocks -/
def V (g : Nat) (q : Option Nat) (k : Nat) : Prop := k = g ∨ q = some k
/-- the block of a row that was turned: the old one, or one made since -/
def NewQ (w : World) (q q' : Option Nat) : Prop := q' = q ∨ ∀ k, q' = some k → w.heap.size ≤ k
theorem NewQ.trans {w w1 : World} {a b c : Option Nat} (h : NewQ w a b) (h1 : NewQ w1 b c) (hs : w.heap.size ≤ w1.heap.size) : NewQ w a c := by
  rcases h1 with rfl | h1
  · exact h
  · exact .inr fun k hk => Nat.le_trans hs (h1 k hk)
/-- a cutter: its object at g, its bytes that wait in block q -/
def CutAt (w : World) (g : Nat) (q : Option Nat) (l : List UInt8) (d : Bool) : Prop := ∃ sv, sv.ownBlock = q ∧ w.rowIs g 53 2 (fun i => if i = 0 then sv else .bool d) ∧ w.ownsRow 0 5 1 sv l.length (bvals l)
theorem CutAt.lt {w : World} {g : Nat} {q : Option Nat} {l : List UInt8} {d : Bool} (h : CutAt w g q l d) : g < w.heap.size := by
  obtain ⟨sv, _, hr, _⟩ := h
  exact hr.lt
theorem CutAt.q_lt {w : World} {g : Nat} {q : Option Nat} {l : List UInt8} {d : Bool} (h : CutAt w g q l d) : ∀ k, q = some k → k < w.heap.size := by
  obtain ⟨sv, rfl, _, ho⟩ := h
  intro k hk
  obtain ⟨cs, hc⟩ := owns_heap ho hk
  exact lt_of_heap hc
theorem CutAt.v_lt {w : World} {g : Nat} {q : Option Nat} {l : List UInt8} {d : Bool} (h : CutAt w g q l d) : ∀ k, V g q k → k < w.heap.size := fun k hk => by
  rcases hk with rfl | hk
  · exact h.lt
  · exact h.q_lt k hk
theorem CutAt.ne {w : World} {g : Nat} {q : Option Nat} {l : List UInt8} {d : Bool} (h : CutAt w g q l d) : q ≠ some g := fun e => by
  obtain ⟨sv, rfl, hr, ho⟩ := h
  obtain ⟨cs, hc⟩ := owns_heap ho e
  have := row_cells hr
  rw [hc] at this
  simp only [Option.some.injEq, Obj.cells.injEq] at this
  exact absurd this.2.1 (by decide)
theorem CutAt.fr {S : Nat → Prop} {w w' : World} {g : Nat} {q : Option Nat} {l : List UInt8} {d : Bool} (h : CutAt w g q l d) (hf : Fr S w w') (hs : ∀ k, V g q k → ¬ S k) : CutAt w' g q l d := by
  obtain ⟨sv, hq, hr, ho⟩ := h
  exact ⟨sv, hq, hf.row hr (hs g (.inl rfl)), owns_fr hf ho (fun k hk => hs k (.inr (hq ▸ hk)))⟩
theorem CutAt.fr0 {w w' : World} {g : Nat} {q : Option Nat} {l : List UInt8} {d : Bool} (h : CutAt w g q l d) (hf : Fr0 w w') : CutAt w' g q l d := h.fr hf (fun _ _ f => f)
/-- its bytes are laid anew -/
theorem CutAt.put {w : World} {g : Nat} {q q' : Option Nat} {l l' : List UInt8} {d : Bool} {w1 : World} {sv : Value} (h : CutAt w g q l d) (hf : Fr (fun k => q = some k) w w1) (hsv : sv.ownBlock = q') (ho : w1.ownsRow 0 5 1 sv l'.length (bvals l')) (hne : q' ≠ some g) :
    CutAt (w1.setCell ⟨g, 0, none⟩ sv) g q' l' d := by
  obtain ⟨sv0, hq, hr, ho0⟩ := h
  have hgq : q ≠ some g := CutAt.ne ⟨sv0, hq, hr, ho0⟩
  refine ⟨sv, hsv, ((hf.row hr hgq).set 0 _).congr (fun i hi => ?_), owns_fr (Fr.setCell (S := fun k => k = g) (p := ⟨g, 0, none⟩) (Fr.refl _ _) (fun _ => rfl) _) ho (fun k hk e => hne (by subst e; rw [← hsv]; exact hk))⟩
  match i, hi with
  | 0, _ => rfl
  | 1, _ => rfl
/-- a value of two cells a piece -/
def kcells (L : List (Value × Int)) : List Value := L.flatMap fun p => [p.1, .int .i64 p.2]
theorem kcells_length (L : List (Value × Int)) : (kcells L).length = L.length * 2 := by
  induction L with
  | nil => rfl
  | cons p L ih => simp only [kcells, List.flatMap_cons, List.length_append, List.length_cons, List.length_nil] at *; omega
theorem kcells_append (L M : List (Value × Int)) : kcells (L ++ M) = kcells L ++ kcells M := by simp [kcells]
theorem kcells_get (L : List (Value × Int)) (i : Nat) (h : i < L.length) : (kcells L)[i * 2]? = some (L[i]'h).1 ∧ (kcells L)[i * 2 + 1]? = some (.int .i64 (L[i]'h).2) := by
  induction L generalizing i with
  | nil => simp at h
  | cons p L ih =>
    cases i with
    | zero => simp [kcells]
    | succ i =>
      have := ih i (by simpa using h)
      have e : kcells (p :: L) = [p.1, .int .i64 p.2] ++ kcells L := by simp [kcells]
      rw [e]
      rw [List.getElem?_append_right (by simp; omega), List.getElem?_append_right (by simp; omega)]
      simp only [List.length_cons, List.length_nil, List.getElem_cons_succ]
      rw [show (i + 1) * 2 - (0 + 1 + 1) = i * 2 by omega, show (i + 1) * 2 + 1 - (0 + 1 + 1) = i * 2 + 1 by omega]
      exact this
/-- the values of pieces read as them; their bytes lie nowhere in S -/
def Lie (w : World) (S : Nat → Prop) (X : List (Value × Int)) (L : List Pc) : Prop := X.length = L.length ∧ ∀ i (h : i < X.length) (k : i < L.length), X[i].2 = L[i].e ∧ BytesIs w X[i].1 L[i].b ∧ Clear S X[i].1 L[i].b ∧ X[i].1.oneCell' = true
theorem Lie.nil (w : World) (S : Nat → Prop) : Lie w S [] [] := ⟨rfl, fun i h => absurd h (by simp)⟩
theorem Lie.keep {S T U : Nat → Prop} {w w' : World} {X : List (Value × Int)} {L : List Pc} (h : Lie w S X L) (hf : Fr T w w') (hT : ∀ k, k < w.heap.size → T k → S k) (hU : ∀ k, k < w.heap.size → U k → S k) : Lie w' U X L :=
  ⟨h.1, fun i h1 h2 => by
    obtain ⟨e1, e2, e3, e4⟩ := h.2 i h1 h2
    exact ⟨e1, bytes_keep e2 hf (fun a n c hv hl t => e3 a n c hv hl (hT _ (bytes_lt e2 a n c hv hl) t)), fun a n c hv hl t => e3 a n c hv hl (hU _ (bytes_lt e2 a n c hv hl) t), e4⟩⟩
theorem Lie.snoc {S : Nat → Prop} {w : World} {X : List (Value × Int)} {L : List Pc} (h : Lie w S X L) (x : Value × Int) (p : Pc) (h1 : x.2 = p.e) (h2 : BytesIs w x.1 p.b) (h3 : Clear S x.1 p.b) (h4 : x.1.oneCell' = true) : Lie w S (X ++ [x]) (L ++ [p]) := by
  obtain ⟨hl, ha⟩ := h
  refine ⟨by simp [hl], fun i hx hp => ?_⟩
  by_cases hi : i < X.length
  · rw [List.getElem_append_left hi, List.getElem_append_left (by omega)]
    exact ha i hi (by omega)
  · have hxl : i = X.length := by simp at hx; omega
    subst hxl
    rw [List.getElem_append_right (Nat.le_refl _), List.getElem_append_right (by omega)]
    simp only [Nat.sub_self, hl, List.getElem_singleton]
    exact ⟨h1, h2, h3, h4⟩
theorem Lie.append {S : Nat → Prop} {w : World} {X Y : List (Value × Int)} {L M : List Pc} (h : Lie w S X L) (k : Lie w S Y M) : Lie w S (X ++ Y) (L ++ M) := by
  obtain ⟨hl, ha⟩ := h
  obtain ⟨kl, ka⟩ := k
  refine ⟨by simp [hl, kl], fun i hx hp => ?_⟩
  by_cases hi : i < X.length
  · rw [List.getElem_append_left hi, List.getElem_append_left (by omega)]
    exact ha i hi (by omega)
  · rw [List.getElem_append_right (by omega), List.getElem_append_right (by omega)]
    have := ka (i - X.length) (by simp at hx; omega) (by simp at hx; omega)
    simpa [hl] using this
theorem kcells_one {w : World} {S : Nat → Prop} {X : List (Value × Int)} {L : List Pc} (h : Lie w S X L) : ∀ u ∈ kcells X, u.oneCell' = true := by
  intro u hu
  simp only [kcells, List.mem_flatMap, List.mem_cons, List.not_mem_nil, or_false] at hu
  obtain ⟨p, hp, rfl | rfl⟩ := hu
  · obtain ⟨i, hi, rfl⟩ := List.getElem_of_mem hp
    exact (h.2 i hi (by have := h.1; omega)).2.2.2
  · rfl
/-- a slice of pieces that reads as L; nothing of it lies in S -/
def Pieces (w : World) (S : Nat → Prop) (v : Value) (L : List Pc) : Prop := ∃ X, Lie w S X L ∧ ValsIs w v L.length (kcells X) ∧ ∀ a n c, v = .slice (some a) n c → 0 < L.length → ¬ S a.block
theorem Pieces.keep {S T U : Nat → Prop} {w w' : World} {v : Value} {L : List Pc} (h : Pieces w S v L) (hf : Fr T w w') (hT : ∀ k, k < w.heap.size → T k → S k) (hU : ∀ k, k < w.heap.size → U k → S k) : Pieces w' U v L := by
  obtain ⟨X, hx, hv, hc⟩ := h
  obtain ⟨a, cap, pb, po, rfl, hle, ha, hcell⟩ := hv
  have hkl := kcells_length X
  have hlt : 0 < L.length → pb < w.heap.size := fun hl => World.block_lt_of_cell? w _ (hcell 0 (by rw [hkl, hx.1]; omega))
  have hS : 0 < L.length → ¬ S pb := fun hl => by
    obtain rfl := ha hl
    exact hc _ _ _ rfl hl
  refine ⟨X, hx.keep hf hT hU, ⟨a, cap, pb, po, rfl, hle, ha, fun j hj => ?_⟩, fun a' n c hv hl hu => ?_⟩
  · have hl : 0 < L.length := by rw [hkl, hx.1] at hj; omega
    rw [hf.cell (p := ⟨pb, po + j, none⟩) (hlt hl) (fun t => hS hl (hT _ (hlt hl) t))]
    exact hcell j hj
  · obtain rfl := ha hl
    cases hv
    exact hS hl (hU _ (hlt hl) hu)
theorem Pieces.fr0 {S : Nat → Prop} {w w' : World} {v : Value} {L : List Pc} (h : Pieces w S v L) (hf : Fr0 w w') : Pieces w' S v L := h.keep hf (fun _ _ f => f.elim) (fun _ _ h => h)
theorem Pieces.form {S : Nat → Prop} {w : World} {v : Value} {L : List Pc} (h : Pieces w S v L) : ∃ a c, v = .slice a L.length c := by
  obtain ⟨X, _, ⟨a, c, _, _, hv, _⟩, _⟩ := h
  exact ⟨a, c, hv⟩
/-- a piece's two cells -/
theorem Pieces.at {S : Nat → Prop} {w : World} {a : Option Addr} {n c : Nat} {L : List Pc} (h : Pieces w S (.slice a n c) L) : n = L.length ∧ (0 < L.length → ∃ pb po, a = some ⟨pb, po, none⟩ ∧ ∀ i (hi : i < L.length), ∃ sv, w.cell? ⟨pb, po + i * 2, none⟩ = some sv ∧ w.cell? ⟨pb, po + i * 2 + 1, none⟩ = some (.int .i64 L[i].e) ∧ BytesIs w sv L[i].b ∧ Clear S sv L[i].b) := by
  obtain ⟨X, hx, ⟨a', cap, pb, po, hv, hle, ha, hcell⟩, _⟩ := h
  simp only [Value.slice.injEq] at hv
  obtain ⟨rfl, rfl, rfl⟩ := hv
  refine ⟨rfl, fun hl => ⟨pb, po, ha hl, fun i hi => ?_⟩⟩
  have hxl := hx.1
  have hkl := kcells_length X
  obtain ⟨k1, k2⟩ := kcells_get X i (by omega)
  obtain ⟨e1, e2, e3, _⟩ := hx.2 i (by omega) hi
  refine ⟨X[i].1, ?_, ?_, e2, e3⟩
  · rw [hcell (i * 2) (by omega), List.getD_eq_getElem?_getD, k1]; rfl
  · rw [Nat.add_assoc, hcell (i * 2 + 1) (by omega), List.getD_eq_getElem?_getD, k2, ← e1]; rfl
/-- v[lo:] -/
theorem cut_lo_b {P : Program} (t e : TypeId) (ht : P.underlying t = some (.slice e)) (hs : (P.info? e).map (·.size) = some 1) {w : World} {a : Option Addr} {n cap : Nat} {l : List UInt8} (h : BytesIs w (.slice a n cap) l) (lo : Nat) (h1 : lo ≤ l.length) (x : Int) (hx : x = (lo : Int)) :
    ∃ a' c', BytesIs w (.slice a' (l.length - lo) c') (l.drop lo) ∧ (∀ wx : World, (Instr.sliceAt t (.slice a n cap) (some (.int .i64 x)) none none).run P wx = .ok (.slice a' (l.length - lo) c') wx) ∧ ∀ q, a' = some q → ∃ p, a = some p ∧ q.block = p.block := by
  subst hx
  obtain ⟨i, hi', hz⟩ : ∃ i, P.info? e = some i ∧ i.size = 1 := by
    cases hq : P.info? e with
    | none => simp [hq] at hs
    | some i => exact ⟨i, rfl, by simpa [hq] using hs⟩
  have hE : P.elem t = e := by simp [Program.elem, ht]
  obtain ⟨a0, cap0, pb, po, hv, hle, ha, hc⟩ := h
  simp only [Value.slice.injEq] at hv
  obtain ⟨rfl, rfl, rfl⟩ := hv
  have hl : (l.drop lo).length = l.length - lo := by simp
  refine ⟨if cap = lo then a else a.map (·.add lo), cap - lo, ⟨_, cap - lo, pb, po + lo, by rw [hl], by rw [hl]; omega, fun h0 => ?_, fun j hj => ?_⟩, fun wx => ?_, fun q hq => ?_⟩
  · rw [hl] at h0
    rw [if_neg (by omega), ha (by omega)]
    simp [Addr.add_mid]
  · rw [hl] at hj
    rw [Nat.add_assoc, hc (lo + j) (by omega)]
    simp [show lo + j < l.length from by omega]
  · rw [run_sliceAt_slice wx t _ _ _ _ (by rw [hE]; exact ht), run_slice_l wx t a l.length cap (by rw [hE]; exact ht) .i64 (lo : Int) (by omega) (by omega), hE]
    simp [sizeOf, typeInfo, hi', hz, sliced, Sem.run_bind]
  · split at hq
    · exact ⟨q, hq, rfl⟩
    · obtain ⟨p, hp, rfl⟩ := Option.map_eq_some_iff.1 hq
      exact ⟨p, hp, by unfold Addr.add; split <;> rfl⟩
theorem str_toList (l : List UInt8) : (⟨l.toArray⟩ : ByteArray).toList = l := by rw [ByteArray.toList_eq]
theorem str_ne {a b : ByteArray} (h : ¬ a = b) : (a.toList == b.toList) = false := by
  rw [beq_eq_false_iff_ne]
  intro e
  apply h
  rw [ByteArray.toList_eq, ByteArray.toList_eq] at e
  cases a
  cases b
  congr 1
  exact Array.toList_inj.1 e
theorem results_cell2 {P : Program} {fn : Func} {p u : Tmp} {ty : TypeId} (h : fn.results = #[.cell p ty, .tmp u]) (tmps : Array Value) (w : World) (g : Nat) (t : TypeId) (cs : Array Value) (fr : Nat × Nat) (d : TypeDesc)
    (hp : tmps.getD p undef = .pointer (some ⟨g, 0, none⟩)) (v : Value) (hu' : tmps.getD u undef = v) (hg : w.heap[g]? = some (.cells cs t fr))
    (hu : P.underlying ty = some d) (hd : (match d with | .struct _ | .array _ _ => true | _ => false) = true) (hi : (P.info? ty).map (·.size) = some cs.size) :
    (results fn tmps).run P w = .ok (.tuple #[.agg cs, v]) w := by
  have hp' : tmps[p]?.getD undef = .pointer (some ⟨g, 0, none⟩) := by simpa using hp
  have hq' : tmps[u]?.getD undef = v := by simpa using hu'
  simp [results, h, hp', hq', asAddr, run_loadVar_row w g t ty cs fr d hg hu hd hi]
theorem two_one (a b : Value) (ha : a.oneCell' = true) (hb : b.oneCell' = true) : (#[a, b] : Array Value).all (·.oneCell') = true := by simp [ha, hb]
theorem run_min_op {P : Program} {o : Oper} {a : Act} {x y : Operand} {t1 t2 : TypeId} (ho : o.op = .call { callee := .builtin .min, args := #[x, y], argTypes := #[t1, t2] }) {m n : Int} (hx : a.eval x = .int .i64 m) (hy : a.eval y = .int .i64 n) (w : World) :
    (execOp a.eval o).run P w = .ok (.value (.int .i64 (if n < m then n else m))) w := by
  unfold execOp
  simp only [ho, resolve, invoke, builtin, Sem.run_bind, Sem.run_pure, Result.andThen_ok, List.map_toArray, List.map_cons, List.map_nil, hx, hy, run_min_int2]
end Go.Proofs.YtggdpmfghbnhcaaDoor.Frame
