/-
  Many numbers in few. No program stands here.
-/
import Derived.Test.YtbbmjkligiglmaaSerAll
import Derived.Test.YtbbmjkligiglmaaAskSpec
import Derived.Test.YtbbmjkligiglmaaGround
import Derived.Lib.ItoaNum
namespace Go.Proofs.Ytbbmjkligiglmaa.Agg
open Go.RowKit Base _root_.Go.Proofs.Ytbbmjkligiglmaa.Tenant _root_.Go.Proofs.Ytbbmjkligiglmaa.Series _root_.Go.Proofs.Ytbbmjkligiglmaa.Pack
open _root_.Go.Proofs.Ytbbmjkligiglmaa.Ask (tw tw_lt)

structure Ag where
  c : Int
  s : Int
  n : Int
  x : Int
  l : Int
  o : Bool
def zeroA : Ag := ⟨0, 0, 0, 0, 0, false⟩
def Fit (x : Int) : Prop := -9223372036854775808 ≤ x ∧ x ≤ 9223372036854775807
def SizedA (q : Ag) : Prop := Fit q.c ∧ Fit q.s ∧ Fit q.n ∧ Fit q.x ∧ Fit q.l
def fits (x : Int) : Bool := decide (-9223372036854775808 ≤ x ∧ x ≤ 9223372036854775807)
theorem fits_iff (x : Int) : fits x = true ↔ Fit x := decide_eq_true_iff
def tot : List Int → Int
  | [] => 0
  | x :: l => x + tot l
theorem tot_app : ∀ (l m : List Int), tot (l ++ m) = tot l + tot m
  | [], m => by simp [tot]
  | x :: l, m => by
    show x + tot (l ++ m) = x + tot l + tot m
    rw [tot_app l m]
    omega
theorem tot_one (x : Int) : tot [x] = x := by simp [tot]
def least : List Int → Int
  | [] => 0
  | x :: t => t.foldl (fun m y => if y < m then y else m) x
def great : List Int → Int
  | [] => 0
  | x :: t => t.foldl (fun m y => if m < y then y else m) x
def lastV (l : List Int) : Int := l.getD (l.length - 1) 0
theorem least_next (l : List Int) (x : Int) : least (l ++ [x]) = if l.length = 0 then x else if x < least l then x else least l := by
  cases l with
  | nil => rfl
  | cons a t =>
    show (t ++ [x]).foldl _ a = _
    rw [List.foldl_append, if_neg (by simp)]
    rfl
theorem great_next (l : List Int) (x : Int) : great (l ++ [x]) = if l.length = 0 then x else if great l < x then x else great l := by
  cases l with
  | nil => rfl
  | cons a t =>
    show (t ++ [x]).foldl _ a = _
    rw [List.foldl_append, if_neg (by simp)]
    rfl
theorem last_next (l : List Int) (x : Int) : lastV (l ++ [x]) = x := by
  unfold lastV
  rw [List.getD_eq_getElem?_getD, List.length_append, List.length_singleton, Nat.add_sub_cancel, List.getElem?_append_right (Nat.le_refl _)]
  simp
theorem fold_least (t : List Int) : ∀ a : Int, (t.foldl (fun m y => if y < m then y else m) a ≤ a ∧ ∀ y ∈ t, t.foldl (fun m y => if y < m then y else m) a ≤ y) ∧ (t.foldl (fun m y => if y < m then y else m) a = a ∨ t.foldl (fun m y => if y < m then y else m) a ∈ t) := by
  induction t with
  | nil => intro a; exact ⟨⟨Int.le_refl _, fun y h => by simp at h⟩, .inl rfl⟩
  | cons b t ih =>
    intro a
    simp only [List.foldl_cons]
    obtain ⟨⟨h1, h2⟩, h3⟩ := ih (if b < a then b else a)
    have hb : (if b < a then b else a) ≤ a ∧ (if b < a then b else a) ≤ b ∧ ((if b < a then b else a) = a ∨ (if b < a then b else a) = b) := by split <;> omega
    refine ⟨⟨Int.le_trans h1 hb.1, fun y hy => ?_⟩, ?_⟩
    · rcases List.mem_cons.1 hy with rfl | hy
      · exact Int.le_trans h1 hb.2.1
      · exact h2 y hy
    · rcases h3 with h3 | h3
      · rcases hb.2.2 with h4 | h4
        · left; rw [h3, h4]
        · right; rw [h3, h4]; exact List.mem_cons_self
      · right; exact List.mem_cons_of_mem _ h3
theorem fold_great (t : List Int) : ∀ a : Int, (a ≤ t.foldl (fun m y => if m < y then y else m) a ∧ ∀ y ∈ t, y ≤ t.foldl (fun m y => if m < y then y else m) a) ∧ (t.foldl (fun m y => if m < y then y else m) a = a ∨ t.foldl (fun m y => if m < y then y else m) a ∈ t) := by
  induction t with
  | nil => intro a; exact ⟨⟨Int.le_refl _, fun y h => by simp at h⟩, .inl rfl⟩
  | cons b t ih =>
    intro a
    simp only [List.foldl_cons]
    obtain ⟨⟨h1, h2⟩, h3⟩ := ih (if a < b then b else a)
    have hb : a ≤ (if a < b then b else a) ∧ b ≤ (if a < b then b else a) ∧ ((if a < b then b else a) = a ∨ (if a < b then b else a) = b) := by split <;> omega
    refine ⟨⟨Int.le_trans hb.1 h1, fun y hy => ?_⟩, ?_⟩
    · rcases List.mem_cons.1 hy with rfl | hy
      · exact Int.le_trans hb.2.1 h1
      · exact h2 y hy
    · rcases h3 with h3 | h3
      · rcases hb.2.2 with h4 | h4
        · left; rw [h3, h4]
        · right; rw [h3, h4]; exact List.mem_cons_self
      · right; exact List.mem_cons_of_mem _ h3
theorem least_is {l : List Int} (h : 0 < l.length) : least l ∈ l ∧ ∀ y ∈ l, least l ≤ y := by
  cases l with
  | nil => simp at h
  | cons a t =>
    obtain ⟨⟨h1, h2⟩, h3⟩ := fold_least t a
    refine ⟨?_, fun y hy => ?_⟩
    · rcases h3 with h3 | h3
      · show t.foldl _ a ∈ _
        rw [h3]; exact List.mem_cons_self
      · exact List.mem_cons_of_mem _ h3
    · rcases List.mem_cons.1 hy with rfl | hy
      · exact h1
      · exact h2 y hy
theorem great_is {l : List Int} (h : 0 < l.length) : great l ∈ l ∧ ∀ y ∈ l, y ≤ great l := by
  cases l with
  | nil => simp at h
  | cons a t =>
    obtain ⟨⟨h1, h2⟩, h3⟩ := fold_great t a
    refine ⟨?_, fun y hy => ?_⟩
    · rcases h3 with h3 | h3
      · show t.foldl _ a ∈ _
        rw [h3]; exact List.mem_cons_self
      · exact List.mem_cons_of_mem _ h3
    · rcases List.mem_cons.1 hy with rfl | hy
      · exact h1
      · exact h2 y hy
theorem least_eq {l m : List Int} (hl : 0 < l.length) (h : ∀ y, y ∈ l ↔ y ∈ m) : least l = least m := by
  have hm : 0 < m.length := List.length_pos_of_mem ((h _).1 (List.getElem_mem hl))
  obtain ⟨h1, h2⟩ := least_is hl
  obtain ⟨h3, h4⟩ := least_is hm
  have := h2 _ ((h _).2 h3)
  have := h4 _ ((h _).1 h1)
  omega
theorem great_eq {l m : List Int} (hl : 0 < l.length) (h : ∀ y, y ∈ l ↔ y ∈ m) : great l = great m := by
  have hm : 0 < m.length := List.length_pos_of_mem ((h _).1 (List.getElem_mem hl))
  obtain ⟨h1, h2⟩ := great_is hl
  obtain ⟨h3, h4⟩ := great_is hm
  have := h2 _ ((h _).2 h3)
  have := h4 _ ((h _).1 h1)
  omega
theorem least_app {l m : List Int} (hl : 0 < l.length) (hm : 0 < m.length) : least (l ++ m) = if least m < least l then least m else least l := by
  obtain ⟨h1, h2⟩ := least_is hl
  obtain ⟨h3, h4⟩ := least_is hm
  obtain ⟨h5, h6⟩ := least_is (l := l ++ m) (by rw [List.length_append]; omega)
  have k1 := h6 _ (List.mem_append_left m h1)
  have k2 := h6 _ (List.mem_append_right l h3)
  rcases List.mem_append.1 h5 with h | h
  · have := h2 _ h
    split <;> omega
  · have := h4 _ h
    split <;> omega
theorem great_app {l m : List Int} (hl : 0 < l.length) (hm : 0 < m.length) : great (l ++ m) = if great l < great m then great m else great l := by
  obtain ⟨h1, h2⟩ := great_is hl
  obtain ⟨h3, h4⟩ := great_is hm
  obtain ⟨h5, h6⟩ := great_is (l := l ++ m) (by rw [List.length_append]; omega)
  have k1 := h6 _ (List.mem_append_left m h1)
  have k2 := h6 _ (List.mem_append_right l h3)
  rcases List.mem_append.1 h5 with h | h
  · have := h2 _ h
    split <;> omega
  · have := h4 _ h
    split <;> omega
theorem last_app {l m : List Int} (hm : 0 < m.length) : lastV (l ++ m) = lastV m := by
  unfold lastV
  rw [List.getD_eq_getElem?_getD, List.getD_eq_getElem?_getD, List.length_append, List.getElem?_append_right (by omega)]
  congr 2
  omega
theorem last_mem {l : List Int} (h : 0 < l.length) : lastV l ∈ l := by
  unfold lastV
  rw [List.getD_eq_getElem?_getD, List.getElem?_eq_getElem (show l.length - 1 < l.length by omega)]
  exact List.getElem_mem _
def vsOf (l : List Sm) : List Int := l.map (·.2)
theorem vs_length (l : List Sm) : (vsOf l).length = l.length := List.length_map _
theorem vs_app (l m : List Sm) : vsOf (l ++ m) = vsOf l ++ vsOf m := List.map_append
def ofV (v : List Int) : Ag := ⟨(v.length : Int), if fits (tot v) = true then tot v else 0, least v, great v, lastV v, !fits (tot v)⟩
def agOf (l : List Sm) : Ag := ofV (vsOf l)
theorem of_none : ofV [] = zeroA := rfl
def joinOf (a b : Ag) : Ag :=
  if a.c = 0 then b else if b.c = 0 then a else
    ⟨a.c + b.c, if (a.o || b.o || !fits (a.s + b.s)) = true then 0 else a.s + b.s, if b.n < a.n then b.n else a.n, if a.x < b.x then b.x else a.x, b.l, a.o || b.o || !fits (a.s + b.s)⟩
theorem join_none_left (b : Ag) : joinOf zeroA b = b := rfl
/-- joined it is of both: count, least, greatest, last always -/
theorem join_of (v u : List Int) : (joinOf (ofV v) (ofV u)).c = (ofV (v ++ u)).c ∧ (joinOf (ofV v) (ofV u)).n = (ofV (v ++ u)).n ∧ (joinOf (ofV v) (ofV u)).x = (ofV (v ++ u)).x ∧ (joinOf (ofV v) (ofV u)).l = (ofV (v ++ u)).l ∧
    (((ofV v).o || (ofV u).o) = true → (joinOf (ofV v) (ofV u)).o = true ∧ (joinOf (ofV v) (ofV u)).s = 0) ∧ ((ofV v).o = false → (ofV u).o = false → joinOf (ofV v) (ofV u) = ofV (v ++ u)) := by
  rcases Nat.eq_zero_or_pos v.length with h1 | h1
  · obtain rfl := List.eq_nil_of_length_eq_zero h1
    rw [of_none, join_none_left, List.nil_append]
    refine ⟨rfl, rfl, rfl, rfl, fun h => ?_, fun _ _ => rfl⟩
    have h' : (ofV u).o = true := by simpa [zeroA] using h
    refine ⟨h', ?_⟩
    unfold ofV at h' ⊢
    simp only [Bool.not_eq_true'] at h'
    simp [h']
  · rcases Nat.eq_zero_or_pos u.length with h2 | h2
    · obtain rfl := List.eq_nil_of_length_eq_zero h2
      have e : joinOf (ofV v) (ofV []) = ofV v := by
        unfold joinOf
        rw [if_neg (show ¬ (ofV v).c = 0 by show ¬ ((v.length : Int) = 0); omega), if_pos (show (ofV []).c = 0 from rfl)]
      rw [e, List.append_nil]
      refine ⟨rfl, rfl, rfl, rfl, fun h => ?_, fun _ _ => rfl⟩
      have h' : (ofV v).o = true := by simpa [of_none, zeroA] using h
      refine ⟨h', ?_⟩
      unfold ofV at h' ⊢
      simp only [Bool.not_eq_true'] at h'
      simp [h']
    · have e : joinOf (ofV v) (ofV u) = ⟨(v.length : Int) + (u.length : Int), if ((ofV v).o || (ofV u).o || !fits ((ofV v).s + (ofV u).s)) = true then 0 else (ofV v).s + (ofV u).s, if least u < least v then least u else least v, if great v < great u then great u else great v, lastV u, (ofV v).o || (ofV u).o || !fits ((ofV v).s + (ofV u).s)⟩ := by
        unfold joinOf
        rw [if_neg (show ¬ (ofV v).c = 0 by show ¬ ((v.length : Int) = 0); omega), if_neg (show ¬ (ofV u).c = 0 by show ¬ ((u.length : Int) = 0); omega)]
        rfl
      rw [e]
      refine ⟨by show _ = ((v ++ u).length : Int); rw [List.length_append]; simp, (least_app h1 h2).symm, (great_app h1 h2).symm, (last_app h2).symm, fun h => ?_, fun h3 h4 => ?_⟩
      · simp only [h, Bool.true_or]
        exact ⟨trivial, if_pos trivial⟩
      · have f3 : fits (tot v) = true := by unfold ofV at h3; simpa using h3
        have f4 : fits (tot u) = true := by unfold ofV at h4; simpa using h4
        have s3 : (ofV v).s = tot v := by unfold ofV; rw [if_pos f3]
        have s4 : (ofV u).s = tot u := by unfold ofV; rw [if_pos f4]
        rw [h3, h4, s3, s4]
        unfold ofV
        rw [least_app h1 h2, great_app h1 h2, last_app h2, tot_app, List.length_append]
        simp only [Bool.false_or]
        congr 1
        cases fits (tot v + tot u) <;> rfl
theorem of_over {v : List Int} (h : (ofV v).o = true) : 0 < v.length ∧ (ofV v).s = 0 := by
  have h' : fits (tot v) = false := by unfold ofV at h; simpa using h
  refine ⟨?_, by unfold ofV; rw [h']; rfl⟩
  rcases Nat.eq_zero_or_pos v.length with h1 | h1
  · obtain rfl := List.eq_nil_of_length_eq_zero h1
    rw [show tot [] = 0 from rfl] at h'
    exact absurd h' (by decide)
  · exact h1
/-- what is wanted -/
def bit (want : Int) (i : Nat) : Bool := decide (want / 2 ^ i % 2 = 1)
def field (a : Ag) (i : Nat) : Int := [a.c, a.s, a.n, a.x, a.l].getD i 0
def putN (a : Ag) (want : Int) (n : Nat) : List UInt8 := ((List.range n).filter (bit want)).flatMap fun i => be 8 (tw (field a i))
theorem putN_next (a : Ag) (want : Int) (n : Nat) : putN a want (n + 1) = if bit want n = true then putN a want n ++ be 8 (tw (field a n)) else putN a want n := by
  unfold putN
  rw [List.range_succ, List.filter_append, List.flatMap_append]
  split
  · rename_i h; rw [List.filter_cons_of_pos h]; simp
  · rename_i h; rw [List.filter_cons_of_neg h]; simp
theorem putN_length (a : Ag) (want : Int) (n : Nat) : (putN a want n).length ≤ 8 * n := by
  induction n with
  | zero => simp [putN]
  | succ n ih =>
    rw [putN_next]
    split
    · rw [List.length_append, be_length]; omega
    · omega
def putErr (a : Ag) (want : Int) : Int := if inn want 1 31 = true then (if (bit want 1 && a.o) = true then 9 else 0) else 1
def putOut (a : Ag) (want : Int) : List UInt8 := if putErr a want = 0 then putN a want 5 else []
def over4 : List UInt8 := [111, 118, 101, 114]
def sumText (a : Ag) : List UInt8 := if a.o = true then over4 else Lib.itoa a.s
def textOf (a : Ag) : List UInt8 := [99, 111, 117, 110, 116, 32] ++ Lib.itoa a.c ++ [32, 115, 117, 109, 32] ++ sumText a ++ [32, 109, 105, 110, 32] ++ Lib.itoa a.n ++ [32, 109, 97, 120, 32] ++ Lib.itoa a.x ++ [32, 108, 97, 115, 116, 32] ++ Lib.itoa a.l
/-- its six cells -/
def a6 (q : Ag) : Array Value := #[.int .i64 q.c, .int .i64 q.s, .int .i64 q.n, .int .i64 q.x, .int .i64 q.l, .bool q.o]
theorem a6_one (q : Ag) : (#[Value.int .i64 q.c, .int .i64 q.s, .int .i64 q.n, .int .i64 q.x, .int .i64 q.l, .bool q.o] : Array Value).all (·.oneCell') = true := by
  rw [Array.all_eq_true_iff_forall_mem]
  intro v hv
  simp only [List.mem_toArray, List.mem_cons, List.not_mem_nil, or_false] at hv
  rcases hv with rfl | rfl | rfl | rfl | rfl | rfl
  all_goals rfl
/-- an Agg in a block of its own -/
structure Bx (t : TypeId) (W : World) (g : Nat) (q : Ag) : Prop where
  heap : W.heap[g]? = some (.cells #[.int .i64 q.c, .int .i64 q.s, .int .i64 q.n, .int .i64 q.x, .int .i64 q.l, .bool q.o] t (0, 0))
theorem Bx.fr0 {t : TypeId} {W W' : World} {g : Nat} {q : Ag} (h : Bx t W g q) (hf : Fr0 W W') : Bx t W' g q := ⟨hf.heap h.heap (fun f => f)⟩
theorem Bx.new (t : TypeId) (w : World) (q : Ag) : Bx t (w.alloc (.cells #[.int .i64 q.c, .int .i64 q.s, .int .i64 q.n, .int .i64 q.x, .int .i64 q.l, .bool q.o] t)) w.heap.size q := ⟨heap_alloc_new w _⟩
theorem Bx.cells {t : TypeId} {W : World} {g : Nat} {q : Ag} (h : Bx t W g q) : W.cell? ⟨g, 0, none⟩ = some (.int .i64 q.c) ∧ W.cell? ⟨g, 1, none⟩ = some (.int .i64 q.s) ∧ W.cell? ⟨g, 2, none⟩ = some (.int .i64 q.n) ∧ W.cell? ⟨g, 3, none⟩ = some (.int .i64 q.x) ∧ W.cell? ⟨g, 4, none⟩ = some (.int .i64 q.l) ∧ W.cell? ⟨g, 5, none⟩ = some (.bool q.o) := by
  refine ⟨?_, ?_, ?_, ?_, ?_, ?_⟩
  all_goals rw [cell_of_row _ _ _ _ _ _ h.heap]; rfl
/-- .. told as a row -/
def qf (q : Ag) (k : Nat) : Value := (a6 q).getD k undef
theorem Bx.row {t : TypeId} {W : World} {g : Nat} {q : Ag} (h : Bx t W g q) : W.rowIs g t 6 (qf q) := rowIs_of_cells h.heap rfl (fun i hi => by
  match i, hi with
  | 0, _ => rfl
  | 1, _ => rfl
  | 2, _ => rfl
  | 3, _ => rfl
  | 4, _ => rfl
  | 5, _ => rfl)
theorem Bx.of_row {t : TypeId} {W : World} {g : Nat} {q : Ag} {f : Nat → Value} (h : W.rowIs g t 6 f) (hf : ∀ i, i < 6 → f i = qf q i) : Bx t W g q := by
  refine ⟨(row_cells h).trans ?_⟩
  have e : (List.range 6).map f = (a6 q).toList := by
    show [f 0, f 1, f 2, f 3, f 4, f 5] = _
    rw [hf 0 (by decide), hf 1 (by decide), hf 2 (by decide), hf 3 (by decide), hf 4 (by decide), hf 5 (by decide)]
    rfl
  rw [e]
  rfl
theorem Bx.set {t : TypeId} {W : World} {g : Nat} {q : Ag} (h : Bx t W g q) (k : Nat) (v : Value) (q' : Ag) (hf : ∀ i, i < 6 → (if i = k then v else qf q i) = qf q' i) : Bx t (W.setCell ⟨g, k, none⟩ v) g q' := Bx.of_row (h.row.set k v) hf
theorem Bx.setRow {t : TypeId} {W : World} {g : Nat} {q : Ag} (h : Bx t W g q) (q' : Ag) : Bx t (W.setRow g #[.int .i64 q'.c, .int .i64 q'.s, .int .i64 q'.n, .int .i64 q'.x, .int .i64 q'.l, .bool q'.o]) g q' := ⟨setRow_heap W g _ _ _ _ h.heap⟩
theorem Bx.otherRow {t : TypeId} {W : World} {g b : Nat} {q : Ag} (h : Bx t W g q) (hne : g ≠ b) (c : Array Value) : Bx t (W.setRow b c) g q := Bx.of_row (rowIs_setRow_other h.row c hne) (fun _ _ => rfl)
theorem Bx.otherCell {t : TypeId} {W : World} {g b : Nat} {q : Ag} (h : Bx t W g q) (hne : g ≠ b) (k : Nat) (v : Value) : Bx t (W.setCell ⟨b, k, none⟩ v) g q := Bx.of_row (World.rowIs.setOther h.row (a := ⟨b, k, none⟩) hne v) (fun _ _ => rfl)
theorem Bx.lt {t : TypeId} {W : World} {g : Nat} {q : Ag} (h : Bx t W g q) : g < W.heap.size := h.row.lt
theorem Bx.thaw {t : TypeId} {W : World} {g : Nat} {q : Ag} (h : Bx t W g q) (i : Nat) : W.frozen? ⟨g, i, none⟩ = false := h.row.frozen i
/-- what a function tells whose result lies in a cell -/
theorem res1 {P : Program} {fn : Func} {p : Tmp} {t : TypeId} {d : TypeDesc} (h : fn.results = #[.cell p t]) (hu : P.underlying t = some d) (hd : (match d with | .struct _ | .array _ _ => true | _ => false) = true) (hi : (P.info? t).map (·.size) = some 6) (tmps : Array Value) {w : World} {g : Nat} {q : Ag} (hp : tmps.getD p undef = .pointer (some ⟨g, 0, none⟩)) (hg : Bx t w g q) :
    (results fn tmps).run P w = .ok (.agg (a6 q)) w := by
  have hp' : tmps[p]?.getD undef = .pointer (some ⟨g, 0, none⟩) := by simpa using hp
  simp [results, h, hp', asAddr, run_loadVar_row w g t t _ (0, 0) d hg.heap hu hd hi, a6]
theorem res2 {P : Program} {fn : Func} {p u : Tmp} {t : TypeId} {d : TypeDesc} (h : fn.results = #[.cell p t, .tmp u]) (hu : P.underlying t = some d) (hd : (match d with | .struct _ | .array _ _ => true | _ => false) = true) (hi : (P.info? t).map (·.size) = some 6) (tmps : Array Value) {w : World} {g : Nat} {q : Ag} (v : Value) (hp : tmps.getD p undef = .pointer (some ⟨g, 0, none⟩)) (hv : tmps.getD u undef = v) (hg : Bx t w g q) :
    (results fn tmps).run P w = .ok (.tuple #[.agg (a6 q), v]) w := by
  have hp' : tmps[p]?.getD undef = .pointer (some ⟨g, 0, none⟩) := by simpa using hp
  have hq' : tmps[u]?.getD undef = v := by simpa using hv
  simp [results, h, hp', hq', asAddr, run_loadVar_row w g t t _ (0, 0) d hg.heap hu hd hi, a6]
end Go.Proofs.Ytbbmjkligiglmaa.Agg
