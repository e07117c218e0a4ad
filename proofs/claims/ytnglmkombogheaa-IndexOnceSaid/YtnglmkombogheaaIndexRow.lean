/-
  The rows of an index in cells, the keys that an ord keeps of them, an entry in a block of its own. No program stands here.
-/
import Derived.Test.YtnglmkombogheaaIndexMem
namespace Go.Proofs.Ytnglmkombogheaa.Index
open Go.RowKit Base
open _root_.Go.Proofs.Ytnglmkombogheaa.Ord (Ent Sorted Mine OrdIn setCells_at fr_setCells owns_heap owns_fr)

theorem gap_raw (e : En) : e.k.toList.isEmpty = gap e := by
  rw [Lib.toList_data, Bool.eq_iff_iff, List.isEmpty_iff, gap_iff]
  exact ⟨fun h => ByteArray.ext (Array.ext' h), fun h => by rw [h]⟩
/-! how many are there -/
def cnt (L : List En) : Nat := L.countP fun e => !gap e
theorem cnt_le (L : List En) : cnt L ≤ L.length := List.countP_le_length
theorem cnt_app (L : List En) (e : En) (he : gap e = false) : cnt (L ++ [e]) = cnt L + 1 := by
  unfold cnt
  rw [List.countP_append]
  simp [he]
theorem cnt_set (L : List En) (i : Nat) (e : En) (hi : i < L.length) : cnt (L.set i e) + (if gap (L.getD i zeroE) = true then 0 else 1) = cnt L + (if gap e = true then 0 else 1) := by
  induction L generalizing i with
  | nil => simp at hi
  | cons x L ih =>
    cases i with
    | zero =>
      simp only [List.set_cons_zero, cnt, List.countP_cons, List.getD_cons_zero]
      cases gap x <;> cases gap e <;> simp <;> omega
    | succ i =>
      have := ih i (by simpa using hi)
      simp only [List.set_cons_succ, cnt, List.countP_cons, List.getD_cons_succ] at *
      omega
theorem cnt_trim : ∀ L, cnt (trim L) = cnt L
  | [] => rfl
  | e :: L => by
    have ih := cnt_trim L
    unfold trim
    split
    · rename_i h
      rw [Bool.and_eq_true] at h
      have h1 : trim L = [] := List.isEmpty_iff.1 h.1
      rw [h1] at ih
      simp only [cnt, List.countP_cons, h.2] at *
      simpa using ih
    · simp only [cnt, List.countP_cons] at *
      omega
theorem cnt_full {L : List En} : cnt L = L.length ↔ least L = L.length := by
  unfold cnt
  rw [List.countP_eq_length]
  constructor
  · intro h
    rcases Nat.lt_or_ge (least L) L.length with h1 | h1
    · have h2 := least_at h1
      have h3 := h _ (List.getElem_mem h1)
      rw [List.getD_eq_getElem?_getD, List.getElem?_eq_getElem h1] at h2
      simp only [Option.getD_some] at h2
      rw [h2] at h3
      cases h3
    · have := least_le L; omega
  · intro h e he
    obtain ⟨j, hj, rfl⟩ := List.getElem_of_mem he
    have := least_before (L := L) (j := j) (by omega)
    rw [List.getD_eq_getElem?_getD, List.getElem?_eq_getElem hj] at this
    simp only [Option.getD_some] at this
    rw [this]
    rfl
/-- no room: all rows are taken -/
theorem full_iff {L : List En} (h : L.length ≤ 4096) : 4096 ≤ cnt L ↔ 4096 ≤ least L := by
  have h1 := cnt_le L
  have h2 := least_le L
  have h3 := @cnt_full L
  constructor
  · intro h4
    have := h3.1 (by omega)
    omega
  · intro h4
    have := h3.2 (by omega)
    omega

/-! the cells -/
def ecells (L : List En) : List Value := L.flatMap fun e => (e5 e).toList
theorem ecells_length (L : List En) : (ecells L).length = L.length * 5 := by
  induction L with
  | nil => rfl
  | cons p L ih =>
    simp only [ecells, List.flatMap_cons, List.length_append, List.length_cons] at *
    rw [ih]
    show 5 + _ = _
    omega
theorem ecells_append (X Y : List En) : ecells (X ++ Y) = ecells X ++ ecells Y := by simp [ecells]
theorem ecells_single (e : En) : ecells [e] = (e5 e).toList := by simp [ecells]
theorem ecells_one (L : List En) : ∀ u ∈ ecells L, u.oneCell' = true := by
  intro u hu
  simp only [ecells, List.mem_flatMap] at hu
  obtain ⟨e, _, h⟩ := hu
  exact e5_one e u h
/-- cell j of them -/
def cellE (L : List En) (j : Nat) : Value := (e5 (L.getD (j / 5) zeroE)).getD (j % 5) undef
theorem ecells_get (L : List En) (j : Nat) (h : j < L.length * 5) : (ecells L)[j]? = some (cellE L j) := by
  induction L generalizing j with
  | nil => simp at h
  | cons p X ih =>
    have e : ecells (p :: X) = (e5 p).toList ++ ecells X := by simp [ecells]
    have hl : ((e5 p).toList).length = 5 := rfl
    rw [e]
    rcases Nat.lt_or_ge j 5 with h1 | h1
    · rw [List.getElem?_append_left (by rw [hl]; exact h1)]
      match j, h1 with
      | 0, _ => rfl
      | 1, _ => rfl
      | 2, _ => rfl
      | 3, _ => rfl
      | 4, _ => rfl
    · rw [List.getElem?_append_right (by rw [hl]; exact h1), hl, ih (j - 5) (by simp at h; omega)]
      unfold cellE
      rw [show j / 5 = (j - 5) / 5 + 1 by omega, show j % 5 = (j - 5) % 5 by omega]
      rfl
theorem cellE_at (L : List En) (i k : Nat) (hk : k < 5) : cellE L (i * 5 + k) = (e5 (L.getD i zeroE)).getD k undef := by
  unfold cellE
  rw [show (i * 5 + k) / 5 = i by omega, show (i * 5 + k) % 5 = k by omega]
theorem ecells_ext {L : List En} {xs : List Value} (hl : xs.length = L.length * 5) (h : ∀ j, j < L.length * 5 → xs[j]? = some (cellE L j)) : ecells L = xs := by
  apply List.ext_getElem?
  intro j
  rcases Nat.lt_or_ge j (L.length * 5) with h1 | h1
  · rw [ecells_get L j h1, h j h1]
  · rw [List.getElem?_eq_none (by rw [ecells_length]; exact h1), List.getElem?_eq_none (by omega)]
theorem ecells_take (L : List En) (n : Nat) (hn : n ≤ L.length) : ecells (L.take n) = (ecells L).take (n * 5) := by
  have hl := ecells_length L
  refine ecells_ext (by rw [List.length_take, List.length_take, hl]; omega) fun j hj => ?_
  rw [List.length_take] at hj
  rw [List.getElem?_take, if_pos (by omega), ecells_get L j (by omega)]
  unfold cellE
  rw [getD_take, if_pos (by omega)]
/-- a row is stored over -/
theorem ecells_set (L : List En) (i : Nat) (e : En) (hi : i < L.length) : ecells (L.set i e) = (ecells L).take (i * 5) ++ (e5 e).toList ++ (ecells L).drop (i * 5 + 5) := by
  have hl := ecells_length L
  have h5 : (e5 e).toList.length = 5 := rfl
  refine ecells_ext (by rw [List.length_append, List.length_append, List.length_take, List.length_drop, List.length_set, hl, h5]; omega) fun j hj => ?_
  rw [List.length_set] at hj
  unfold cellE
  rw [getD_set]
  rcases Nat.lt_or_ge j (i * 5) with h1 | h1
  · rw [List.append_assoc, List.getElem?_append_left (by rw [List.length_take, hl]; omega), List.getElem?_take, if_pos h1, ecells_get L j hj, if_neg (by omega)]
    rfl
  · rcases Nat.lt_or_ge j (i * 5 + 5) with h2 | h2
    · rw [List.getElem?_append_left (by rw [List.length_append, List.length_take, hl, h5]; omega), List.getElem?_append_right (by rw [List.length_take, hl]; omega), List.length_take, hl, if_pos (by omega)]
      obtain ⟨k, rfl⟩ : ∃ k, j = i * 5 + k := ⟨j - i * 5, by omega⟩
      rw [show i * 5 + k - min (i * 5) (L.length * 5) = k by omega, show (i * 5 + k) % 5 = k by omega]
      have hk : k < 5 := by omega
      match k, hk with
      | 0, _ => rfl
      | 1, _ => rfl
      | 2, _ => rfl
      | 3, _ => rfl
      | 4, _ => rfl
    · rw [List.getElem?_append_right (by rw [List.length_append, List.length_take, hl, h5]; omega), List.length_append, List.length_take, hl, h5, List.getElem?_drop, if_neg (by omega),
        show i * 5 + 5 + (j - (min (i * 5) (L.length * 5) + 5)) = j by omega, ecells_get L j hj]
      rfl
/-- a row is marked -/
theorem ecells_mark (L : List En) (i : Nat) (b : Bool) (hi : i < L.length) : ecells (L.set i { L.getD i zeroE with u := b }) = (ecells L).take (i * 5 + 4) ++ [Value.bool b] ++ (ecells L).drop (i * 5 + 5) := by
  have hl := ecells_length L
  refine ecells_ext (by rw [List.length_append, List.length_append, List.length_take, List.length_drop, List.length_set, hl, List.length_singleton]; omega) fun j hj => ?_
  rw [List.length_set] at hj
  unfold cellE
  rw [getD_set]
  rcases Nat.lt_or_ge j (i * 5 + 4) with h1 | h1
  · rw [List.append_assoc, List.getElem?_append_left (by rw [List.length_take, hl]; omega), List.getElem?_take, if_pos h1, ecells_get L j hj]
    unfold cellE
    by_cases h2 : j / 5 = i ∧ i < L.length
    · rw [if_pos h2, h2.1]
      obtain ⟨k, rfl⟩ : ∃ k, j = i * 5 + k := ⟨j - i * 5, by omega⟩
      rw [show (i * 5 + k) % 5 = k by omega]
      have hk : k < 4 := by omega
      match k, hk with
      | 0, _ => rfl
      | 1, _ => rfl
      | 2, _ => rfl
      | 3, _ => rfl
    · rw [if_neg h2]
  · rcases Nat.lt_or_ge j (i * 5 + 5) with h2 | h2
    · obtain rfl : j = i * 5 + 4 := by omega
      rw [List.getElem?_append_left (by rw [List.length_append, List.length_take, hl, List.length_singleton]; omega), List.getElem?_append_right (by rw [List.length_take, hl]; omega), List.length_take, hl, if_pos (by omega),
        show i * 5 + 4 - min (i * 5 + 4) (L.length * 5) = 0 by omega, show (i * 5 + 4) % 5 = 4 by omega]
      rfl
    · rw [List.getElem?_append_right (by rw [List.length_append, List.length_take, hl, List.length_singleton]; omega), List.length_append, List.length_take, hl, List.length_singleton, List.getElem?_drop, if_neg (by omega),
        show i * 5 + 5 + (j - (min (i * 5 + 4) (L.length * 5) + 1)) = j by omega, ecells_get L j hj]
      rfl

/-! a row of one's own is stored into, and is cut -/
theorem owns_store {w : World} {base : Nat} {e : TypeId} {size b n C : Nat} {xs : List Value} (h : w.ownsRow base e size (.slice (some ⟨b, 0, none⟩) n C) n xs) (o : Nat) (vs : List Value) (ho : o + vs.length ≤ n * size) :
    (w.setCells b o vs).ownsRow base e size (.slice (some ⟨b, 0, none⟩) n C) n (xs.take o ++ vs ++ xs.drop (o + vs.length)) := by
  obtain ⟨hl, hx⟩ := h
  rcases hx with ⟨hx, _⟩ | ⟨g, cap, cur, hv, hb, hg, hc, hm, hs, ht⟩
  · cases hx
  · cases hv
    have hfit : n * size ≤ C * size := Nat.mul_le_mul_right _ hc
    obtain ⟨cs', h1, h2, h3⟩ := setCells_at vs o w cur hg (by omega)
    refine ⟨by rw [List.length_append, List.length_append, List.length_take, List.length_drop, hl]; omega, .inr ⟨b, C, cs', rfl, hb, h1, hc, hm, by rw [h2]; exact hs, ?_⟩⟩
    apply List.ext_getElem?
    intro j
    have hcj : ∀ j, j < n * size → xs[j]? = cur[j]? := fun j hj => by
      rw [← ht, List.getElem?_take, if_pos hj]; simp
    rcases Nat.lt_or_ge j (n * size) with hj | hj
    · rw [List.getElem?_take, if_pos hj, Array.getElem?_toList, h3 j]
      rcases Nat.lt_or_ge j o with k1 | k1
      · rw [if_neg (by omega), List.append_assoc, List.getElem?_append_left (by rw [List.length_take, hl]; omega), List.getElem?_take, if_pos k1, hcj j hj]
      · rcases Nat.lt_or_ge j (o + vs.length) with k2 | k2
        · rw [if_pos ⟨k1, k2⟩, List.getElem?_append_left (by rw [List.length_append, List.length_take, hl]; omega), List.getElem?_append_right (by rw [List.length_take, hl]; omega), List.length_take, hl, show min o (n * size) = o by omega]
        · rw [if_neg (by omega), List.getElem?_append_right (by rw [List.length_append, List.length_take, hl]; omega), List.length_append, List.length_take, hl, List.getElem?_drop, show o + vs.length + (j - (min o (n * size) + vs.length)) = j by omega, hcj j hj]
    · rw [List.getElem?_eq_none (by rw [List.length_take]; omega), List.getElem?_eq_none (by rw [List.length_append, List.length_append, List.length_take, List.length_drop, hl]; omega)]
theorem owns_cut {w : World} {base : Nat} {e : TypeId} {size n m C : Nat} {A : Option Addr} {xs : List Value} (h : w.ownsRow base e size (.slice A n C) n xs) (hm : m ≤ n) : w.ownsRow base e size (.slice A m C) m (xs.take (m * size)) := by
  obtain ⟨hl, hx⟩ := h
  have hfit : m * size ≤ n * size := Nat.mul_le_mul_right _ hm
  refine ⟨by rw [List.length_take, hl]; omega, ?_⟩
  rcases hx with ⟨hx, h0⟩ | ⟨g, cap, cur, hv, hb, hg, hc, hmx, hs, ht⟩
  · cases hx
    obtain rfl : m = 0 := by omega
    exact .inl ⟨rfl, rfl⟩
  · cases hv
    refine .inr ⟨g, C, cur, rfl, hb, hg, by omega, hmx, hs, ?_⟩
    rw [← ht, List.take_take, show min (m * size) (n * size) = m * size by omega]

/-! the keys -/
structure Keys (es : List Ent) (L : List En) : Prop where
  len : es.length = cnt L
  mem : ∀ nm v, (nm, v) ∈ es ↔ ∃ i, i < L.length ∧ gap (L.getD i zeroE) = false ∧ (L.getD i zeroE).k = nm ∧ v = .int .i64 (i : Int)
theorem keys_nil : Keys [] [] := ⟨rfl, fun nm v => ⟨fun h => (by cases h), fun ⟨i, h, _⟩ => by simp at h⟩⟩
section
variable {es : List Ent} {L : List En}
theorem Keys.has (h : Keys es L) (hs : Sorted es) (ho : OkX L) (nm : ByteArray) : Ord.has nm es = hasX nm L := by
  rw [Bool.eq_iff_iff, hs.has_mem]
  constructor
  · rintro ⟨v, hv⟩
    obtain ⟨i, hi, hg, hk, -⟩ := (h.mem nm v).1 hv
    refine (ho.found hi hk fun e => ?_).1
    rw [gap_iff.2 (by rw [hk]; exact e)] at hg
    cases hg
  · intro hx
    obtain ⟨hn, hp⟩ := hasX_true.1 hx
    have hk := place_at hp
    refine ⟨_, (h.mem nm _).2 ⟨place nm L, hp, ?_, hk, rfl⟩⟩
    cases hgp : gap (L.getD (place nm L) zeroE) with
    | false => rfl
    | true => exact absurd (by rw [← hk]; exact gap_iff.1 hgp) hn
theorem Keys.val (h : Keys es L) (hs : Sorted es) {nm : ByteArray} (hx : hasX nm L = true) : es[Ord.place nm es]? = some (nm, .int .i64 (place nm L : Int)) := by
  obtain ⟨hn, hp⟩ := hasX_true.1 hx
  have hk := place_at hp
  have hm : (nm, Value.int .i64 (place nm L : Int)) ∈ es := (h.mem nm _).2 ⟨place nm L, hp, by
    cases hgp : gap (L.getD (place nm L) zeroE) with
    | false => rfl
    | true => exact absurd (by rw [← hk]; exact gap_iff.1 hgp) hn, hk, rfl⟩
  obtain ⟨j, hj⟩ := List.getElem?_of_mem hm
  exact hs.getAt hj
theorem mem_put_new {nm : ByteArray} {u : Value} (hh : Ord.has nm es = false) (e : Ent) : e ∈ Ord.put nm u es ↔ e = (nm, u) ∨ e ∈ es := by
  unfold Ord.put
  rw [hh]
  simp only [Bool.false_eq_true, if_false, List.mem_append, List.mem_cons]
  constructor
  · rintro (h | h | h)
    · exact .inr (List.mem_of_mem_take h)
    · exact .inl h
    · exact .inr (List.mem_of_mem_drop h)
  · rintro (h | h)
    · exact .inr (.inl h)
    · have h' := h
      rw [← List.take_append_drop (Ord.place nm es) es, List.mem_append] at h'
      rcases h' with h' | h'
      · exact .inl h'
      · exact .inr (.inr h')
theorem mem_drop_iff (hs : Sorted es) {nm : ByteArray} (e : Ent) : e ∈ Ord.drop nm es ↔ e ∈ es ∧ e.1 ≠ nm := by
  constructor
  · intro h
    refine ⟨Ord.mem_drop h, fun he => ?_⟩
    have h1 := Ord.has_drop hs (nm := nm)
    have h2 := ((Ord.sorted_drop hs (nm := nm)).has_mem nm).2 ⟨e.2, by subst he; exact h⟩
    rw [h1] at h2
    cases h2
  · rintro ⟨h, hne⟩
    obtain ⟨j, hj⟩ := List.getElem?_of_mem h
    exact List.mem_of_getElem? (Ord.drop_at hs hj hne)
/-- what an Add that is taken does -/
theorem add_zero {x : En} (h : addErr L x = 0) : gap x = false ∧ hasX x.k L = false ∧ least L < 4096 := by
  unfold addErr at h
  split at h
  · exact absurd h (by decide)
  · rename_i h1
    split at h
    · exact absurd h (by decide)
    · rename_i h2
      split at h
      · exact absurd h (by decide)
      · exact ⟨by simpa using h1, by simpa using h2, by omega⟩
theorem addSt_get {x : En} (h : addErr L x = 0) (j : Nat) : (addSt L x).getD j zeroE = if j = least L then x else L.getD j zeroE := by
  unfold addSt
  rw [if_pos h]
  have hle := least_le L
  split
  · rename_i hlt
    rw [getD_set]
    by_cases e : j = least L
    · rw [if_pos ⟨e, hlt⟩, if_pos e]
    · rw [if_neg (fun h => e h.1), if_neg e]
  · rename_i hlt
    rw [getD_app, show least L = L.length by omega]
theorem addSt_len {x : En} (h : addErr L x = 0) : (addSt L x).length = max L.length (least L + 1) := by
  unfold addSt
  rw [if_pos h]
  have hle := least_le L
  split
  · rw [List.length_set]; omega
  · rw [List.length_append, List.length_singleton]; omega
theorem cnt_addSt {x : En} (h : addErr L x = 0) : cnt (addSt L x) = cnt L + 1 := by
  obtain ⟨h1, -, -⟩ := add_zero h
  unfold addSt
  rw [if_pos h]
  split
  · rename_i hlt
    have h2 := cnt_set L (least L) x hlt
    rw [least_at hlt, h1] at h2
    simpa using h2
  · exact cnt_app L x h1
theorem least_gap (j : Nat) (h : j = least L) : gap (L.getD j zeroE) = true := by
  subst h
  rcases Nat.lt_or_ge (least L) L.length with h1 | h1
  · exact least_at h1
  · rw [List.getD_eq_getElem?_getD, List.getElem?_eq_none h1]; rfl
theorem Keys.add (h : Keys es L) (hs : Sorted es) (ho : OkX L) {x : En} (h0 : addErr L x = 0) : Keys (Ord.put x.k (.int .i64 (least L : Int)) es) (addSt L x) := by
  obtain ⟨h1, h2, h3⟩ := add_zero h0
  have hh : Ord.has x.k es = false := by rw [h.has hs ho]; exact h2
  refine ⟨?_, fun nm v => ?_⟩
  · rw [Ord.put_length, hh, cnt_addSt h0, h.len]; rfl
  · rw [mem_put_new hh, addSt_len h0]
    constructor
    · rintro (he | he)
      · cases he
        exact ⟨least L, by omega, by rw [addSt_get h0, if_pos rfl]; exact h1, by rw [addSt_get h0, if_pos rfl], rfl⟩
      · obtain ⟨i, hi, hg, hk, hv⟩ := (h.mem nm v).1 he
        have hne : i ≠ least L := fun e => by rw [least_gap i e] at hg; cases hg
        exact ⟨i, by omega, by rw [addSt_get h0, if_neg hne]; exact hg, by rw [addSt_get h0, if_neg hne]; exact hk, hv⟩
    · rintro ⟨i, hi, hg, hk, hv⟩
      rw [addSt_get h0] at hg hk
      by_cases e : i = least L
      · rw [if_pos e] at hk
        left
        rw [hv, e, ← hk]
      · rw [if_neg e] at hg hk
        right
        refine (h.mem nm v).2 ⟨i, ?_, hg, hk, hv⟩
        rcases Nat.lt_or_ge i L.length with h5 | h5
        · exact h5
        · rw [List.getD_eq_getElem?_getD, List.getElem?_eq_none h5] at hg
          cases hg
theorem Keys.mark (h : Keys es L) {i : Nat} (b : Bool) (hi : i < L.length) : Keys es (L.set i { L.getD i zeroE with u := b }) := by
  have hk : ∀ j, ((L.set i { L.getD i zeroE with u := b }).getD j zeroE).k = (L.getD j zeroE).k := fun j => by
    rw [getD_set]
    split
    · rename_i hx; rw [hx.1]
    · rfl
  have hg : ∀ j, gap ((L.set i { L.getD i zeroE with u := b }).getD j zeroE) = gap (L.getD j zeroE) := fun j => by unfold gap; rw [hk]
  refine ⟨?_, fun nm v => ?_⟩
  · have h1 := cnt_set L i { L.getD i zeroE with u := b } hi
    rw [show gap { L.getD i zeroE with u := b } = gap (L.getD i zeroE) from rfl] at h1
    rw [h.len]
    omega
  · rw [h.mem, List.length_set]
    constructor
    · rintro ⟨j, h1, h2, h3, h4⟩
      exact ⟨j, h1, by rw [hg]; exact h2, by rw [hk]; exact h3, h4⟩
    · rintro ⟨j, h1, h2, h3, h4⟩
      exact ⟨j, h1, by rw [← hg j]; exact h2, by rw [← hk j]; exact h3, h4⟩
theorem trim_get (L : List En) (hz : ∀ j, gap (L.getD j zeroE) = true → L.getD j zeroE = zeroE) (j : Nat) : (trim L).getD j zeroE = L.getD j zeroE := by
  obtain ⟨n, h1, h2, h3, h4⟩ := trim_pre L
  rw [h1, getD_take]
  split
  · rfl
  · exact (hz j (h3 j (by omega))).symm
theorem Keys.drop (h : Keys es L) (hs : Sorted es) (ho : OkX L) {i : Nat} (hi : i < L.length) (hg : gap (L.getD i zeroE) = false) : Keys (Ord.drop (L.getD i zeroE).k es) (trim (L.set i zeroE)) := by
  have hne : (L.getD i zeroE).k ≠ ⟨#[]⟩ := fun e => by rw [gap_iff.2 e] at hg; cases hg
  obtain ⟨hf, hp⟩ := ho.found hi rfl hne
  have hh : Ord.has (L.getD i zeroE).k es = true := by rw [h.has hs ho]; exact hf
  have hz : ∀ j, gap ((L.set i zeroE).getD j zeroE) = true → (L.set i zeroE).getD j zeroE = zeroE := fun j hj => by
    rw [getD_set] at hj ⊢
    split
    · rfl
    · rename_i hx; rw [if_neg hx] at hj; exact ho.zero j hj
  refine ⟨?_, fun nm v => ?_⟩
  · have h1 := cnt_set L i zeroE hi
    rw [hg, gap_zero] at h1
    rw [Ord.drop_length, hh, cnt_trim, h.len]
    simp only [if_true, Bool.false_eq_true, if_false] at h1 ⊢
    omega
  · rw [mem_drop_iff hs, h.mem]
    constructor
    · rintro ⟨⟨j, h1, h2, h3, h4⟩, h5⟩
      have hji : j ≠ i := fun e => h5 (by rw [← h3, e])
      have e1 : (trim (L.set i zeroE)).getD j zeroE = L.getD j zeroE := by
        rw [trim_get _ hz, getD_set, if_neg (fun x => hji x.1)]
      refine ⟨j, ?_, by rw [e1]; exact h2, by rw [e1]; exact h3, h4⟩
      rcases Nat.lt_or_ge j (trim (L.set i zeroE)).length with h6 | h6
      · exact h6
      · rw [List.getD_eq_getElem?_getD, List.getElem?_eq_none h6] at e1
        rw [← e1] at h2
        cases h2
    · rintro ⟨j, h1, h2, h3, h4⟩
      rw [trim_get _ hz, getD_set] at h2 h3
      by_cases e : j = i ∧ i < L.length
      · rw [if_pos e] at h2; cases h2
      · rw [if_neg e] at h2 h3
        have hji : j ≠ i := fun x => e ⟨x, hi⟩
        have hj : j < L.length := by
          rcases Nat.lt_or_ge j L.length with h6 | h6
          · exact h6
          · rw [List.getD_eq_getElem?_getD, List.getElem?_eq_none h6] at h2; cases h2
        refine ⟨⟨j, hj, h2, h3, h4⟩, fun x => hji ?_⟩
        exact ho.once j i hj hi h2 (by rw [h3]; exact x)
end

/-! ords, and blocks of other kinds -/
theorem ordIn_kind {T E N : TypeId} {O S : Nat → Prop} {w w' : World} {g most : Nat} {es : List Ent} (h : OrdIn O w T E N g most es) (hf : Fr S w w') (hS : ∀ k, Mine w 0 T E N k → ¬ S k) : OrdIn O w' T E N g most es := by
  obtain ⟨v, ps, h1, h2, h3, h4, h5⟩ := h.row
  refine ⟨⟨v, ps, hf.heap h1 (hS g ⟨Nat.zero_le _, _, _, _, h1, .inl rfl⟩), owns_fr hf h2 (fun q hq => ?_), h3.fr hf (fun p hp => ?_), h4, h5⟩, h.hg, h.srt, h.le, h.big⟩
  · obtain ⟨hb, cs, hc⟩ := owns_heap h2 hq
    exact hS q ⟨hb, _, _, _, hc, .inr (.inl rfl)⟩
  · obtain ⟨cs, hc⟩ := h3.mem hp
    exact hS p ⟨Nat.zero_le _, _, _, _, hc, .inr (.inr rfl)⟩
/-- a block of another kind is none of an ord's -/
theorem not_mine {w : World} {B : Nat} {T E N t : TypeId} {k : Nat} {cs : Array Value} {fr : Nat × Nat} (h : w.heap[k]? = some (.cells cs t fr)) (ht : t ≠ T ∧ t ≠ E ∧ t ≠ N) : ¬ Mine w B T E N k := by
  rintro ⟨_, cs', t', fr', hx, hk⟩
  rw [h] at hx
  cases hx
  rcases hk with rfl | rfl | rfl
  · exact ht.1 rfl
  · exact ht.2.1 rfl
  · exact ht.2.2 rfl

/-! an entry in a block of its own -/
structure Bx (t : TypeId) (W : World) (g : Nat) (q : En) : Prop where
  heap : W.heap[g]? = some (.cells #[.string q.k, .string q.s, .int .i64 q.id, .int .i64 q.sz, .bool q.u] t (0, 0))
section
variable {t : TypeId} {W W' : World} {g : Nat} {q : En}
theorem Bx.fr {S : Nat → Prop} (h : Bx t W g q) (hf : Fr S W W') (hs : ¬ S g) : Bx t W' g q := ⟨hf.heap h.heap hs⟩
theorem Bx.fr0 (h : Bx t W g q) (hf : Fr0 W W') : Bx t W' g q := ⟨hf.heap h.heap (fun f => f)⟩
theorem Bx.new (t : TypeId) (w : World) (q : En) : Bx t (w.alloc (.cells #[.string q.k, .string q.s, .int .i64 q.id, .int .i64 q.sz, .bool q.u] t)) w.heap.size q := ⟨heap_alloc_new w _⟩
theorem Bx.cells (h : Bx t W g q) : W.cell? ⟨g, 0, none⟩ = some (.string q.k) ∧ W.cell? ⟨g, 1, none⟩ = some (.string q.s) ∧ W.cell? ⟨g, 2, none⟩ = some (.int .i64 q.id) ∧ W.cell? ⟨g, 3, none⟩ = some (.int .i64 q.sz) ∧ W.cell? ⟨g, 4, none⟩ = some (.bool q.u) := by
  refine ⟨?_, ?_, ?_, ?_, ?_⟩
  all_goals rw [cell_of_row _ _ _ _ _ _ h.heap]; rfl
theorem Bx.lt (h : Bx t W g q) : g < W.heap.size := (Array.getElem?_eq_some_iff.1 h.heap).1
theorem Bx.thaw (h : Bx t W g q) (i : Nat) : W.frozen? ⟨g, i, none⟩ = false := by simp [World.frozen?, h.heap]
theorem Bx.setRow (h : Bx t W g q) (q' : En) : Bx t (W.setRow g #[.string q'.k, .string q'.s, .int .i64 q'.id, .int .i64 q'.sz, .bool q'.u]) g q' := ⟨setRow_heap W g _ _ _ _ h.heap⟩
/-- what stood there is stored there -/
theorem Bx.same (h : Bx t W g q) (k : Nat) (v : Value) (hv : (#[.string q.k, .string q.s, .int .i64 q.id, .int .i64 q.sz, .bool q.u] : Array Value).setIfInBounds k v = #[.string q.k, .string q.s, .int .i64 q.id, .int .i64 q.sz, .bool q.u]) : Bx t (W.setCell ⟨g, k, none⟩ v) g q :=
  ⟨(Ord.heap_setCell h.heap v).trans (by rw [hv])⟩
theorem e5_all (q : En) : (#[Value.string q.k, .string q.s, .int .i64 q.id, .int .i64 q.sz, .bool q.u] : Array Value).all (·.oneCell') = true := by
  rw [Array.all_eq_true_iff_forall_mem]
  intro v hv
  simp only [List.mem_toArray, List.mem_cons, List.not_mem_nil, or_false] at hv
  rcases hv with rfl | rfl | rfl | rfl | rfl <;> rfl
end
/-- what a function tells whose result lies in a cell -/
theorem res2 {P : Program} {fn : Func} {p u : Tmp} {t : TypeId} {d : TypeDesc} (h : fn.results = #[.cell p t, .tmp u]) (hu : P.underlying t = some d) (hd : (match d with | .struct _ | .array _ _ => true | _ => false) = true) (hi : (P.info? t).map (·.size) = some 5) (tmps : Array Value) {w : World} {g : Nat} {q : En} (v : Value) (hp : tmps.getD p undef = .pointer (some ⟨g, 0, none⟩))
    (hv : tmps.getD u undef = v) (hg : Bx t w g q) : (results fn tmps).run P w = .ok (.tuple #[.agg (e5 q), v]) w := by
  have hp' : tmps[p]?.getD undef = .pointer (some ⟨g, 0, none⟩) := by simpa using hp
  have hq' : tmps[u]?.getD undef = v := by simpa using hv
  simp [results, h, hp', hq', asAddr, run_loadVar_row w g t t _ (0, 0) d hg.heap hu hd hi, e5]
end Go.Proofs.Ytnglmkombogheaa.Index
