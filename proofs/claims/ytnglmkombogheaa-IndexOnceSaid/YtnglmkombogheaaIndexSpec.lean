/-
  An index: rows of entries, an empty key for a row that is empty. No program stands here.
-/
import Derived.Test.YtnglmkombogheaaGround
namespace Go.Proofs.Ytnglmkombogheaa.Index
open Go.RowKit Base

/-- key, series, ID, size, used -/
structure En where
  k : ByteArray
  s : ByteArray
  id : Int
  sz : Int
  u : Bool
def zeroE : En := ⟨⟨#[]⟩, ⟨#[]⟩, 0, 0, false⟩
instance : Inhabited En := ⟨zeroE⟩
/-- its five cells -/
def e5 (e : En) : Array Value := #[.string e.k, .string e.s, .int .i64 e.id, .int .i64 e.sz, .bool e.u]
/-- a row that is empty -/
def gap (e : En) : Bool := decide (e.k = ⟨#[]⟩)
theorem gap_zero : gap zeroE = true := rfl
theorem gap_iff {e : En} : gap e = true ↔ e.k = ⟨#[]⟩ := by unfold gap; exact decide_eq_true_iff
/-- where a key stands: behind all, if nowhere -/
def place (k : ByteArray) : List En → Nat
  | [] => 0
  | e :: L => if e.k = k then 0 else place k L + 1
def hasX (k : ByteArray) (L : List En) : Bool := decide (k ≠ ⟨#[]⟩) && decide (place k L < L.length)
/-- the least row that is empty: behind all, if none -/
def least : List En → Nat
  | [] => 0
  | e :: L => if gap e = true then 0 else least L + 1
theorem place_le (k : ByteArray) : ∀ L, place k L ≤ L.length
  | [] => Nat.le_refl _
  | e :: L => by unfold place; split <;> simp [place_le k L]
theorem least_le : ∀ L, least L ≤ L.length
  | [] => Nat.le_refl _
  | e :: L => by unfold least; split <;> simp [least_le L]
theorem place_at {k : ByteArray} : ∀ {L : List En}, place k L < L.length → (L.getD (place k L) zeroE).k = k
  | [], h => by simp [place] at h
  | e :: L, h => by
    unfold place at h ⊢
    split
    · rename_i h1; simpa using h1
    · rename_i h1
      rw [if_neg h1] at h
      have := place_at (k := k) (L := L) (by simpa using h)
      simpa using this
theorem place_before {k : ByteArray} : ∀ {L : List En} {j : Nat}, j < place k L → (L.getD j zeroE).k ≠ k
  | [], j, h => by simp [place] at h
  | e :: L, 0, h => by
    unfold place at h
    split at h
    · omega
    · rename_i h1; simpa using h1
  | e :: L, j + 1, h => by
    unfold place at h
    split at h
    · omega
    · have := place_before (k := k) (L := L) (j := j) (by omega)
      simpa using this
theorem place_lt_iff {k : ByteArray} {L : List En} : place k L < L.length ↔ ∃ j, j < L.length ∧ (L.getD j zeroE).k = k := by
  constructor
  · intro h; exact ⟨_, h, place_at h⟩
  · rintro ⟨j, hj, h⟩
    have : ¬ j < place k L := fun h' => place_before h' h
    omega
theorem least_at : ∀ {L : List En}, least L < L.length → gap (L.getD (least L) zeroE) = true
  | [], h => by simp [least] at h
  | e :: L, h => by
    unfold least at h ⊢
    split
    · rename_i h1; simpa using h1
    · rename_i h1
      rw [if_neg h1] at h
      have := least_at (L := L) (by simpa using h)
      simpa using this
theorem least_before : ∀ {L : List En} {j : Nat}, j < least L → gap (L.getD j zeroE) = false
  | [], j, h => by simp [least] at h
  | e :: L, 0, h => by
    unfold least at h
    split at h
    · omega
    · rename_i h1; simpa using h1
  | e :: L, j + 1, h => by
    unfold least at h
    split at h
    · omega
    · have := least_before (L := L) (j := j) (by omega)
      simpa using this
/-- empty rows at the end are none -/
def trim : List En → List En
  | [] => []
  | e :: L => if (trim L).isEmpty && gap e then [] else e :: trim L
theorem trim_pre : ∀ L, ∃ n, trim L = L.take n ∧ n ≤ L.length ∧ (∀ j, n ≤ j → gap (L.getD j zeroE) = true) ∧ (n = 0 ∨ gap (L.getD (n - 1) zeroE) = false)
  | [] => ⟨0, rfl, Nat.le_refl _, fun j _ => by simp [gap_zero], .inl rfl⟩
  | e :: L => by
    obtain ⟨n, h1, h2, h3, h4⟩ := trim_pre L
    unfold trim
    by_cases hc : ((trim L).isEmpty && gap e) = true
    · rw [if_pos hc]
      rw [Bool.and_eq_true] at hc
      have h0 : n = 0 := by
        have := List.isEmpty_iff.1 hc.1
        rw [h1] at this
        have := congrArg List.length this
        rw [List.length_take, List.length_nil] at this
        omega
      refine ⟨0, rfl, Nat.zero_le _, fun j _ => ?_, .inl rfl⟩
      cases j with
      | zero => simpa using hc.2
      | succ j => simpa using h3 j (by omega)
    · rw [if_neg hc]
      refine ⟨n + 1, by rw [h1]; rfl, by simpa using h2, fun j hj => ?_, .inr ?_⟩
      · cases j with
        | zero => omega
        | succ j => simpa using h3 j (by omega)
      · cases n with
        | zero =>
          have h0 : (trim L).isEmpty = true := by rw [h1]; rfl
          rw [h0] at hc
          simpa using hc
        | succ n =>
          rcases h4 with h4 | h4
          · omega
          · simpa using h4
/-! the calls -/
def addErr (L : List En) (e : En) : Int := if gap e = true then 1 else if hasX e.k L = true then 6 else if 4096 ≤ least L then 6 else 0
def addSt (L : List En) (e : En) : List En := if addErr L e = 0 then (if least L < L.length then L.set (least L) e else L ++ [e]) else L
def isRow (L : List En) (r : Int) : Bool := decide (0 ≤ r) && (decide (r < (L.length : Int)) && !gap (L.getD r.toNat zeroE))
def atX (L : List En) (r : Int) : En := if isRow L r = true then L.getD r.toNat zeroE else zeroE
def dropSt (L : List En) (r : Int) : List En := if isRow L r = true then trim (L.set r.toNat zeroE) else L
def setSt (L : List En) (r : Int) (b : Bool) : List En := if isRow L r = true then L.set r.toNat { L.getD r.toNat zeroE with u := b } else L
def findX (k : ByteArray) (L : List En) : Nat := if hasX k L = true then place k L else 0
def ofX (s : ByteArray) (L : List En) : List Nat := (List.range L.length).filter fun i => !gap (L.getD i zeroE) && decide ((L.getD i zeroE).s = s)
def liveX : List En → Int
  | [] => 0
  | e :: L => e.sz + liveX L
/-- rows that there may be -/
structure OkX (L : List En) : Prop where
  le : L.length ≤ 4096
  last : ∀ n, L.length = n + 1 → gap (L.getD n zeroE) = false
  zero : ∀ j, gap (L.getD j zeroE) = true → L.getD j zeroE = zeroE
  once : ∀ i j, i < L.length → j < L.length → gap (L.getD i zeroE) = false → (L.getD i zeroE).k = (L.getD j zeroE).k → i = j
theorem okX_nil : OkX [] := ⟨by simp, fun n h => by simp at h, fun j _ => by simp, fun i j h => by simp at h⟩
theorem getD_set (L : List En) (i j : Nat) (e : En) : (L.set i e).getD j zeroE = if j = i ∧ i < L.length then e else L.getD j zeroE := by
  rw [List.getD_eq_getElem?_getD, List.getElem?_set, List.getD_eq_getElem?_getD]
  by_cases h : i = j
  · subst h
    by_cases h2 : i < L.length
    · simp [h2]
    · simp [h2]
  · rw [if_neg h, if_neg (fun h' => h h'.1.symm)]
theorem getD_app (L : List En) (j : Nat) (e : En) : (L ++ [e]).getD j zeroE = if j = L.length then e else L.getD j zeroE := by
  rw [List.getD_eq_getElem?_getD, List.getD_eq_getElem?_getD]
  by_cases h : j < L.length
  · rw [List.getElem?_append_left h, if_neg (by omega)]
  · rw [List.getElem?_append_right (by omega)]
    by_cases h2 : j = L.length
    · subst h2; simp
    · rw [if_neg h2, List.getElem?_eq_none (by simp; omega), List.getElem?_eq_none (by omega)]
theorem getD_take (L : List En) (n j : Nat) : (L.take n).getD j zeroE = if j < n then L.getD j zeroE else zeroE := by
  rw [List.getD_eq_getElem?_getD, List.getElem?_take, List.getD_eq_getElem?_getD]
  split <;> rfl
theorem hasX_false {k : ByteArray} {L : List En} (hk : k ≠ ⟨#[]⟩) : hasX k L = false ↔ ∀ j, j < L.length → (L.getD j zeroE).k ≠ k := by
  unfold hasX
  rw [decide_eq_true hk, Bool.true_and, decide_eq_false_iff_not, place_lt_iff]
  exact ⟨fun h j hj e => h ⟨j, hj, e⟩, fun h ⟨j, hj, e⟩ => h j hj e⟩
theorem hasX_true {k : ByteArray} {L : List En} : hasX k L = true ↔ k ≠ ⟨#[]⟩ ∧ place k L < L.length := by
  unfold hasX
  rw [Bool.and_eq_true, decide_eq_true_eq, decide_eq_true_eq]
theorem OkX.found {L : List En} (h : OkX L) {k : ByteArray} {j : Nat} (hj : j < L.length) (hk : (L.getD j zeroE).k = k) (hn : k ≠ ⟨#[]⟩) : hasX k L = true ∧ place k L = j := by
  have h1 : place k L < L.length := place_lt_iff.2 ⟨j, hj, hk⟩
  refine ⟨hasX_true.2 ⟨hn, h1⟩, ?_⟩
  have h2 := place_at h1
  refine h.once _ _ h1 hj ?_ (by rw [h2, hk])
  have : ¬ gap (L.getD (place k L) zeroE) = true := fun e => hn (by rw [← h2]; exact gap_iff.1 e)
  simpa using this
theorem OkX.add {L : List En} (h : OkX L) (e : En) : OkX (addSt L e) := by
  unfold addSt
  split
  · rename_i h0
    unfold addErr at h0
    split at h0
    · exact absurd h0 (by decide)
    · rename_i hg
      split at h0
      · exact absurd h0 (by decide)
      · rename_i hh
        split at h0
        · exact absurd h0 (by decide)
        · rename_i hl
          have hg : gap e = false := by simpa using hg
          have hk : e.k ≠ ⟨#[]⟩ := fun x => by rw [gap_iff.2 x] at hg; cases hg
          have hno := (hasX_false hk).1 (by simpa using hh)
          split
          · rename_i hlt
            refine ⟨by rw [List.length_set]; exact h.le, fun n hn => ?_, fun j hj => ?_, fun i j hi hj hgi he => ?_⟩
            · rw [List.length_set] at hn
              rw [getD_set]
              split
              · exact hg
              · exact h.last n hn
            · rw [getD_set] at hj ⊢
              split at hj
              · rw [hg] at hj; cases hj
              · rename_i hx; rw [if_neg hx]; exact h.zero j hj
            · rw [List.length_set] at hi hj
              rw [getD_set] at hgi he
              rw [getD_set] at he
              by_cases h1 : i = least L
              · rw [if_pos ⟨h1, hlt⟩] at he
                by_cases h2 : j = least L
                · omega
                · rw [if_neg (fun x => h2 x.1)] at he
                  exact absurd he.symm (hno j hj)
              · rw [if_neg (fun x => h1 x.1)] at he hgi
                by_cases h2 : j = least L
                · rw [if_pos ⟨h2, hlt⟩] at he
                  exact absurd he (hno i hi)
                · rw [if_neg (fun x => h2 x.1)] at he
                  exact h.once i j hi hj hgi he
          · rename_i hlt
            have hle : least L = L.length := by have := least_le L; omega
            refine ⟨by rw [List.length_append]; simp; omega, fun n hn => ?_, fun j hj => ?_, fun i j hi hj hgi he => ?_⟩
            · rw [List.length_append] at hn
              rw [getD_app, if_pos (by simp at hn; omega)]
              exact hg
            · rw [getD_app] at hj ⊢
              split at hj
              · rw [hg] at hj; cases hj
              · rename_i hx; rw [if_neg hx]; exact h.zero j hj
            · rw [List.length_append] at hi hj
              simp only [List.length_cons, List.length_nil] at hi hj
              rw [getD_app] at hgi he
              rw [getD_app] at he
              by_cases h1 : i = L.length
              · rw [if_pos h1] at he
                by_cases h2 : j = L.length
                · omega
                · rw [if_neg h2] at he
                  exact absurd he.symm (hno j (by omega))
              · rw [if_neg h1] at he hgi
                by_cases h2 : j = L.length
                · rw [if_pos h2] at he
                  exact absurd he (hno i (by omega))
                · rw [if_neg h2] at he
                  exact h.once i j (by omega) (by omega) hgi he
  · exact h
theorem isRow_iff {L : List En} {r : Int} : isRow L r = true ↔ ∃ i : Nat, r = (i : Int) ∧ i < L.length ∧ gap (L.getD i zeroE) = false := by
  unfold isRow
  simp only [Bool.and_eq_true, decide_eq_true_eq, Bool.not_eq_true']
  constructor
  · rintro ⟨h1, h2, h3⟩
    exact ⟨r.toNat, by omega, by omega, h3⟩
  · rintro ⟨i, rfl, h2, h3⟩
    exact ⟨by omega, by omega, by simpa using h3⟩
theorem OkX.drop {L : List En} (h : OkX L) (r : Int) : OkX (dropSt L r) := by
  unfold dropSt
  split
  · rename_i hr
    obtain ⟨i, rfl, hi, hg⟩ := isRow_iff.1 hr
    rw [Int.toNat_natCast]
    obtain ⟨n, h1, h2, h3, h4⟩ := trim_pre (L.set i zeroE)
    rw [h1]
    rw [List.length_set] at h2
    have hz : ∀ j, gap ((L.set i zeroE).getD j zeroE) = true → (L.set i zeroE).getD j zeroE = zeroE := fun j hj => by
      rw [getD_set] at hj ⊢
      split
      · rfl
      · rename_i hx; rw [if_neg hx] at hj; exact h.zero j hj
    refine ⟨by rw [List.length_take, List.length_set]; have := h.le; omega, fun m hm => ?_, fun j hj => ?_, fun a b ha hb hga he => ?_⟩
    · rw [List.length_take, List.length_set] at hm
      rw [getD_take, if_pos (by omega)]
      rcases h4 with h4 | h4
      · omega
      · rw [show n - 1 = m by omega] at h4; exact h4
    · rw [getD_take] at hj ⊢
      split
      · rename_i hx; rw [if_pos hx] at hj; exact hz j hj
      · rfl
    · rw [List.length_take, List.length_set] at ha hb
      rw [getD_take, if_pos (by omega)] at hga he
      rw [getD_take, if_pos (by omega)] at he
      rw [getD_set] at hga he
      rw [getD_set] at he
      by_cases ea : a = i ∧ i < L.length
      · rw [if_pos ea] at hga; cases hga
      · rw [if_neg ea] at hga he
        by_cases eb : b = i ∧ i < L.length
        · rw [if_pos eb] at he
          rw [gap_iff.2 (by rw [he]; rfl)] at hga; cases hga
        · rw [if_neg eb] at he
          exact h.once a b (by omega) (by omega) hga he
  · exact h
theorem OkX.set {L : List En} (h : OkX L) (r : Int) (b : Bool) : OkX (setSt L r b) := by
  unfold setSt
  split
  · rename_i hr
    obtain ⟨i, rfl, hi, hg⟩ := isRow_iff.1 hr
    rw [Int.toNat_natCast]
    have hk : ∀ j, ((L.set i { L.getD i zeroE with u := b }).getD j zeroE).k = (L.getD j zeroE).k := fun j => by
      rw [getD_set]
      split
      · rename_i hx; rw [hx.1]
      · rfl
    have hgap : ∀ j, gap ((L.set i { L.getD i zeroE with u := b }).getD j zeroE) = gap (L.getD j zeroE) := fun j => by
      unfold gap; rw [hk]
    refine ⟨by rw [List.length_set]; exact h.le, fun n hn => ?_, fun j hj => ?_, fun a c ha hc hga he => ?_⟩
    · rw [hgap]; exact h.last n (by simpa using hn)
    · rw [hgap] at hj
      rw [getD_set]
      split
      · rename_i hx; rw [hx.1, hg] at hj; cases hj
      · exact h.zero j hj
    · rw [List.length_set] at ha hc
      rw [hgap] at hga
      rw [hk, hk] at he
      exact h.once a c ha hc hga he
  · exact h
end Go.Proofs.Ytnglmkombogheaa.Index
