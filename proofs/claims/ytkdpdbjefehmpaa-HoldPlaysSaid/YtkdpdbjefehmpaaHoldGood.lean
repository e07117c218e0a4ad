/-
  What is kept is read back as it was put: what Puts and Drops keep. No program stands here.
-/
import Derived.Test.YtkdpdbjefehmpaaHoldSpec
import Derived.Test.YtkdpdbjefehmpaaAreApartS
namespace Go.Proofs.Ytkdpdbjefehmpaa.Hold
open Go.RowKit Base Arena
open Blocks (frees nints tout took terr give gave gerr those)

/-! how many are free -/
theorem those_count (b : Bool) (O : List Bool) : ∀ k, k ≤ O.length → (those b O k).length = (O.take k).count b
  | 0, _ => by simp [those]
  | k + 1, h => by
    have ih := those_count b O k (by omega)
    have hk : k < O.length := by omega
    rw [List.take_add_one, List.count_append, ← ih, List.getElem?_eq_getElem hk]
    have hg : O.getD k false = O[k] := by simp [hk]
    by_cases hx : O.getD k false = b
    · rw [Blocks.those_in hx, List.length_append]
      rw [hg] at hx
      simp [hx]
    · rw [Blocks.those_out hx]
      rw [hg] at hx
      simp [hx]
theorem frees_count (O : List Bool) : (frees O).length = O.count false := by
  have := those_count false O O.length (Nat.le_refl _)
  rwa [List.take_length] at this
theorem frees_set_true {O : List Bool} {i : Nat} (hi : i < O.length) (h : O.getD i false = false) : (frees (O.set i true)).length + 1 = (frees O).length := by
  have hg : O[i] = false := by simpa [hi] using h
  have hc : 0 < O.count false := List.count_pos_iff.2 (by rw [← hg]; exact List.getElem_mem hi)
  rw [frees_count, frees_count, List.count_set hi, hg]
  simp
  omega
theorem frees_set_false {O : List Bool} {i : Nat} (hi : i < O.length) (h : O.getD i false = true) : (frees (O.set i false)).length = (frees O).length + 1 := by
  have hg : O[i] = true := by simpa [hi] using h
  rw [frees_count, frees_count, List.count_set hi, hg]
  simp
theorem frees_mark : ∀ (T : List Nat) (O : List Bool), T.Nodup → (∀ i ∈ T, i < O.length ∧ O.getD i false = false) → (frees (Blocks.mark true O T)).length + T.length = (frees O).length
  | [], O, _, _ => by simp [Blocks.mark_nil]
  | i :: T, O, hn, hT => by
    obtain ⟨hi, hn'⟩ := List.nodup_cons.1 hn
    obtain ⟨h1, h2⟩ := hT i (by simp)
    have ih := frees_mark T (O.set i true) hn' (fun j hj => by
      obtain ⟨h3, h4⟩ := hT j (by simp [hj])
      rw [List.length_set, Blocks.set_getD _ _ _ _ h1, if_neg (fun e => hi (by rw [← e]; exact hj))]
      exact ⟨h3, h4⟩)
    have h5 := frees_set_true h1 h2
    show (frees (Blocks.mark true (O.set i true) T)).length + (T.length + 1) = _
    omega
theorem frees_took {O : List Bool} {n : Nat} (h : n ≤ (frees O).length) : (frees (took O (n : Int))).length + n = (frees O).length := by
  have ht := Blocks.tout_ok h
  have hn : (tout O (n : Int)).Nodup := by rw [ht]; exact List.Nodup.sublist (List.take_sublist _ _) (Blocks.those_nodup false O O.length)
  have := frees_mark (tout O (n : Int)) O hn (fun i hi => Blocks.tout_free hi)
  rw [show (tout O (n : Int)).length = n by rw [ht, List.length_take]; omega] at this
  exact this
/-- blocks that are out are given back -/
theorem give_outs : ∀ (T : List Nat) (O : List Bool), T.Nodup → (∀ i ∈ T, i < O.length ∧ O.getD i false = true) → ∃ L, give O (nints T) = some L ∧ (frees L).length = (frees O).length + T.length
  | [], O, _, _ => ⟨O, rfl, by simp⟩
  | i :: T, O, hn, hT => by
    obtain ⟨hi, hn'⟩ := List.nodup_cons.1 hn
    obtain ⟨h1, h2⟩ := hT i (by simp)
    obtain ⟨L, h3, h4⟩ := give_outs T (O.set i false) hn' (fun j hj => by
      obtain ⟨h3, h4⟩ := hT j (by simp [hj])
      rw [List.length_set, Blocks.set_getD _ _ _ _ h1, if_neg (fun e => hi (by rw [← e]; exact hj))]
      exact ⟨h3, h4⟩)
    have h5 := frees_set_false h1 h2
    refine ⟨L, ?_, by rw [h4, h5, List.length_cons]; omega⟩
    show give O ((i : Int) :: nints T) = _
    rw [Blocks.give_ok h1 h2]
    exact h3
/-! bytes in blocks -/
section
variable {L : List Int} {bs : List UInt8} {k N : Nat}
theorem perr_blk (hF : Fits (bs.length : Int) L) (hk : k < L.length) (hN : (32 * N : Nat) ≤ L.getD k 0) {y m : Nat} (hy : y < N) (hm : m ≤ 32) : perr L (k : Int) ((y : Int) * 32) (m : Int) = 0 := by
  have := perr_in (L := L) k (y * 32) m hk (by omega)
  rwa [show ((y * 32 : Nat) : Int) = (y : Int) * 32 by omega] at this
theorem place_blk (y : Nat) : place L k ((y : Int) * 32).toNat = place L k 0 + y * 32 := by
  unfold place
  have : ((y : Int) * 32).toNat = y * 32 := by omega
  rw [this]
  omega
theorem blk_le (hF : Fits (bs.length : Int) L) (hk : k < L.length) (hN : (32 * N : Nat) ≤ L.getD k 0) {y m : Nat} (hy : y < N) (hm : m ≤ 32) : place L k 0 + y * 32 + m ≤ bs.length := by
  have := perr_place hF (perr_blk hF hk hN hy hm)
  rw [Int.toNat_natCast, place_blk, Int.toNat_natCast] at this
  exact this
theorem wrote_fits {i a : Int} {x : List UInt8} (hF : Fits (bs.length : Int) L) : Fits ((wrote L bs i a x).length : Int) L := by rw [wrote_length hF]; exact hF
/-- another block's bytes -/
theorem read_other (hF : Fits (bs.length : Int) L) (hk : k < L.length) (hN : (32 * N : Nat) ≤ L.getD k 0) {y z m : Nat} (hy : y < N) (hz : z < N) (hne : y ≠ z) (hm : m ≤ 32) {x : List UInt8} (hx : x.length ≤ 32) :
    readOut L (wrote L bs (k : Int) ((z : Int) * 32) x) (k : Int) ((y : Int) * 32) (m : Int) = readOut L bs (k : Int) ((y : Int) * 32) (m : Int) := by
  have h1 := perr_blk (bs := bs) hF hk hN hy hm
  have h2 := perr_blk (bs := bs) hF hk hN hz hx
  have h3 := blk_le hF hk hN hz hx
  rw [readOut_in h1, readOut_in h1, wrote_in h2, Int.toNat_natCast, place_blk, place_blk, Int.toNat_natCast]
  exact cut_other _ _ _ _ _ h3 (by omega)
theorem puts_fits (T : List Nat) (x : List UInt8) (hF : Fits (bs.length : Int) L) : ∀ j, Fits ((puts L k T x j bs).length : Int) L ∧ (puts L k T x j bs).length = bs.length
  | 0 => ⟨hF, rfl⟩
  | j + 1 => by
    obtain ⟨h1, h2⟩ := puts_fits T x hF j
    have h3 := wrote_length h1 (k : Int) ((T.getD j 0 : Int) * 32) (piece x j)
    exact ⟨wrote_fits h1, h3.trans h2⟩
theorem piece_le (x : List UInt8) (j : Nat) : (piece x j).length ≤ 32 := by rw [piece_length]; omega
theorem getD_mem {T : List Nat} {i : Nat} (h : i < T.length) : T.getD i 0 ∈ T := by
  rw [List.getD_eq_getElem?_getD, List.getElem?_eq_getElem h]
  exact List.getElem_mem _
theorem getD_ne {T : List Nat} (hn : T.Nodup) {i j : Nat} (hi : i < T.length) (hj : j < T.length) (hne : i ≠ j) : T.getD i 0 ≠ T.getD j 0 := by
  simp only [List.getD_eq_getElem?_getD, List.getElem?_eq_getElem hi, List.getElem?_eq_getElem hj, Option.getD_some]
  have hp := List.pairwise_iff_getElem.1 hn
  rcases Nat.lt_or_ge i j with h | h
  · exact hp i j hi hj h
  · exact fun e => hp j i hj hi (by omega) e.symm
/-- a Put's own writes leave other blocks alone -/
theorem read_puts (hF : Fits (bs.length : Int) L) (hk : k < L.length) (hN : (32 * N : Nat) ≤ L.getD k 0) (T : List Nat) (hT : ∀ i ∈ T, i < N) (x : List UInt8) {y m : Nat} (hy : y < N) (hm : m ≤ 32) : ∀ j, j ≤ T.length → (∀ i, i < j → T.getD i 0 ≠ y) →
    readOut L (puts L k T x j bs) (k : Int) ((y : Int) * 32) (m : Int) = readOut L bs (k : Int) ((y : Int) * 32) (m : Int)
  | 0, _, _ => rfl
  | j + 1, hj, hne => by
    rw [← read_puts hF hk hN T hT x hy hm j (by omega) (fun i hi => hne i (by omega))]
    exact read_other (puts_fits T x hF j).1 hk hN hy (hT _ (getD_mem (by omega))) (fun e => hne j (by omega) e.symm) hm (piece_le x j)
theorem read_own (hF : Fits (bs.length : Int) L) (hk : k < L.length) (hN : (32 * N : Nat) ≤ L.getD k 0) (T : List Nat) (hT : ∀ i ∈ T, i < N) (hn : T.Nodup) (x : List UInt8) {i : Nat} : ∀ j, i < j → j ≤ T.length →
    readOut L (puts L k T x j bs) (k : Int) ((T.getD i 0 : Int) * 32) ((min 32 (x.length - 32 * i) : Nat) : Int) = piece x i
  | 0, h, _ => by omega
  | j + 1, h, hj => by
    by_cases hij : i = j
    · subst hij
      have h1 := perr_blk (bs := puts L k T x i bs) (puts_fits T x hF i).1 hk hN (hT _ (getD_mem (show i < T.length by omega))) (piece_le x i)
      have := readOut_self (bs := puts L k T x i bs) (puts_fits T x hF i).1 (k : Int) ((T.getD i 0 : Int) * 32) (piece x i) h1
      rwa [piece_length] at this
    · rw [← read_own hF hk hN T hT hn x j (by omega) (by omega)]
      exact read_other (puts_fits T x hF j).1 hk hN (hT _ (getD_mem (by omega))) (hT _ (getD_mem (by omega))) (getD_ne hn (by omega) (by omega) hij) (by omega) (piece_le x j)
theorem gots_take {T : List Nat} {x : List UInt8} : ∀ j, (∀ i, i < j → readOut L bs (k : Int) ((T.getD i 0 : Int) * 32) ((min 32 (x.length - 32 * i) : Nat) : Int) = piece x i) → gots L k T bs x.length j = x.take (32 * j)
  | 0, _ => by simp [gots]
  | j + 1, h => by
    unfold gots
    rw [gots_take j (fun i hi => h i (by omega)), h j (by omega), show 32 * (j + 1) = 32 * j + 32 by omega, List.take_add]
    rfl
theorem gots_congr {bs' : List UInt8} {T : List Nat} {size : Nat} : ∀ j, (∀ i, i < j → readOut L bs' (k : Int) ((T.getD i 0 : Int) * 32) ((min 32 (size - 32 * i) : Nat) : Int) = readOut L bs (k : Int) ((T.getD i 0 : Int) * 32) ((min 32 (size - 32 * i) : Nat) : Int)) → gots L k T bs' size j = gots L k T bs size j
  | 0, _ => rfl
  | j + 1, h => by
    unfold gots
    rw [gots_congr j (fun i hi => h i (by omega)), h j (by omega)]
theorem gots_own (hF : Fits (bs.length : Int) L) (hk : k < L.length) (hN : (32 * N : Nat) ≤ L.getD k 0) (T : List Nat) (hT : ∀ i ∈ T, i < N) (hn : T.Nodup) (x : List UInt8) (hl : T.length = need x.length) : gots L k T (puts L k T x T.length bs) x.length T.length = x := by
  rw [gots_take T.length (fun i hi => read_own hF hk hN T hT hn x T.length hi (Nat.le_refl _)), List.take_of_length_le]
  rw [hl]
  unfold need
  omega
theorem gots_puts (hF : Fits (bs.length : Int) L) (hk : k < L.length) (hN : (32 * N : Nat) ≤ L.getD k 0) (T : List Nat) (hT : ∀ i ∈ T, i < N) (x : List UInt8) (S : List Nat) (hS : ∀ i ∈ S, i < N ∧ i ∉ T) (size : Nat) : gots L k S (puts L k T x T.length bs) size S.length = gots L k S bs size S.length :=
  gots_congr S.length (fun i hi => read_puts hF hk hN T hT x (hS _ (getD_mem hi)).1 (by omega) T.length (Nat.le_refl _) (fun j hj e => (hS _ (getD_mem hi)).2 (by rw [← e]; exact getD_mem hj)))
/-- another part -/
theorem gots_part (hF : Fits (bs.length : Int) L) {k2 M : Nat} (hne : k2 ≠ k) (hk2 : k2 < L.length) (hM : (32 * M : Nat) ≤ L.getD k2 0) (T : List Nat) (x : List UInt8) (S : List Nat) (hS : ∀ i ∈ S, i < M) (size : Nat) (j : Nat) : gots L k2 S (puts L k T x j bs) size S.length = gots L k2 S bs size S.length := by
  refine gots_congr S.length (fun i hi => ?_)
  have hp := perr_blk hF hk2 hM (hS _ (getD_mem hi)) (show min 32 (size - 32 * i) ≤ 32 by omega)
  induction j with
  | zero => rfl
  | succ j ih =>
    rw [← ih]
    exact readOut_other (puts_fits T x hF j).1 k2 k hne _ _ _ _ hp
end
/-- what holds of a hold at all times -/
structure Good (L : List Int) (k : Nat) (bs : List UInt8) (O : List Bool) (p : Nat) (es : List Ent) : Prop where
  wide : ∀ e ∈ es, e.T.length = need e.x.length
  out : ∀ e ∈ es, ∀ i ∈ e.T, i < O.length ∧ O.getD i false = true
  once : ∀ e ∈ es, e.T.Nodup
  apart : es.Pairwise (fun a b => ∀ i ∈ a.T, i ∉ b.T)
  told : ∀ e ∈ es, gots L k e.T bs e.x.length e.T.length = e.x
  pos : ∀ e ∈ es, 1 ≤ e.id
  room : (32 * O.length : Nat) ≤ L.getD k 0
theorem Good.start {L : List Int} {k : Nat} {bs : List UInt8} {n : Nat} (h : (32 * n : Nat) ≤ L.getD k 0) : Good L k bs (List.replicate n false) 0 [] :=
  ⟨fun e he => (by cases he), fun e he => (by cases he), fun e he => (by cases he), List.Pairwise.nil, fun e he => (by cases he), fun e he => (by cases he), by rwa [List.length_replicate]⟩
theorem took_getD {O : List Bool} {n : Int} {i : Nat} : (took O n).getD i false = if i ∈ tout O n then true else O.getD i false := by
  unfold took
  exact Blocks.mark_get _ _ _ _ (fun j hj => (Blocks.tout_free hj).1)
theorem tout_nodup {O : List Bool} {n : Nat} (h : n ≤ (frees O).length) : (tout O (n : Int)).Nodup := by
  rw [Blocks.tout_ok h]
  exact List.Nodup.sublist (List.take_sublist _ _) (Blocks.those_nodup false O O.length)
theorem Good.put {L : List Int} {k : Nat} {bs : List UInt8} {O : List Bool} {p : Nat} {es : List Ent} (h : Good L k bs O p es) (hF : Fits (bs.length : Int) L) (hk : k < L.length) {x : List UInt8} (hfit : need x.length ≤ (frees O).length) {e : Ent} (hid : e.id = (p : Int) + 1) (hx : e.x = x) (hT : e.T = tout O (need x.length : Nat)) :
    Good L k (puts L k (tout O (need x.length : Nat)) x (tout O (need x.length : Nat)).length bs) (took O (need x.length : Nat)) (p + 1) (es ++ [e]) := by
  have hlen : (tout O (need x.length : Nat)).length = need x.length := by rw [Blocks.tout_ok hfit, List.length_take]; omega
  have hsep : ∀ a ∈ es, ∀ i ∈ a.T, i ∉ tout O (need x.length : Nat) := fun a ha i hi hm => by
    have h1 := (h.out a ha i hi).2
    have h2 := (Blocks.tout_free hm).2
    rw [h1] at h2
    cases h2
  have hin : ∀ i ∈ tout O (need x.length : Nat), i < O.length := fun i hi => (Blocks.tout_free hi).1
  refine ⟨fun a ha => ?_, fun a ha i hi => ?_, fun a ha => ?_, ?_, fun a ha => ?_, fun a ha => ?_, by rw [Blocks.took_length]; exact h.room⟩
  · rcases List.mem_append.1 ha with ha | ha
    · exact h.wide a ha
    · obtain rfl : a = e := by simpa using ha
      rw [hT, hx, hlen]
  · rw [Blocks.took_length, took_getD]
    rcases List.mem_append.1 ha with ha | ha
    · refine ⟨(h.out a ha i hi).1, ?_⟩
      split
      · rfl
      · exact (h.out a ha i hi).2
    · obtain rfl : a = e := by simpa using ha
      rw [hT] at hi
      exact ⟨hin i hi, if_pos hi⟩
  · rcases List.mem_append.1 ha with ha | ha
    · exact h.once a ha
    · obtain rfl : a = e := by simpa using ha
      rw [hT]
      exact tout_nodup hfit
  · rw [List.pairwise_append]
    refine ⟨h.apart, by simp, fun a ha b hb i hi hm => ?_⟩
    obtain rfl : b = e := by simpa using hb
    rw [hT] at hm
    exact hsep a ha i hi hm
  · rcases List.mem_append.1 ha with ha | ha
    · rw [gots_puts hF hk h.room _ hin x a.T (fun i hi => ⟨(h.out a ha i hi).1, hsep a ha i hi⟩)]
      exact h.told a ha
    · obtain rfl : a = e := by simpa using ha
      rw [hT, hx]
      exact gots_own hF hk h.room _ hin (tout_nodup hfit) x hlen
  · rcases List.mem_append.1 ha with ha | ha
    · exact h.pos a ha
    · obtain rfl : a = e := by simpa using ha
      omega
theorem Good.drop {L : List Int} {k : Nat} {bs : List UInt8} {O : List Bool} {p : Nat} {es : List Ent} (h : Good L k bs O p es) {id : Int} {d : Ent} (hf : find id es = some d) (hrise : (ids es).Pairwise (· < ·)) :
    gerr O (nints d.T) = 0 ∧ Good L k bs (gave O (nints d.T)) p (drop id es) ∧ (frees (gave O (nints d.T))).length = (frees O).length + d.T.length := by
  obtain ⟨hd, hid⟩ := find_mem hf
  obtain ⟨M, h1, h2⟩ := give_outs d.T O (h.once d hd) (h.out d hd)
  obtain ⟨h3, h4⟩ := Blocks.gave_some h1
  have hne : ∀ a ∈ Hold.drop id es, a.id ≠ id ∧ a ∈ es := fun a ha => by
    obtain ⟨ha1, ha2⟩ := List.mem_filter.1 ha
    exact ⟨by simpa using ha2, ha1⟩
  have hsep : ∀ a ∈ Hold.drop id es, ∀ i ∈ a.T, i ∉ d.T := fun a ha i hi hm => by
    obtain ⟨hne1, ha'⟩ := hne a ha
    have hir : a ≠ d := fun e => hne1 (by rw [e, hid])
    have hsym : ∀ x ∈ es, ∀ y ∈ es, x ≠ y → ∀ i ∈ x.T, i ∉ y.T := by
      have := h.apart
      intro x hx y hy hxy i hi hm
      obtain ⟨m, hm1, rfl⟩ := List.mem_iff_getElem.1 hx
      obtain ⟨n, hn1, rfl⟩ := List.mem_iff_getElem.1 hy
      rw [List.pairwise_iff_getElem] at this
      rcases Nat.lt_trichotomy m n with hmn | hmn | hmn
      · exact this m n hm1 hn1 hmn i hi hm
      · subst hmn; exact hxy rfl
      · exact this n m hn1 hm1 hmn i hm hi
    exact hsym a ha' d hd hir i hi hm
  refine ⟨h4, ⟨fun a ha => h.wide a (hne a ha).2, fun a ha i hi => ?_, fun a ha => h.once a (hne a ha).2, List.Pairwise.filter _ h.apart, fun a ha => h.told a (hne a ha).2, fun a ha => h.pos a (hne a ha).2, by rw [Blocks.gave_length]; exact h.room⟩, by rw [h3]; exact h2⟩
  obtain ⟨h5, h6⟩ := h.out a (hne a ha).2 i hi
  rw [Blocks.gave_length, h3, Blocks.give_get h1, if_neg (fun hm => hsep a ha i hi (by
    obtain ⟨j, hj, hji⟩ := Blocks.nints_mem.1 hm
    have : i = j := by omega
    rw [this]; exact hj))]
  exact ⟨h5, h6⟩
/-- writes in another part -/
theorem Good.part {L : List Int} {k k2 : Nat} {bs : List UInt8} {O : List Bool} {p : Nat} {es : List Ent} (h : Good L k2 bs O p es) (hF : Fits (bs.length : Int) L) (hne : k2 ≠ k) (hk2 : k2 < L.length) (T : List Nat) (x : List UInt8) (j : Nat) : Good L k2 (puts L k T x j bs) O p es :=
  ⟨h.wide, h.out, h.once, h.apart, fun e he => by rw [gots_part hF hne hk2 h.room T x e.T (fun i hi => (h.out e he i hi).1)]; exact h.told e he, h.pos, h.room⟩
/-- all that is kept lies in the part -/
theorem Good.live {L : List Int} {k : Nat} {bs : List UInt8} {O : List Bool} {p : Nat} {es : List Ent} (h : Good L k bs O p es) : Hold.live es ≤ 32 * O.length := by
  have h1 : ∀ l : List Ent, (∀ e ∈ l, e ∈ es) → l.Pairwise (fun a b => ∀ i ∈ a.T, i ∉ b.T) → ∃ A : List Nat, A.Nodup ∧ (∀ i ∈ A, ∃ e ∈ l, i ∈ e.T) ∧ Hold.live l ≤ 32 * A.length := by
    intro l
    induction l with
    | nil => intro _ _; exact ⟨[], List.nodup_nil, fun i hi => (by cases hi), by simp [Hold.live]⟩
    | cons a l ih =>
      intro hm hp
      obtain ⟨hp1, hp2⟩ := List.pairwise_cons.1 hp
      obtain ⟨A, hA1, hA2, hA3⟩ := ih (fun e he => hm e (by simp [he])) hp2
      refine ⟨a.T ++ A, ?_, fun i hi => ?_, ?_⟩
      · rw [List.nodup_append]
        refine ⟨h.once a (hm a (by simp)), hA1, fun i hi j hj e => ?_⟩
        obtain ⟨b, hb, hbi⟩ := hA2 j hj
        exact hp1 b hb i hi (by rw [e]; exact hbi)
      · rcases List.mem_append.1 hi with hi | hi
        · exact ⟨a, by simp, hi⟩
        · obtain ⟨b, hb, hbi⟩ := hA2 i hi
          exact ⟨b, by simp [hb], hbi⟩
      · have hw := h.wide a (hm a (by simp))
        have : Hold.live (a :: l) = a.x.length + Hold.live l := by simp [Hold.live]
        rw [this, List.length_append, hw]
        unfold need
        omega
  obtain ⟨A, hA1, hA2, hA3⟩ := h1 es (fun e he => he) h.apart
  have hle : A.length ≤ (List.range O.length).length := List.Nodup.length_le_of_subset hA1 (fun i hi => by
    obtain ⟨e, he, hie⟩ := hA2 i hi
    exact List.mem_range.2 (h.out e he i hie).1)
  rw [List.length_range] at hle
  omega
end Go.Proofs.Ytkdpdbjefehmpaa.Hold
