/-
  One hold on an arena's part, between two block numbers: its calls, in the words of what is kept.
-/
import Derived.Test.YtkdpdbjefehmpaaHoldGet
import Derived.Test.YtkdpdbjefehmpaaHoldGood
import Derived.Test.YtkdpdbjefehmpaaAreNew
namespace Go.Proofs.Ytkdpdbjefehmpaa.Hold
open Go.RowKit Base Go.Maps Arena
open Blocks (whole whole_le frees nints tout took terr give gave gerr)

/-- of the blocks from base on and below top: the hold's own, and its arena -/
def One (base top : Nat) (ex : List Nat) (w : World) (ga pb cb : Nat) (L : List Int) (k g xg mb : Nat) (bs : List UInt8) (O : List Bool) (p : Nat) (es : List Ent) : Prop :=
  ∃ Own ob, HoldP w Own k ga g xg ob mb O p es ∧ AreP w base ga pb cb L bs ∧ (∀ j, Own j → base ≤ j ∧ j < top ∧ j ∉ ex) ∧ (¬ Own ga ∧ ¬ Own pb ∧ ¬ Own cb) ∧ (ga < top ∧ pb < top ∧ cb < top) ∧ ((ga ∉ ex ∧ pb ∉ ex ∧ cb ∉ ex) ∧ (∀ j ∈ ex, j < w.heap.size) ∧ top ≤ w.heap.size) ∧ k < L.length ∧ Good L k bs O p es
section
variable {base top ga pb cb k g xg mb p : Nat} {ex : List Nat} {L : List Int} {bs : List UInt8} {O : List Bool} {es : List Ent} {w w' : World}
theorem One.fr0 (h : One base top ex w ga pb cb L k g xg mb bs O p es) (hf : Fr0 w w') : One base top ex w' ga pb cb L k g xg mb bs O p es := by
  obtain ⟨Own, ob, h1, h2, h3, h4, h5, h6, h7, h8⟩ := h
  exact ⟨Own, ob, h1.fr0 hf, h2.fr0 hf, h3, h4, h5, ⟨h6.1, fun j hj => Nat.lt_of_lt_of_le (h6.2.1 j hj) hf.size, Nat.le_trans h6.2.2 hf.size⟩, h7, h8⟩
theorem One.rise (h : One base top ex w ga pb cb L k g xg mb bs O p es) : (ids es).Pairwise (· < ·) := by
  obtain ⟨Own, ob, h1, _⟩ := h
  exact h1.rise
theorem One.top_le (h : One base top ex w ga pb cb L k g xg mb bs O p es) : top ≤ w.heap.size := by
  obtain ⟨Own, ob, h1, h2, h3, h4, h5, h6, _⟩ := h
  exact h6.2.2
theorem One.good (h : One base top ex w ga pb cb L k g xg mb bs O p es) : Good L k bs O p es := by
  obtain ⟨Own, ob, h1, h2, h3, h4, h5, h6, h7, h8⟩ := h
  exact h8
theorem One.len (h : One base top ex w ga pb cb L k g xg mb bs O p es) : O.length ≤ 2048 := by
  obtain ⟨Own, ob, h1, _⟩ := h
  exact h1.blk.len
theorem One.most (h : One base top ex w ga pb cb L k g xg mb bs O p es) : ∀ e ∈ es, e.id ≤ (p : Int) := by
  obtain ⟨Own, ob, h1, _⟩ := h
  exact h1.top
theorem One.is (h : One base top ex w ga pb cb L k g xg mb bs O p es) : (∃ Own ob, HoldP w Own k ga g xg ob mb O p es) := by
  obtain ⟨Own, ob, h1, _⟩ := h
  exact ⟨Own, ob, h1⟩
end
theorem ids_length {p : Nat} {es : List Ent} (h1 : (ids es).Pairwise (· < ·)) (h2 : ∀ e ∈ es, 1 ≤ e.id) (h3 : ∀ e ∈ es, e.id ≤ (p : Int)) : es.length ≤ p := by
  have hn : ((ids es).map Int.toNat).Nodup := by
    refine List.pairwise_map.2 (h1.imp_of_mem fun {a b} ha hb hab => ?_)
    obtain ⟨e, he, rfl⟩ := List.mem_map.1 ha
    obtain ⟨f, hf, rfl⟩ := List.mem_map.1 hb
    have := h2 e he
    have := h2 f hf
    omega
  have := List.Nodup.length_le_of_subset (l₂ := (List.range p).map (· + 1)) hn (fun i hi => by
    obtain ⟨n, hn, rfl⟩ := List.mem_map.1 hi
    obtain ⟨e, he, rfl⟩ := List.mem_map.1 hn
    have h4 := h2 e he
    have h5 := h3 e he
    exact List.mem_map.2 ⟨e.id.toNat - 1, List.mem_range.2 (by omega), by omega⟩)
  simpa [ids] using this
def OnePut (base top : Nat) (ex : List Nat) (ga pb cb : Nat) (L : List Int) (k g xg mb : Nat) (bs : List UInt8) (O : List Bool) (p : Nat) (es : List Ent) (x : List UInt8) (w : World) (e : Ending) (w' : World) : Prop :=
  Fr (fun j => (base ≤ j ∧ j < top) ∧ j ∉ ex) w w' ∧
  ((need x.length ≤ (frees O).length ∧ ∃ d bs', e = .returned (.tuple #[.int .i64 ((p : Int) + 1), .int .i64 0]) ∧ d.id = (p : Int) + 1 ∧ d.x = x ∧ One base w'.heap.size ex w' ga pb cb L k g xg mb bs' (took O (need x.length : Nat)) (p + 1) (es ++ [d])) ∨
   (¬ need x.length ≤ (frees O).length ∧ e = .returned (.tuple #[.int .i64 0, .int .i64 6]) ∧ One base w'.heap.size ex w' ga pb cb L k g xg mb bs O p es))
/-- a block that is another's -/
theorem One.add {base top ga pb cb k g xg mb p b : Nat} {ex : List Nat} {L : List Int} {bs : List UInt8} {O : List Bool} {es : List Ent} {w : World} (h : One base top ex w ga pb cb L k g xg mb bs O p es) (h1 : top ≤ b) (h2 : b < w.heap.size) : One base top (b :: ex) w ga pb cb L k g xg mb bs O p es := by
  obtain ⟨Own, ob, a1, a2, a3, a4, a5, a6, a7, a8⟩ := h
  refine ⟨Own, ob, a1, a2, fun j hj => ?_, a4, a5, ⟨?_, fun j hj => ?_, a6.2.2⟩, a7, a8⟩
  · obtain ⟨b1, b2, b3⟩ := a3 j hj
    exact ⟨b1, b2, by simp only [List.mem_cons, not_or]; exact ⟨by omega, b3⟩⟩
  · simp only [List.mem_cons, not_or]
    exact ⟨⟨by have := a5.1; omega, a6.1.1⟩, ⟨by have := a5.2.1; omega, a6.1.2.1⟩, ⟨by have := a5.2.2; omega, a6.1.2.2⟩⟩
  · rcases List.mem_cons.1 hj with rfl | hj
    · exact h2
    · exact a6.2.1 j hj
/-- another's block has turned -/
theorem One.turn {base top ga pb cb k g xg mb p b : Nat} {ex : List Nat} {L : List Int} {bs : List UInt8} {O : List Bool} {es : List Ent} {w w' : World} (h : One base top ex w ga pb cb L k g xg mb bs O p es) (hf : Fr1 b w w') (hb : b ∈ ex) : One base top ex w' ga pb cb L k g xg mb bs O p es := by
  obtain ⟨Own, ob, a1, a2, a3, a4, a5, a6, a7, a8⟩ := h
  refine ⟨Own, ob, a1.fr hf (fun j hj e => (a3 j hj).2.2 (by have e' : j = b := e; rw [e']; exact hb)), a2.fr hf (fun e => a6.1.1 (by have e' : ga = b := e; rw [e']; exact hb)) (fun e => a6.1.2.1 (by have e' : pb = b := e; rw [e']; exact hb)) (fun e => a6.1.2.2 (by have e' : cb = b := e; rw [e']; exact hb)), a3, a4, a5, ⟨a6.1, fun j hj => Nat.lt_of_lt_of_le (a6.2.1 j hj) hf.size, Nat.le_trans a6.2.2 hf.size⟩, a7, a8⟩
theorem one_put (base top : Nat) (ex : List Nat) (ga pb cb : Nat) (L : List Int) (k g xg mb : Nat) (bs : List UInt8) (O : List Bool) (p : Nat) (es : List Ent) (x : List UInt8) (vb : Value) (w : World) (hx : x.length ≤ 65536) (hp : p ≤ 1000000) (h : One base top ex w ga pb cb L k g xg mb bs O p es) (hb : BytesIs w vb x) (hv : x ≠ [] → ∀ a n c, vb = .slice (some a) n c → a.block < base ∨ top ≤ a.block) :
    Calls Try.prog 10 #[ptr g, vb] w (OnePut base top ex ga pb cb L k g xg mb bs O p es x w) := by
  obtain ⟨Own, ob, h1, h2, h3, h4, h5, h6, h7, h8⟩ := h
  refine (put_any base ga pb cb L bs Own k g xg ob mb O p es x vb w hx hp h7 h2 h4 h1 hb (fun hx0 a n c hh => ?_)).mono ?_
  · have := hv hx0 a n c hh
    have hpb := h2.pB
    refine ⟨fun ho => ?_, fun e => ?_⟩
    · have := h3 _ ho; omega
    · omega
  · rintro e w' ⟨hf, hc⟩
    have hsz := hf.size
    have htop := h6.2.2
    have hown : ∀ j, Grow Own w j → base ≤ j ∧ j ∉ ex := fun j hj => by
      rcases hj with hj | hj
      · exact ⟨(h3 j hj).1, (h3 j hj).2.2⟩
      · exact ⟨by have := h2.gB; omega, fun hm => by have := h6.2.1 j hm; omega⟩
    have key : ∀ (O' : List Bool) (p' : Nat) (es' : List Ent) (bs' : List UInt8), HoldP w' (Grow Own w) k ga g xg ob mb O' p' es' → AreP w' base ga pb cb L bs' → Good L k bs' O' p' es' → One base w'.heap.size ex w' ga pb cb L k g xg mb bs' O' p' es' := fun O' p' es' bs' a1 a2 a3 =>
      ⟨fun j => Grow Own w j ∧ j < w'.heap.size, ob, a1.mono (fun j hj ho => ⟨ho, hj⟩), a2, fun j hj => ⟨(hown j hj.1).1, hj.2, (hown j hj.1).2⟩,
        ⟨fun hh => hh.1.elim h4.1 (fun hh => by omega), fun hh => hh.1.elim h4.2.1 (fun hh => by omega), fun hh => hh.1.elim h4.2.2 (fun hh => by omega)⟩, ⟨by omega, by omega, by omega⟩, ⟨h6.1, fun j hj => Nat.lt_of_lt_of_le (h6.2.1 j hj) hsz, Nat.le_refl _⟩, h7, a3⟩
    refine ⟨hf.mono (fun j _ hj => ?_), ?_⟩
    · rcases hj with hj | hj
      · exact ⟨⟨(h3 j hj).1, (h3 j hj).2.1⟩, (h3 j hj).2.2⟩
      · rw [hj]; exact ⟨⟨h2.pB, h5.2.1⟩, h6.1.2.1⟩
    · rcases hc with ⟨c1, A, C, c2, c3, c4⟩ | ⟨c1, c2, c3, c4⟩
      · exact .inl ⟨c1, _, _, c2, rfl, rfl, key _ _ _ _ c3 c4 (h8.put h2.fits h7 c1 rfl rfl rfl)⟩
      · exact .inr ⟨c1, c2, key _ _ _ _ c3 c4 h8⟩
def OneDrop (base top : Nat) (ex : List Nat) (ga pb cb : Nat) (L : List Int) (k g xg mb : Nat) (bs : List UInt8) (O : List Bool) (p : Nat) (es : List Ent) (id : Int) (w : World) (e : Ending) (w' : World) : Prop :=
  Fr (fun j => (base ≤ j ∧ j < top) ∧ j ∉ ex) w w' ∧ ∃ O', One base w'.heap.size ex w' ga pb cb L k g xg mb bs O' p (drop id es) ∧
    ((find id es = none ∧ e = .returned (.int .i64 7) ∧ O' = O ∧ drop id es = es) ∨ ∃ d, find id es = some d ∧ e = .returned (.int .i64 0) ∧ (frees O').length = (frees O).length + d.T.length)
theorem drop_of_none {id : Int} {es : List Ent} (h : find id es = none) : drop id es = es := by
  unfold drop
  rw [List.filter_eq_self]
  intro e he
  have := List.find?_eq_none.1 h e he
  simpa using this
theorem One.raise {base top ga pb cb k g xg mb p : Nat} {ex : List Nat} {L : List Int} {bs : List UInt8} {O : List Bool} {es : List Ent} {w : World} (h : One base top ex w ga pb cb L k g xg mb bs O p es) : One base w.heap.size ex w ga pb cb L k g xg mb bs O p es := by
  obtain ⟨Own, ob, h1, h2, h3, h4, h5, h6, h7, h8⟩ := h
  have h9 := h6.2.2
  exact ⟨Own, ob, h1, h2, fun j hj => ⟨(h3 j hj).1, by have := (h3 j hj).2.1; omega, (h3 j hj).2.2⟩, h4, ⟨by omega, by omega, by omega⟩, ⟨h6.1, h6.2.1, Nat.le_refl _⟩, h7, h8⟩
theorem one_drop (base top : Nat) (ex : List Nat) (ga pb cb : Nat) (L : List Int) (k g xg mb : Nat) (bs : List UInt8) (O : List Bool) (p : Nat) (es : List Ent) (id : Int) (hid : -9223372036854775808 ≤ id ∧ id ≤ 9223372036854775807) (w : World) (h : One base top ex w ga pb cb L k g xg mb bs O p es) :
    Calls Try.prog 11 #[ptr g, .int .i64 id] w (OneDrop base top ex ga pb cb L k g xg mb bs O p es id w) := by
  cases hf : find id es with
  | none =>
    obtain ⟨Own, ob, h1⟩ := h.is
    refine (drop_none Own k ga g xg ob mb O p es id hid hf w h1).mono ?_
    rintro e w' ⟨rfl, hf0⟩
    refine ⟨hf0.zero, O, ?_, .inl ⟨hf, rfl, rfl, drop_of_none hf⟩⟩
    rw [drop_of_none hf]
    exact (h.fr0 hf0).raise
  | some d =>
    obtain ⟨Own, ob, h1, h2, h3, h4, h5, h6, h7, h8⟩ := h
    have hd := (find_mem hf).1
    have hlen := h1.blk.len
    have hTb : ∀ i ∈ d.T, i ≤ 2048 := fun i hi => by have := (h8.out d hd i hi).1; omega
    have hTl : d.T.length ≤ 2048 := by
      have := List.Nodup.length_le_of_subset (l₂ := List.range O.length) (h8.once d hd) (fun i hi => List.mem_range.2 (h8.out d hd i hi).1)
      rw [List.length_range] at this
      omega
    obtain ⟨e1, e2, e3⟩ := h8.drop hf h1.rise
    refine (drop_some Own k ga g xg ob mb O p es id hid d hf hTl hTb w h1).mono ?_
    rintro e w' ⟨rfl, q, hq, hf2⟩
    have hsz := hf2.size
    have htop := h6.2.2
    refine ⟨hf2.mono (fun j _ hj => ⟨⟨(h3 j hj).1, (h3 j hj).2.1⟩, (h3 j hj).2.2⟩), gave O (nints d.T), ?_, .inr ⟨d, hf, by rw [e1], e3⟩⟩
    refine ⟨fun j => Grow Own w j ∧ j < w'.heap.size, q, hq.mono (fun j hj ho => ⟨ho, hj⟩), h2.fr hf2 h4.1 h4.2.1 h4.2.2, fun j hj => ⟨?_, hj.2, ?_⟩,
      ⟨fun hh => hh.1.elim h4.1 (fun hh => by omega), fun hh => hh.1.elim h4.2.1 (fun hh => by omega), fun hh => hh.1.elim h4.2.2 (fun hh => by omega)⟩, ⟨by omega, by omega, by omega⟩, ⟨h6.1, fun j hj => Nat.lt_of_lt_of_le (h6.2.1 j hj) hsz, Nat.le_refl _⟩, h7, e2⟩
    · rcases hj.1 with hj | hj
      · exact (h3 j hj).1
      · have := h2.gB; omega
    · rcases hj.1 with hj | hj
      · exact (h3 j hj).2.2
      · exact fun hm => by have := h6.2.1 j hm; omega
theorem one_get (base top : Nat) (ex : List Nat) (ga pb cb : Nat) (L : List Int) (k g xg mb : Nat) (bs : List UInt8) (O : List Bool) (p : Nat) (es : List Ent) (id : Int) (hid : -9223372036854775808 ≤ id ∧ id ≤ 9223372036854775807) (d : Ent) (hf : find id es = some d) (w : World) (h : One base top ex w ga pb cb L k g xg mb bs O p es) :
    Calls Try.prog 12 #[ptr g, .int .i64 id] w (GetPost d.x w) := by
  obtain ⟨Own, ob, h1, h2, h3, h4, h5, h6, h7, h8⟩ := h
  have hd := (find_mem hf).1
  have hlen := h1.blk.len
  have hTl : d.T.length ≤ 2048 := by
    have := List.Nodup.length_le_of_subset (l₂ := List.range O.length) (h8.once d hd) (fun i hi => List.mem_range.2 (h8.out d hd i hi).1)
    rw [List.length_range] at this
    omega
  have hw := h8.wide d hd
  have := get_some base ga pb cb L bs Own k g xg ob mb O p es id hid d hf (by unfold need at hw; omega) hw (fun i hi => by have := (h8.out d hd i hi).1; omega) h7 w h2 h1
  rwa [h8.told d hd] at this
theorem one_live (base top : Nat) (ex : List Nat) (ga pb cb : Nat) (L : List Int) (k g xg mb : Nat) (bs : List UInt8) (O : List Bool) (p : Nat) (es : List Ent) (w : World) (h : One base top ex w ga pb cb L k g xg mb bs O p es) :
    Calls Try.prog 16 #[ptr g] w fun e w' => e = .returned (.int .i64 (live es : Int)) ∧ Fr0 w w' := by
  obtain ⟨Own, ob, h1⟩ := h.is
  have h2 := h.good.live
  have h3 := h.len
  exact live_any Own k ga g xg ob mb O p es (by omega) w h1
theorem one_room (base top : Nat) (ex : List Nat) (ga pb cb : Nat) (L : List Int) (k g xg mb : Nat) (bs : List UInt8) (O : List Bool) (p : Nat) (es : List Ent) (w : World) (h : One base top ex w ga pb cb L k g xg mb bs O p es) :
    Calls Try.prog 17 #[ptr g] w fun e w' => e = .returned (.int .i64 (((frees O).length : Int) * 32)) ∧ Fr0 w w' := by
  obtain ⟨Own, ob, h1⟩ := h.is
  exact room_any Own k ga g xg ob mb O p es w h1
theorem one_list (base top : Nat) (ex : List Nat) (ga pb cb : Nat) (L : List Int) (k g xg mb : Nat) (bs : List UInt8) (O : List Bool) (p : Nat) (es : List Ent) (hp : p ≤ 1000000) (w : World) (h : One base top ex w ga pb cb L k g xg mb bs O p es) :
    Calls Try.prog 15 #[ptr g] w (IntsPost (ids es) w) := by
  obtain ⟨Own, ob, h1⟩ := h.is
  have := ids_length h.rise h.good.pos h.most
  exact list_any Own k ga g xg ob mb O p es (by omega) w h1
theorem whole_room {n : Int} (h : 0 ≤ n) : ((32 * whole n : Nat) : Int) ≤ n := by unfold whole; omega
def OneNew (base ga pb cb : Nat) (L : List Int) (bs : List UInt8) (k : Nat) (w : World) (e : Ending) (w' : World) : Prop :=
  Fr0 w w' ∧ ∃ g xg mb, e = .returned (.tuple #[ptr g, .int .i64 0]) ∧ One base w'.heap.size [] w' ga pb cb L k g xg mb bs (List.replicate (whole (L.getD k 0)) false) 0 []
theorem one_new (base ga pb cb : Nat) (L : List Int) (bs : List UInt8) (k : Nat) (w : World) (h : AreP w base ga pb cb L bs) (hk : k < L.length) (hbase : base ≤ w.heap.size) :
    Calls Try.prog 9 #[ptr ga, .int .i64 (k : Int)] w (OneNew base ga pb cb L bs k w) := by
  have hs := cut_succ L k hk
  refine (new_in base ga pb cb L bs k w h hk).mono ?_
  rintro e w' ⟨g, xg, ob, mb, rfl, h1, hf⟩
  have e1 : cut L (k + 1) - cut L k = L.getD k 0 := by omega
  rw [e1] at h1
  have hsz := hf.size
  have l1 := h.g_lt
  have l2 := h.pb_lt
  have l3 := h.cb_lt
  have hp := h.fits.pos k hk
  refine ⟨hf, g, xg, mb, rfl, fun j => w.heap.size ≤ j ∧ j < w'.heap.size, ob, h1.mono (fun j hj ho => ⟨ho, hj⟩), h.fr0 hf, fun j hj => ⟨by omega, hj.2, by simp⟩, ⟨fun hh => by omega, fun hh => by omega, fun hh => by omega⟩, ⟨by omega, by omega, by omega⟩, ⟨by simp, fun j hj => (by cases hj), Nat.le_refl _⟩, hk, Good.start (whole_room hp)⟩
end Go.Proofs.Ytkdpdbjefehmpaa.Hold
