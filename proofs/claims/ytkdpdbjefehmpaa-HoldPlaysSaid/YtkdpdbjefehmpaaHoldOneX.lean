/-
  A hold's Put and Drop, with the bytes and the blocks told.
-/
import Derived.Test.YtkdpdbjefehmpaaHoldOne
namespace Go.Proofs.Ytkdpdbjefehmpaa.Hold
open Go.RowKit Base Go.Maps Arena
open Blocks (whole whole_le frees nints tout took terr give gave gerr)

def OnePutX (base top : Nat) (ex : List Nat) (ga pb cb : Nat) (L : List Int) (k g xg mb : Nat) (bs : List UInt8) (O : List Bool) (p : Nat) (es : List Ent) (x : List UInt8) (w : World) (e : Ending) (w' : World) : Prop :=
  Fr (fun j => (base ≤ j ∧ j < top) ∧ j ∉ ex) w w' ∧
  ((need x.length ≤ (frees O).length ∧ ∃ d, e = .returned (.tuple #[.int .i64 ((p : Int) + 1), .int .i64 0]) ∧ d.id = (p : Int) + 1 ∧ d.x = x ∧ d.T = tout O (need x.length : Nat) ∧
      One base w'.heap.size ex w' ga pb cb L k g xg mb (puts L k (tout O (need x.length : Nat)) x (tout O (need x.length : Nat)).length bs) (took O (need x.length : Nat)) (p + 1) (es ++ [d])) ∨
   (¬ need x.length ≤ (frees O).length ∧ e = .returned (.tuple #[.int .i64 0, .int .i64 6]) ∧ One base w'.heap.size ex w' ga pb cb L k g xg mb bs O p es))
theorem one_putX (base top : Nat) (ex : List Nat) (ga pb cb : Nat) (L : List Int) (k g xg mb : Nat) (bs : List UInt8) (O : List Bool) (p : Nat) (es : List Ent) (x : List UInt8) (vb : Value) (w : World) (hx : x.length ≤ 65536) (hp : p ≤ 1000000) (h : One base top ex w ga pb cb L k g xg mb bs O p es) (hb : BytesIs w vb x) (hv : x ≠ [] → ∀ a n c, vb = .slice (some a) n c → a.block < base ∨ top ≤ a.block) :
    Calls Try.prog 10 #[ptr g, vb] w (OnePutX base top ex ga pb cb L k g xg mb bs O p es x w) := by
  obtain ⟨Own, ob, h1, h2, h3, h4, h5, h6, h7, h8⟩ := h
  refine (put_any base ga pb cb L bs Own k g xg ob mb O p es x vb w hx hp h7 h2 h4 h1 hb (fun hx0 a n c hh => ?_)).mono ?_
  · have := hv hx0 a n c hh
    have hpb := h2.pB
    refine ⟨fun ho => ?_, fun e => ?_⟩
    · have := h3 _ ho; omega
    · omega
  · rintro e w' ⟨hf, hc⟩
    have hsz := hf.size
    have htop := h6.2.2
    have hown : ∀ j, Grow Own w j → base ≤ j ∧ j ∉ ex := fun j hj => by
      rcases hj with hj | hj
      · exact ⟨(h3 j hj).1, (h3 j hj).2.2⟩
      · exact ⟨by have := h2.gB; omega, fun hm => by have := h6.2.1 j hm; omega⟩
    have key : ∀ (O' : List Bool) (p' : Nat) (es' : List Ent) (bs' : List UInt8), HoldP w' (Grow Own w) k ga g xg ob mb O' p' es' → AreP w' base ga pb cb L bs' → Good L k bs' O' p' es' → One base w'.heap.size ex w' ga pb cb L k g xg mb bs' O' p' es' := fun O' p' es' bs' a1 a2 a3 =>
      ⟨fun j => Grow Own w j ∧ j < w'.heap.size, ob, a1.mono (fun j hj ho => ⟨ho, hj⟩), a2, fun j hj => ⟨(hown j hj.1).1, hj.2, (hown j hj.1).2⟩,
        ⟨fun hh => hh.1.elim h4.1 (fun hh => by omega), fun hh => hh.1.elim h4.2.1 (fun hh => by omega), fun hh => hh.1.elim h4.2.2 (fun hh => by omega)⟩, ⟨by omega, by omega, by omega⟩, ⟨h6.1, fun j hj => Nat.lt_of_lt_of_le (h6.2.1 j hj) hsz, Nat.le_refl _⟩, h7, a3⟩
    refine ⟨hf.mono (fun j _ hj => ?_), ?_⟩
    · rcases hj with hj | hj
      · exact ⟨⟨(h3 j hj).1, (h3 j hj).2.1⟩, (h3 j hj).2.2⟩
      · rw [hj]; exact ⟨⟨h2.pB, h5.2.1⟩, h6.1.2.1⟩
    · rcases hc with ⟨c1, A, C, c2, c3, c4⟩ | ⟨c1, c2, c3, c4⟩
      · exact .inl ⟨c1, _, c2, rfl, rfl, rfl, key _ _ _ _ c3 c4 (h8.put h2.fits h7 c1 rfl rfl rfl)⟩
      · exact .inr ⟨c1, c2, key _ _ _ _ c3 c4 h8⟩
def OneDropX (base top : Nat) (ex : List Nat) (ga pb cb : Nat) (L : List Int) (k g xg mb : Nat) (bs : List UInt8) (O : List Bool) (p : Nat) (es : List Ent) (id : Int) (d : Ent) (w : World) (e : Ending) (w' : World) : Prop :=
  Fr (fun j => (base ≤ j ∧ j < top) ∧ j ∉ ex) w w' ∧ e = .returned (.int .i64 0) ∧ One base w'.heap.size ex w' ga pb cb L k g xg mb bs (gave O (nints d.T)) p (drop id es)
theorem one_dropX (base top : Nat) (ex : List Nat) (ga pb cb : Nat) (L : List Int) (k g xg mb : Nat) (bs : List UInt8) (O : List Bool) (p : Nat) (es : List Ent) (id : Int) (hid : -9223372036854775808 ≤ id ∧ id ≤ 9223372036854775807) (d : Ent) (hf : find id es = some d) (w : World) (h : One base top ex w ga pb cb L k g xg mb bs O p es) :
    Calls Try.prog 11 #[ptr g, .int .i64 id] w (OneDropX base top ex ga pb cb L k g xg mb bs O p es id d w) := by
  obtain ⟨Own, ob, h1, h2, h3, h4, h5, h6, h7, h8⟩ := h
  have hd := (find_mem hf).1
  have hlen := h1.blk.len
  have hTb : ∀ i ∈ d.T, i ≤ 2048 := fun i hi => by have := (h8.out d hd i hi).1; omega
  have hTl : d.T.length ≤ 2048 := by
    have := List.Nodup.length_le_of_subset (l₂ := List.range O.length) (h8.once d hd) (fun i hi => List.mem_range.2 (h8.out d hd i hi).1)
    rw [List.length_range] at this
    omega
  obtain ⟨e1, e2, e3⟩ := h8.drop hf h1.rise
  refine (drop_some Own k ga g xg ob mb O p es id hid d hf hTl hTb w h1).mono ?_
  rintro e w' ⟨rfl, q, hq, hf2⟩
  have hsz := hf2.size
  have htop := h6.2.2
  refine ⟨hf2.mono (fun j _ hj => ⟨⟨(h3 j hj).1, (h3 j hj).2.1⟩, (h3 j hj).2.2⟩), by rw [e1], ?_⟩
  refine ⟨fun j => Grow Own w j ∧ j < w'.heap.size, q, hq.mono (fun j hj ho => ⟨ho, hj⟩), h2.fr hf2 h4.1 h4.2.1 h4.2.2, fun j hj => ⟨?_, hj.2, ?_⟩,
    ⟨fun hh => hh.1.elim h4.1 (fun hh => by omega), fun hh => hh.1.elim h4.2.1 (fun hh => by omega), fun hh => hh.1.elim h4.2.2 (fun hh => by omega)⟩, ⟨by omega, by omega, by omega⟩, ⟨h6.1, fun j hj => Nat.lt_of_lt_of_le (h6.2.1 j hj) hsz, Nat.le_refl _⟩, h7, e2⟩
  · rcases hj.1 with hj | hj
    · exact (h3 j hj).1
    · have := h2.gB; omega
  · rcases hj.1 with hj | hj
    · exact (h3 j hj).2.2
    · exact fun hm => by have := h6.2.1 j hm; omega
end Go.Proofs.Ytkdpdbjefehmpaa.Hold
