/-
  The program's index: rows of entries, and an ord of ints by their keys; its blocks told, so that two may stand side by side.
-/
import Derived.Test.YtnglmkombogheaaIndexRow
import Derived.Test.YtnglmkombogheaaOrdInInt
import Derived.Test.YtnglmkombogheaaMixS
import Derived.Test.YtnglmkombogheaaChecked
import Derived.WalkKit
import Derived.KernelRfl
import Derived.BigQuiet
import Derived.OwnWalk
import Derived.Deep.DeepCutAuto
import Derived.Deep.LoopGhost
import Derived.Deep.MidRow
namespace Go.Proofs.Ytnglmkombogheaa.Index
open Go.RowKit Base
open _root_.Go.Proofs.Ytnglmkombogheaa.Ord (Ent ptr Sorted Grown OrdIn FrO Mine held new_int_in put_int_new_in drop_int_some_in get_int_none get_int_some put_int_full clone)

theorem infoE : (Try.prog.info? 28).map (·.size) = some 5 := by kernel_rfl
theorem infoE3 : (Try.prog.info? 28).map (fun i => (i.zero, i.size, i.bytes)) = some (some (.agg #[.string ⟨#[]⟩, .string ⟨#[]⟩, .int .i64 0, .int .i64 0, .bool false]), 5, 56) := by kernel_rfl
/-- the program's index lies at g, its ord at o; all its blocks are in O -/
structure IxIn (O : Nat → Prop) (w : World) (g o : Nat) (A : Option Addr) (C : Nat) (L : List En) (es : List Ent) : Prop where
  row : w.heap[g]? = some (.cells #[.slice A L.length C, ptr o] 50 (0, 0))
  own : w.ownsRow 0 28 5 (.slice A L.length C) L.length (ecells L)
  hg : O g
  hA : ∀ b, (Value.slice A L.length C).ownBlock = some b → O b
  ord : OrdIn O w 56 59 58 o 4096 es
  keys : Keys es L
section
variable {O : Nat → Prop} {w : World} {g o : Nat} {A : Option Addr} {C : Nat} {L : List En} {es : List Ent}
theorem IxIn.lt (h : IxIn O w g o A C L es) : g < w.heap.size := (Array.getElem?_eq_some_iff.1 h.row).1
theorem IxIn.mono {O' : Nat → Prop} (h : IxIn O w g o A C L es) (ho : ∀ k, O k → O' k) : IxIn O' w g o A C L es :=
  ⟨h.row, h.own, ho _ h.hg, fun b hb => ho _ (h.hA b hb), h.ord.mono ho, h.keys⟩
theorem IxIn.fr {S : Nat → Prop} {w' : World} (h : IxIn O w g o A C L es) (hf : Fr S w w') (hS : ∀ k, k < w.heap.size → O k → ¬ S k) : IxIn O w' g o A C L es :=
  ⟨hf.heap h.row (hS g h.lt h.hg), ownsFr hf h.own (fun q hq => hS q (h.own.lt q hq).2 (h.hA q hq)), h.hg, h.hA, h.ord.fr hf hS, h.keys⟩
theorem IxIn.fr0 {w' : World} (h : IxIn O w g o A C L es) (hf : Fr0 w w') : IxIn O w' g o A C L es := h.fr hf fun _ _ _ f => f
theorem IxIn.c0 (h : IxIn O w g o A C L es) : w.cell? ⟨g, 0, none⟩ = some (.slice A L.length C) := by rw [cell_of_row _ _ _ _ _ _ h.row]; rfl
theorem IxIn.c1 (h : IxIn O w g o A C L es) : w.cell? ⟨g, 1, none⟩ = some (ptr o) := by rw [cell_of_row _ _ _ _ _ _ h.row]; rfl
/-- row i of them -/
theorem IxIn.at (h : IxIn O w g o A C L es) (i : Nat) (hi : i < L.length) : ∃ b, A = some ⟨b, 0, none⟩ ∧ O b ∧ b < w.heap.size ∧ (∃ cs, w.heap[b]? = some (.cells cs 28 (0, 0)) ∧ L.length * 5 ≤ cs.size) ∧
    (w.cell? ⟨b, i * 5, none⟩ = some (.string (L.getD i zeroE).k) ∧ w.cell? ⟨b, i * 5 + 1, none⟩ = some (.string (L.getD i zeroE).s) ∧ w.cell? ⟨b, i * 5 + 2, none⟩ = some (.int .i64 (L.getD i zeroE).id) ∧ w.cell? ⟨b, i * 5 + 3, none⟩ = some (.int .i64 (L.getD i zeroE).sz) ∧ w.cell? ⟨b, i * 5 + 4, none⟩ = some (.bool (L.getD i zeroE).u)) := by
  have hx := h.own.2
  rcases hx with ⟨_, h0⟩ | ⟨b, cap, cur, hv, hb, hgb, hc, hm, hs, ht⟩
  · omega
  · cases hv
    have hcell : ∀ k, k < 5 → w.cell? ⟨b, i * 5 + k, none⟩ = some ((e5 (L.getD i zeroE)).getD k undef) := fun k hk => by
      rw [cell_of_row _ _ _ _ _ _ hgb, ← cellE_at L i k hk]
      have h1 := ecells_get L (i * 5 + k) (by omega)
      rw [← ht, List.getElem?_take, if_pos (by omega)] at h1
      simpa using h1
    exact ⟨b, rfl, h.hA b rfl, (Array.getElem?_eq_some_iff.1 hgb).1, ⟨cur, hgb, by rw [hs]; exact Nat.mul_le_mul_right _ hc⟩, hcell 0 (by decide), hcell 1 (by decide), hcell 2 (by decide), hcell 3 (by decide), hcell 4 (by decide)⟩
end
/-- the program's index lies at g, its blocks in O -/
def IxAt (O : Nat → Prop) (w : World) (g : Nat) (L : List En) : Prop := OkX L ∧ ∃ o A C es, IxIn O w g o A C L es
section
variable {O : Nat → Prop} {w : World} {g : Nat} {L : List En}
theorem IxAt.ok (h : IxAt O w g L) : OkX L := h.1
theorem IxAt.hg (h : IxAt O w g L) : O g ∧ g < w.heap.size := by
  obtain ⟨_, o, A, C, es, h⟩ := h
  exact ⟨h.hg, h.lt⟩
theorem IxAt.mono {O' : Nat → Prop} (h : IxAt O w g L) (ho : ∀ k, O k → O' k) : IxAt O' w g L := by
  obtain ⟨h1, o, A, C, es, h⟩ := h
  exact ⟨h1, o, A, C, es, h.mono ho⟩
theorem IxAt.fr {S : Nat → Prop} {w' : World} (h : IxAt O w g L) (hf : Fr S w w') (hS : ∀ k, k < w.heap.size → O k → ¬ S k) : IxAt O w' g L := by
  obtain ⟨h1, o, A, C, es, h⟩ := h
  exact ⟨h1, o, A, C, es, h.fr hf hS⟩
theorem held_full : held 4096 = 4096 := rfl
theorem inew_any (w : World) : Calls Try.prog 7 #[] w fun e w' => ∃ g, e = .returned (ptr g) ∧ IxAt (fun k => w.heap.size ≤ k ∧ k < w'.heap.size) w' g [] ∧ Fr0 w w' := by
  have HNEW := Lib.hid (new_int_in 4096 w)
  rw [held_full] at HNEW
  generalize hPT : (fun (e : Ending) (w' : World) => ∃ g, e = .returned (ptr g) ∧ IxAt (fun k => w.heap.size ≤ k ∧ k < w'.heap.size) w' g [] ∧ Fr0 w w') = post
  have HP : Hid (∀ w1 o, OrdIn (fun k => w.heap.size ≤ k ∧ k < w1.heap.size) w1 56 59 58 o 4096 [] → Fr0 w w1 → post (.returned (.pointer (some ⟨w1.heap.size, 0, none⟩))) (w1.alloc (.cells #[.slice none 0 0, .pointer (some ⟨o, 0, none⟩)] 50))) := Lib.hid (fun w1 o hO hF => by
    rw [← hPT]
    have hs := hF.size
    have hF1 : Fr0 w1 (w1.alloc (.cells #[.slice none 0 0, ptr o] 50)) := (Fr.refl _ _).alloc _
    refine ⟨_, rfl, ⟨okX_nil, o, none, 0, [], heap_alloc_new w1 _, World.ownsRow_nil _ _ _ _, ⟨hs, by simp⟩, fun b hb => (by cases hb), (hO.fr0 hF1).mono (fun k hk => ⟨hk.1, Nat.lt_of_lt_of_le hk.2 hF1.size⟩), keys_nil⟩, hF.trans' hF1⟩)
  clear hPT
  unfold ptr at HNEW
  go_enter Try.func7, Try.ntmps7
  go_wp2_with fail
  refine HNEW.out.mono ?_
  rintro e w1 ⟨o, rfl, -, hO, hF⟩
  have HE := Lib.hid (HP.out w1 o hO hF)
  clear HP HNEW hO hF
  go_wp2
  exact HE.out
theorem ifind_any (O : Nat → Prop) (g : Nat) (L : List En) (k : ByteArray) (w : World) (h : IxAt O w g L) :
    Calls Try.prog 17 #[ptr g, .string k] w fun e w' => e = .returned (.tuple #[.int .i64 (findX k L : Int), .bool (hasX k L)]) ∧ Fr0 w w' := by
  obtain ⟨ho, o, A, C, es, hp⟩ := h
  have c1 := hp.c1
  have hks := hp.keys.has hp.ord.srt ho k
  have HF := Lib.hid (Fr.refl (fun _ => False) w)
  cases hh : hasX k L with
  | false =>
    have HGET := Lib.hid (get_int_none 0 o 4096 es k w hp.ord.at (by rw [hks]; exact hh))
    rw [show findX k L = 0 by unfold findX; rw [hh]; rfl]
    clear hp ho hh hks
    unfold ptr at *
    go_enter Try.func17, Try.ntmps17
    go_wp2_with fail
    refine HGET.out.mono ?_
    rintro e w ⟨rfl, rfl⟩
    go_wp2
    go_ret2
    exact ⟨rfl, HF.out⟩
  | true =>
    have HGET := Lib.hid (get_int_some 0 o 4096 es k _ w hp.ord.at (hp.keys.val hp.ord.srt hh))
    rw [show findX k L = place k L by unfold findX; rw [hh]; rfl]
    clear hp ho hh hks
    generalize place k L = n at *
    unfold ptr at *
    go_enter Try.func17, Try.ntmps17
    go_wp2_with fail
    refine HGET.out.mono ?_
    rintro e w ⟨rfl, rfl⟩
    go_wp2
    go_ret2
    exact ⟨rfl, HF.out⟩
theorem irows_any (O : Nat → Prop) (g : Nat) (L : List En) (w : World) (h : IxAt O w g L) :
    Calls Try.prog 15 #[ptr g] w fun e w' => e = .returned (.int .i64 (L.length : Int)) ∧ w' = w := by
  obtain ⟨ho, o, A, C, es, hp⟩ := h
  have c0 := hp.c0
  clear hp ho
  unfold ptr at *
  go_enter Try.func15, Try.ntmps15
  go_wp2
  go_ret
  exact ⟨rfl, rfl⟩
end
end Go.Proofs.Ytnglmkombogheaa.Index
