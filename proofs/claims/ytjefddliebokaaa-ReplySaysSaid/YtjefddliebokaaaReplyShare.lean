/-
  What the laws' walks share: answers of a slice; how many are told.
-/
import Derived.Test.YtjefddliebokaaaReplyAwake
import Derived.Test.YtjefddliebokaaaReplyLawK
import Derived.Test.YtjefddliebokaaaReplyRefLog
import Derived.Test.YtjefddliebokaaaMixS
namespace Go.Proofs.Ytjefddliebokaaa.ReplyL
open Go.RowKit Base Pack _root_.Go.Proofs.Ytjefddliebokaaa.Reply

/-- answer i of a slice: its four cells in any later world, its body's slice -/
theorem reps_at {S : Nat → Prop} {w : World} {a : Option Addr} {n cap : Nat} {L : List Rp} (h : Reps w S (.slice a n cap) L) (i : Nat) (hi : i < L.length) :
    ∃ pb po B D, a = some ⟨pb, po, none⟩ ∧ (∀ wr, Fr0 w wr → wr.cell? ⟨pb, po + i * 4, none⟩ = some (.int .i64 (L.getD i zero).st) ∧ wr.cell? ⟨pb, po + i * 4 + 1, none⟩ = some (.bool (L.getD i zero).hit) ∧ wr.cell? ⟨pb, po + i * 4 + 2, none⟩ = some (.int .u32 ((L.getD i zero).slot : Int)) ∧ wr.cell? ⟨pb, po + i * 4 + 3, none⟩ = some (.slice B (L.getD i zero).body.length D)) ∧ BytesIs w (.slice B (L.getD i zero).body.length D) (L.getD i zero).body := by
  have hg : L.getD i zero = L[i] := by rw [List.getD_eq_getElem?_getD, List.getElem?_eq_getElem hi]; rfl
  rw [hg]
  obtain ⟨pb, po, sv, ha, hc, hb, _, _⟩ := h.at i hi
  obtain ⟨B, D, rfl⟩ := hb.form
  refine ⟨pb, po, B, D, ha, fun wr hf => ?_, hb⟩
  have k0 := hc 0 (by decide)
  have k1 := hc 1 (by decide)
  have k2 := hc 2 (by decide)
  have k3 := hc 3 (by decide)
  exact ⟨(hf.cell (World.block_lt_of_cell? w _ k0) (fun f => f)).trans k0, (hf.cell (World.block_lt_of_cell? w _ k1) (fun f => f)).trans k1, (hf.cell (World.block_lt_of_cell? w _ k2) (fun f => f)).trans k2, (hf.cell (World.block_lt_of_cell? w _ k3) (fun f => f)).trans k3⟩
theorem flat_le (l : List Rp) : l.length ≤ (l.map putB).flatten.length := by
  induction l with
  | nil => exact Nat.le_refl _
  | cons r l ih =>
    rw [List.map_cons, List.flatten_cons, List.length_append, List.length_cons, putB_length]
    omega
theorem log_short (b : List UInt8) : (log b).l.length ≤ b.length := by
  by_cases h : (log b).e = 0
  · have h1 : log b = ⟨(log b).l, 0⟩ := by
      cases hq : log b
      rw [hq] at h
      simp only at h
      rw [h]
    have h2 := (puts_log b _ h1).1
    have h3 := flat_le (log b).l
    rw [h2] at h3
    exact h3
  · rw [log_none h]
    exact Nat.zero_le _
theorem same_self (A B : Option Addr) (C D : Nat) (a : Rp) (w : World) (hA : BytesIs w (.slice A a.body.length C) a.body) (hB : BytesIs w (.slice B a.body.length D) a.body) :
    Calls Try.prog 19 #[.agg (rp4 (.slice A a.body.length C) a), .agg (rp4 (.slice B a.body.length D) a)] w fun e w' => e = .returned (.bool true) ∧ Fr0 w w' := by
  have h := same_any A B C D a a w hA hB
  rw [(sameR_iff a a).2 rfl] at h
  exact h
end Go.Proofs.Ytjefddliebokaaa.ReplyL
