/-
  Two rows of pieces that read alike are alike; the reference's Feed, dead or not.
-/
import Derived.Test.YtggdpmfghbnhcaaDoorFrameAwake
import Derived.Test.YtggdpmfghbnhcaaDoorFrameRefFeed
import Derived.Test.YtggdpmfghbnhcaaDoorFrameRef
namespace Go.Proofs.YtggdpmfghbnhcaaDoor.Frame
open Go.RowKit Base Pack Crc

theorem rfed_any (g : Nat) (q : Option Nat) (l : List UInt8) (d : Bool) (b : List UInt8) (v : Value) (w : World) (hok : Ok l d) (h : RefAt w g q l d) (hbl : b.length ≤ 1000000000) (hB : BytesIs w v b) :
    Calls Tryd.prog 17 #[ptr g, v] w (RFeedPost g q l d b w) := by
  cases d with
  | true => exact refFeed_dead g q l b v w h (by unfold Ok at hok; simpa using hok)
  | false => exact refFeed_live g q l b v w h (by have := hok.le; omega) hbl hB
/-- where its bytes lie counts only where there are some -/
theorem RefAt.frB {S : Nat → Prop} {w w' : World} {g : Nat} {q : Option Nat} {l : List UInt8} {d : Bool} (h : RefAt w g q l d) (hf : Fr S w w') (hg : ¬ S g) (hq : 0 < l.length → ∀ k, q = some k → ¬ S k) : RefAt w' g q l d := by
  obtain ⟨sv, rfl, hr, hb⟩ := h
  exact ⟨sv, rfl, hf.row hr hg, bytes_keep hb hf (fun a n c hv hl => hq hl _ (by rw [hv]; rfl))⟩
theorem RefAt.q_lt {w : World} {g : Nat} {q : Option Nat} {l : List UInt8} {d : Bool} (h : RefAt w g q l d) (hl : 0 < l.length) : ∀ k, q = some k → k < w.heap.size := by
  obtain ⟨sv, rfl, hr, hb⟩ := h
  intro k hk
  obtain ⟨a, c, rfl⟩ := hb.form
  cases a with
  | none => cases hk
  | some a => cases hk; exact bytes_lt hb a _ _ rfl hl
set_option maxRecDepth 100000 in
set_option maxHeartbeats 4000000 in
theorem same_any (v0 v1 : Value) (L : List Pc) (S0 S1 : Nat → Prop) (w : World) (hL : L.length ≤ 1000000000000) (h0 : Pieces w S0 v0 L) (h1 : Pieces w S1 v1 L) :
    Calls Tryd.prog 16 #[v0, v1] w fun e w' => e = .returned (.bool true) ∧ Fr0 w w' := by
  obtain ⟨A, C, rfl⟩ := h0.form
  obtain ⟨A', C', rfl⟩ := h1.form
  have H0 := Lib.hid h0
  have H1 := Lib.hid h1
  clear h0 h1
  go_enter Tryd.func16, Tryd.ntmps16
  go_wp2_with fail
  go_loopg [5] L.length (fun kx vi wr => ∃ i : Nat, vi = .int .i64 (i : Int) ∧ i ≤ L.length ∧ L.length - i ≤ kx ∧ Hid (Fr0 w wr))
  case atStart => exact ⟨0, rfl, Nat.zero_le _, by omega, Lib.hid (Fr.refl _ _)⟩
  case round =>
    obtain ⟨i, rfl, hi, hk2, HFR⟩ := hrel
    by_cases hil : i < L.length
    · obtain ⟨pb, po, rfl, hat⟩ := (H0.out.fr0 HFR.out).at.2 (by omega)
      obtain ⟨sv, k0, k1, hb1, _⟩ := hat i hil
      obtain ⟨pb', po', rfl, hat'⟩ := (H1.out.fr0 HFR.out).at.2 (by omega)
      obtain ⟨sv', k0', k1', hb2, _⟩ := hat' i hil
      have i1 : (i : Int) < (L.length : Int) := by omega
      have i2 : 0 ≤ (i : Int) := by omega
      have hcv1 := fun nq : Nat => (hb1.fr0 ((Fr.refl _ wr).drewN nq)).convert (P := Tryd.prog) 23 9 5 Tryd.underlying23 Tryd.underlying5 Tryd.underlying9
      have hcv2 := fun nq : Nat => (hb2.fr0 ((Fr.refl _ wr).drewN nq)).convert (P := Tryd.prog) 23 9 5 Tryd.underlying23 Tryd.underlying5 Tryd.underlying9
      clear hb1 hb2 hat hat'
      generalize L[i].e = en at *
      generalize (⟨L[i].b.toArray⟩ : ByteArray) = st at *
      go_wp2
      go_quiet (fail)
      go_wp2
      have HFR2 := Lib.hid (HFR.out.drewN nq)
      generalize wr.drewN nq = w9 at *
      go_roundg (L.length - (i + 1))
      case measure => omega
      case rel => exact ⟨i + 1, by simp, by omega, by omega, HFR2⟩
    · obtain rfl : i = L.length := by omega
      go_wp2
      go_ret
      exact ⟨rfl, HFR.out⟩
end Go.Proofs.YtggdpmfghbnhcaaDoor.Frame
