/-
  The walk of blocks' Give.
-/
import Derived.Test.YtkdpdbjefehmpaaBlkTake
namespace Go.Proofs.Ytkdpdbjefehmpaa.Blocks
open Go.RowKit Base Arena

theorem drop_at {l : List Int} {k : Nat} (h : k < l.length) : l.drop k = l.getD k 0 :: l.drop (k + 1) := by
  rw [List.drop_eq_getElem_cons h]
  simp [h]
/-- what the program's Give answers, and does: a new row may have taken the old one's place -/
def GivePost (B g ob : Nat) (O : List Bool) (l : List Int) (w : World) (e : Ending) (w' : World) : Prop :=
  e = .returned (.int .i64 (gerr O l)) ∧ ∃ q, BlkP w' B g q (gave O l) ∧ (q = ob ∨ w.heap.size ≤ q) ∧ Fr1 g w w'
theorem give_none {B g ob : Nat} {O : List Bool} {l : List Int} {w w' : World} (h : give O l = none) (hB : BlkP w' B g ob O) (hf : Fr0 w w') : GivePost B g ob O l w (.returned (.int .i64 1)) w' := by
  obtain ⟨h1, h2⟩ := gave_none h
  refine ⟨by rw [h2], ob, ?_, .inl rfl, hf.zero⟩
  rw [h1]
  exact hB
set_option maxHeartbeats 4000000 in
theorem give_any (B g ob : Nat) (O : List Bool) (v : Value) (l : List Int) (hl : l.length ≤ 9223372036854775807) (hbd : ∀ n ∈ l, -9223372036854775808 ≤ n ∧ n ≤ 9223372036854775807) (w : World) (h : BlkP w B g ob O) (hI : IntsIs w v l) :
    Calls Try.prog 32 #[.pointer (some ⟨g, 0, none⟩), v] w (GivePost B g ob O l w) := by
  obtain ⟨C, hr, hb⟩ := h.obj
  have c0 := hr.cell (i := 0) (by decide)
  have HB := Lib.hid h
  have hlen := h.len
  have hcl := clone_any ob C O (by omega) w hb
  obtain ⟨a, cap, pb, po, rfl, hcap, ha, hc⟩ := hI
  have HA := Lib.hid ha
  have HC := Lib.hid hc
  have HBD := Lib.hid hbd
  clear h hr hb ha hc hbd hcap
  go_enter Try.func32, Try.ntmps32
  go_wp2_with fail
  refine hcl.mono ?_
  rintro e w1 ⟨q, C1, rfl, hq, hqs, hf⟩
  have HQ := Lib.hid hq
  have HQS : Hid (w.heap.size ≤ q ∧ B ≤ q ∧ g ≠ q) := Lib.hid ⟨hqs, by have := HB.out.ob_lt; have := HB.out.oB; omega, by have := HB.out.g_lt; omega⟩
  have HF1 := Lib.hid hf
  have hC1 := hq.cap
  clear hcl hq hqs hf c0
  go_wp2
  go_loopg [15] l.length (fun kx i wr => ∃ (k : Nat) (L : List Bool), i = .int .i64 k ∧ k ≤ l.length ∧ l.length - k ≤ kx ∧ Hid (BoolsAt wr 4 q C1 L) ∧ Hid (L.length = O.length) ∧ Hid (give O l = give L (l.drop k)) ∧ Hid (Fr0 w wr))
  case atStart => exact ⟨0, O, rfl, Nat.zero_le _, by omega, HQ, Lib.hid rfl, Lib.hid rfl, HF1⟩
  case round =>
    clear HQ HF1
    obtain ⟨k, L, rfl, hk, hg, HQ, HL, HG, HF⟩ := hrel
    have HBk : Hid (BlkP wr B g ob O) := Lib.hid (HB.out.fr0 HF.out)
    by_cases hlt : k < l.length
    · obtain rfl := HA.out (by omega)
      have d0 : wr.cell? ⟨pb, po + k, none⟩ = some (.int .i64 (l.getD k 0)) := (HF.out.cell (p := ⟨pb, po + k, none⟩) (World.block_lt_of_cell? w _ (HC.out k hlt)) (fun f => f)).trans (HC.out k hlt)
      have hx := HBD.out (l.getD k 0) (by simp [hlt])
      have HD := Lib.hid (drop_at hlt)
      have i1 : (k : Int) < (l.length : Int) := by omega
      have i2 : 0 ≤ (k : Int) := by omega
      generalize l.getD k 0 = x at *
      by_cases hx0 : x < 0
      · have HP : Hid (GivePost B g ob O l w (.returned (.int .i64 1)) wr) := Lib.hid (give_none (by rw [HG.out, HD.out, give_bad (by omega)]) HBk.out HF.out)
        go_wp2
        go_ret
        exact HP.out
      · obtain ⟨y, rfl⟩ := Int.eq_ofNat_of_zero_le (show 0 ≤ x by omega)
        by_cases hx1 : O.length ≤ y
        · have HP : Hid (GivePost B g ob O l w (.returned (.int .i64 1)) wr) := Lib.hid (give_none (by rw [HG.out, HD.out, give_bad (by rw [HL.out]; omega)]) HBk.out HF.out)
          have i3 : ¬ (y : Int) < (O.length : Int) := by omega
          have i5 : (O.length : Int) ≤ (y : Int) := by omega
          go_wp2
          go_ret
          exact HP.out
        · have hyl : y < L.length := by rw [HL.out]; omega
          have d1 := HQ.out.cell y hyl
          have df := HQ.out.frozen y
          have i3 : (y : Int) < (O.length : Int) := by omega
          have i5 : ¬ (O.length : Int) ≤ (y : Int) := by omega
          cases hxt : L.getD y false with
          | false =>
            rw [hxt] at d1
            have HP : Hid (GivePost B g ob O l w (.returned (.int .i64 1)) wr) := Lib.hid (give_none (by rw [HG.out, HD.out, give_bad (by rw [Int.toNat_natCast, hxt]; simp)]) HBk.out HF.out)
            clear hxt
            go_wp2
            go_ret
            exact HP.out
          | true =>
            rw [hxt] at d1
            have HG2 : Hid (give O l = give (L.set y false) (l.drop (k + 1))) := Lib.hid (by rw [HG.out, HD.out, give_ok hyl hxt])
            have HQ2 : Hid (BoolsAt (wr.setCell ⟨q, y, none⟩ (.bool false)) 4 q C1 (L.set y false)) := Lib.hid (HQ.out.set y false hyl)
            have HF2 : Hid (Fr0 w (wr.setCell ⟨q, y, none⟩ (.bool false))) := Lib.hid (Fr.setCell (p := ⟨q, y, none⟩) HF.out (fun h => by have h1 := HQS.out.1; have h2 : q < w.heap.size := h; omega) _)
            have HL2 : Hid ((L.set y false).length = O.length) := Lib.hid (by rw [List.length_set]; exact HL.out)
            clear hxt hyl
            go_wp2
            go_roundg (l.length - (k + 1))
            case measure => omega
            case rel => exact ⟨k + 1, _, by simp, by omega, by omega, HQ2, HL2, HG2, HF2⟩
    · obtain rfl : k = l.length := by omega
      have HSOME : Hid (give O l = some L) := Lib.hid (by rw [HG.out, List.drop_length]; rfl)
      have cf := (HBk.out.obj.choose_spec.1).frozen 0
      obtain ⟨_, _, c1⟩ := HBk.out.cell0
      have HP : Hid (GivePost B g ob O l w (.returned (.int .i64 0)) (wr.setCell ⟨g, 0, none⟩ (.slice (some ⟨q, 0, none⟩) O.length C1))) := Lib.hid (by
        obtain ⟨h1, h2⟩ := gave_some HSOME.out
        refine ⟨by rw [h2], q, ?_, .inr HQS.out.1, Fr.setCell (S := fun k => k = g) (p := ⟨g, 0, none⟩) HF.out.zero (fun _ => rfl) _⟩
        rw [h1]
        have := HBk.out.swap HQ.out HL.out HQS.out.2.1 HQS.out.2.2
        rwa [HL.out] at this)
      go_wp2
      go_ret
      exact HP.out
end Go.Proofs.Ytkdpdbjefehmpaa.Blocks
