/-
  The walks of blocks' Take and Give.
-/
import Derived.Test.YtkdpdbjefehmpaaBlkCalls
namespace Go.Proofs.Ytkdpdbjefehmpaa.Blocks
open Go.RowKit Base Arena

abbrev I64 (n : Int) : Prop := -9223372036854775808 ≤ n ∧ n ≤ 9223372036854775807
/-- what Take answers, and does -/
def TakePost (X : World → List Bool → Prop) (ob : Nat) (O : List Bool) (n : Int) (w : World) (e : Ending) (w' : World) : Prop :=
  ∃ v, e = .returned (.tuple #[v, .int .i64 (terr O n)]) ∧ IntsIs w' v (nints (tout O n)) ∧ Fresh w v ∧ X w' (took O n) ∧ Fr1 ob w w'
theorem take_bad {X : World → List Bool → Prop} {ob : Nat} {O : List Bool} {n c : Int} {w w' : World} (hc : c ≠ 0) (h : terr O n = c) (hX : X w' O) (hf : Fr0 w w') : TakePost X ob O n w (.returned (.tuple #[.slice none 0 0, .int .i64 c])) w' := by
  subst h
  refine ⟨.slice none 0 0, rfl, ?_, Fresh.nil w, ?_, hf.zero⟩
  · rw [tout_bad hc]; exact IntsIs.nil w'
  · rw [took_bad hc]; exact hX
/-- a new list of numbers, cut at its front part with no room behind it -/
theorem cut_front {P : Program} (t e : TypeId) (ht : P.underlying t = some (.slice e)) (hs : (P.info? e).map (·.size) = some 1) {w : World} {base : Nat} {v : Value} {m : Nat} {l : List Nat} (h : w.ownsRow base e 1 v m (nvals l)) (n : Nat) (hn : n ≤ l.length) :
    ∃ (A : Option Addr) (q : Nat), IntsIs w (.slice A n n) (nints (l.take n)) ∧ (0 < n → A = some ⟨q, 0, none⟩ ∧ base ≤ q) ∧ (∀ a, A = some a → base ≤ a.block) ∧ (∀ j, j < n → w.cell? ⟨q, j, none⟩ = some (.int .i64 ((l.getD j 0 : Nat) : Int))) ∧
      ∀ wx : World, (Instr.sliceAt t v none (some (.int .i64 (n : Int))) (some (.int .i64 (n : Int)))).run P wx = .ok (.slice A n n) wx := by
  obtain ⟨i, hi', hz⟩ : ∃ i, P.info? e = some i ∧ i.size = 1 := by
    cases hq : P.info? e with
    | none => simp [hq] at hs
    | some i => exact ⟨i, rfl, by simpa [hq] using hs⟩
  have hE : P.elem t = e := by simp [Program.elem, ht]
  have hl : l.length = m := by have := h.1; rw [nvals_length] at this; omega
  have hlt : (nints (l.take n)).length = n := by rw [nints_length, List.length_take]; omega
  rcases h.2 with ⟨rfl, hm⟩ | ⟨g, cap, cur, rfl, hb, hg, hnc, hcm, hcs, htk⟩
  · obtain rfl : n = 0 := by omega
    refine ⟨none, 0, ?_, fun h0 => absurd h0 (Nat.lt_irrefl _), (fun a ha => by cases ha), fun j hj => absurd hj (Nat.not_lt_zero _), fun wx => ?_⟩
    · rw [List.take_zero]; exact IntsIs.nil w
    · rw [run_sliceAt_slice wx t _ _ _ _ (by rw [hE]; exact ht), run_slice_hm wx t none 0 0 (by rw [hE]; exact ht) .i64 .i64 _ _ (by omega) (by omega) (by omega), hE]
      simp [sizeOf, typeInfo, hi', hz, sliced, Sem.run_bind]
  · have hcell : ∀ j, j < n → w.cell? ⟨g, j, none⟩ = some (.int .i64 ((l.getD j 0 : Nat) : Int)) := fun j hj => by
      rw [h.cellAt j (by omega), nvals_get l j (by omega), nints_get l j (by omega)]
    refine ⟨some ⟨g, 0, none⟩, g, ⟨_, n, g, 0, by rw [hlt], by rw [hlt]; exact Nat.le_refl _, fun _ => rfl, fun j hj => ?_⟩, fun _ => ⟨rfl, hb⟩, (fun a ha => by cases ha; exact hb), hcell, fun wx => ?_⟩
    · rw [hlt] at hj
      rw [Nat.zero_add, hcell j hj, nints_get _ _ (by rw [List.length_take]; omega)]
      simp [hj]
    · rw [run_sliceAt_slice wx t _ _ _ _ (by rw [hE]; exact ht), run_slice_hm wx t (some ⟨g, 0, none⟩) m cap (by rw [hE]; exact ht) .i64 .i64 _ _ (by omega) (by omega) (by omega), hE]
      by_cases h0 : n = 0 <;> simp [sizeOf, typeInfo, hi', hz, sliced, Sem.run_bind, Addr.add, h0]
set_option maxHeartbeats 4000000 in
theorem take_any (B g ob : Nat) (O : List Bool) (n : Int) (hn : I64 n) (w : World) (h : BlkP w B g ob O) :
    Calls Try.prog 28 #[.pointer (some ⟨g, 0, none⟩), .int .i64 n] w (TakePost (fun w' O' => BlkP w' B g ob O') ob O n w) := by
  have HB := Lib.hid h
  have hlen := h.len
  have hr : Calls _ _ _ w (RowPost (frees O) w) := those_any B g ob O false w h
  clear h
  by_cases h0 : n < 0
  · have HP : Hid (TakePost (fun w' O' => BlkP w' B g ob O') ob O n w (.returned (.tuple #[.slice none 0 0, .int .i64 1])) w) := Lib.hid (take_bad (by decide) (terr_neg h0) HB.out (Fr.refl _ _))
    clear hr
    go_enter Try.func28, Try.ntmps28
    go_wp2
    go_ret2
    exact HP.out
  · go_enter Try.func28, Try.ntmps28
    go_wp2_with fail
    refine hr.mono ?_
    rintro e w1 ⟨v, rfl, ho, hf⟩
    have HB1 : Hid (BlkP w1 B g ob O) := Lib.hid (HB.out.fr0 hf)
    have HF1 := Lib.hid hf
    have HO := Lib.hid ho
    have hfl := frees_length O
    have HOB : Hid (ob < w.heap.size) := Lib.hid HB.out.ob_lt
    obtain ⟨A0, C0, rfl⟩ : ∃ A C, v = .slice A (frees O).length C := by
      rcases ho.2 with ⟨hv, hn⟩ | ⟨q, cap, cur, hv, _⟩
      · exact ⟨none, 0, by rw [hv, hn]⟩
      · exact ⟨_, cap, hv⟩
    clear hr hf ho HB
    by_cases h1 : ((frees O).length : Int) < n
    · have HP : Hid (TakePost (fun w' O' => BlkP w' B g ob O') ob O n w (.returned (.tuple #[.slice none 0 0, .int .i64 6])) w1) := Lib.hid (take_bad (by decide) (terr_full (by omega) h1) HB1.out HF1.out)
      go_wp2
      go_ret2
      exact HP.out
    · obtain ⟨k0, rfl⟩ := Int.eq_ofNat_of_zero_le (show 0 ≤ n by omega)
      have hk0 : k0 ≤ (frees O).length := by omega
      have HT := Lib.hid (tout_ok hk0)
      have HE := Lib.hid (terr_ok hk0)
      obtain ⟨A, q, hI, hA, hAf, hc, hsl⟩ := cut_front (P := Try.prog) 38 3 Try.underlying38 (by kernel_rfl) HO.out k0 hk0
      have HI := Lib.hid hI
      have HA := Lib.hid hA
      have HAF := Lib.hid hAf
      have HC := Lib.hid hc
      have HFREE : Hid (∀ j, j < k0 → (frees O).getD j 0 < O.length) := Lib.hid (fun j hj => (frees_at (by omega)).1)
      have hdec : decide ((frees O).length < k0) = false := by simpa using hk0
      clear hI hA hc hAf HO
      go_wp2
      go_loopg [24] k0 (fun kx i wr => ∃ k : Nat, i = .int .i64 k ∧ k ≤ k0 ∧ k0 - k ≤ kx ∧ Hid (BlkP wr B g ob (mark true O ((frees O).take k))) ∧ Hid (Fr1 ob w1 wr))
      case atStart => exact ⟨0, rfl, Nat.zero_le _, by omega, by rw [List.take_zero]; exact HB1, Lib.hid (Fr.refl _ _)⟩
      case round =>
        obtain ⟨k, rfl, hk, hg, HBk, HFk⟩ := hrel
        by_cases hlt : k < k0
        · obtain ⟨rfl, hq⟩ := HA.out (by omega)
          have hne : q ≠ ob := by have := HOB.out; omega
          have c0 := (HFk.out.cell (p := ⟨q, k, none⟩) (World.block_lt_of_cell? w1 _ (HC.out k hlt)) hne).trans (HC.out k hlt)
          have hkf := HFREE.out k hlt
          have HSN : Hid ((frees O).take (k + 1) = (frees O).take k ++ [(frees O).getD k 0]) := Lib.hid (by rw [List.take_add_one]; simp [show k < (frees O).length by omega])
          generalize (frees O).getD k 0 = y at *
          obtain ⟨C, hC, c1⟩ := HBk.out.cell0
          have hml : (mark true O ((frees O).take k)).length = O.length := mark_length _ _ _
          have d0 := HBk.out.cell y (by rw [hml]; exact hkf)
          have df := HBk.out.frozen y
          rw [hml] at c1 hC
          have HB2 : Hid (BlkP (wr.setCell ⟨ob, y, none⟩ (.bool true)) B g ob (mark true O ((frees O).take (k + 1)))) := Lib.hid (by
            rw [HSN.out, mark_snoc]
            exact HBk.out.set y true (by rw [hml]; exact hkf))
          have HF2 : Hid (Fr1 ob w1 (wr.setCell ⟨ob, y, none⟩ (.bool true))) := Lib.hid (Fr.setCell (p := ⟨ob, y, none⟩) HFk.out (fun _ => rfl) _)
          generalize hM : (mark true O ((frees O).take k)) = M at *
          have i1 : (k : Int) < (k0 : Int) := by omega
          have i2 : 0 ≤ (k : Int) := by omega
          have i3 : (y : Int) < (O.length : Int) := by omega
          have i4 : 0 ≤ (y : Int) := by omega
          clear hM hml hne hq hsl
          go_wp2
          go_roundg (k0 - (k + 1))
          case measure => omega
          case rel => exact ⟨k + 1, by simp, by omega, by omega, HB2, HF2⟩
        · obtain rfl : k = k0 := by omega
          have HP : Hid (TakePost (fun w' O' => BlkP w' B g ob O') ob O (k : Int) w (.returned (.tuple #[.slice A k k, .int .i64 0])) wr) := Lib.hid (by
            refine ⟨_, by rw [HE.out], ?_, ?_, ?_, HF1.out.zero.trans' HFk.out⟩
            · rw [HT.out]
              obtain ⟨A', c', p', o', hv, h1, h2, h3⟩ := HI.out
              refine ⟨A', c', p', o', hv, h1, h2, fun j hj => ?_⟩
              have := h3 j hj
              have hb := h2 (by omega)
              subst hb
              simp only [Value.slice.injEq] at hv
              have hqb := HAF.out _ hv.1
              have hob := HOB.out
              rw [HFk.out.cell (p := ⟨p', o' + j, none⟩) (World.block_lt_of_cell? w1 _ this) (fun e => by have e' : p' = ob := e; simp only at hqb; omega)]
              exact this
            · intro a n' c' hv
              cases hv
              exact HAF.out _ rfl
            · show BlkP wr B g ob (took O (k : Int))
              unfold took
              rw [HT.out]
              exact HBk.out)
          go_wp2
          go_ret2
          exact HP.out
end Go.Proofs.Ytkdpdbjefehmpaa.Blocks
