/-
  The walk of the reference's Give.
-/
import Derived.Test.YtkdpdbjefehmpaaBlkRef
import Derived.StillTailTactics
namespace Go.Proofs.Ytkdpdbjefehmpaa.Blocks
open Go.RowKit Base Arena

def RefGivePost (B g ob : Nat) (O : List Bool) (l : List Int) (w : World) (e : Ending) (w' : World) : Prop :=
  e = .returned (.int .i64 (gerr O l)) ∧ BlkR w' B g ob (gave O l) ∧ Fr1 ob w w'
theorem refGive_none {B g ob : Nat} {O : List Bool} {l : List Int} {w w' : World} (h : give O l = none) (hB : BlkR w' B g ob O) (hf : Fr0 w w') : RefGivePost B g ob O l w (.returned (.int .i64 1)) w' := by
  obtain ⟨h1, h2⟩ := gave_none h
  refine ⟨by rw [h2], ?_, hf.zero⟩
  rw [h1]
  exact hB
theorem split_at {l : List Int} {k : Nat} (h : k < l.length) : l = l.take k ++ l.getD k 0 :: l.drop (k + 1) := by
  rw [← drop_at h, List.take_append_drop]
theorem take_snoc {l : List Int} {k : Nat} (h : k < l.length) : l.take (k + 1) = l.take k ++ [l.getD k 0] := by
  rw [List.take_add_one]; simp [h]
theorem take_mem {l : List Int} {j k : Nat} (hj : j < k) (hk : k ≤ l.length) : l.getD j 0 ∈ l.take k := by
  rw [List.getD_eq_getElem?_getD, List.getElem?_eq_getElem (by omega), Option.getD_some, List.mem_take_iff_getElem]
  exact ⟨j, by omega, rfl⟩
theorem mem_take {l : List Int} {k : Nat} (hk : k ≤ l.length) {x : Int} (h : x ∈ l.take k) : ∃ j, j < k ∧ l.getD j 0 = x := by
  rw [List.mem_take_iff_getElem] at h
  obtain ⟨j, hj, he⟩ := h
  exact ⟨j, by omega, by rw [← he]; simp [show j < l.length by omega]⟩
set_option maxRecDepth 100000 in
set_option maxHeartbeats 8000000 in
theorem refGive_any (B g ob : Nat) (O : List Bool) (v : Value) (l : List Int) (hl : l.length ≤ 9223372036854775807) (hbd : ∀ n ∈ l, -9223372036854775808 ≤ n ∧ n ≤ 9223372036854775807) (w : World) (h : BlkR w B g ob O) (hI : IntsIs w v l) (hne : ∀ a n c, 0 < l.length → v = .slice (some a) n c → a.block ≠ ob) :
    Calls Try.prog 43 #[.pointer (some ⟨g, 0, none⟩), v] w (RefGivePost B g ob O l w) := by
  have HB := Lib.hid h
  have hlen := h.len
  obtain ⟨C, hC, c0⟩ := h.cell0
  obtain ⟨a, cap, pb, po, rfl, hcap, ha, hc⟩ := hI
  have HA := Lib.hid ha
  have HC := Lib.hid hc
  have HBD := Lib.hid hbd
  have HNE := Lib.hid hne
  clear h ha hc hbd hcap hne
  go_enter Try.func43, Try.ntmps43
  go_wp2
  go_loopg [5] l.length (fun kx i wr => ∃ (k : Nat) (L : List Bool), i = .int .i64 k ∧ k ≤ l.length ∧ l.length - k ≤ kx ∧ Hid (give O (l.take k) = some L) ∧ Hid (Fr0 w wr))
  case atStart => exact ⟨0, O, rfl, Nat.zero_le _, by omega, Lib.hid (by rw [List.take_zero]; rfl), Lib.hid (Fr.refl _ _)⟩
  case round =>
    obtain ⟨k, L, rfl, hk, hg, HG, HF⟩ := hrel
    have HBk : Hid (BlkR wr B g ob O) := Lib.hid (HB.out.fr0 HF.out)
    by_cases hlt : k < l.length
    · obtain rfl := HA.out (by omega)
      have d0 : wr.cell? ⟨pb, po + k, none⟩ = some (.int .i64 (l.getD k 0)) := (HF.out.cell (p := ⟨pb, po + k, none⟩) (World.block_lt_of_cell? w _ (HC.out k hlt)) (fun f => f)).trans (HC.out k hlt)
      have c1 := (HF.out.cell (p := ⟨g, 0, none⟩) HB.out.g_lt (fun f => f)).trans c0
      have hx := HBD.out (l.getD k 0) (by simp [hlt])
      have HSP := Lib.hid (split_at hlt)
      have HLL := Lib.hid (give_length _ _ _ HG.out)
      have i1 : (k : Int) < (l.length : Int) := by omega
      have i2 : 0 ≤ (k : Int) := by omega
      generalize hX : l.getD k 0 = x at *
      have HX := Lib.hid hX
      clear hX
      by_cases hx0 : x < 0
      · have HP : Hid (∀ w', Fr0 w w' → RefGivePost B g ob O l w (.returned (.int .i64 1)) w') := Lib.hid (fun w' hf => refGive_none (by rw [HSP.out, give_fail HG.out (by omega)]) (HB.out.fr0 hf) hf)
        have hd : decide (x < 0) = true := decide_eq_true hx0
        go_wp2
        go_quiet (fail)
        go_wp2
        go_ret
        exact HP.out _ (HF.out.drewN _)
      · obtain ⟨y, rfl⟩ := Int.eq_ofNat_of_zero_le (show 0 ≤ x by omega)
        by_cases hx1 : O.length ≤ y
        · have HP : Hid (∀ w', Fr0 w w' → RefGivePost B g ob O l w (.returned (.int .i64 1)) w') := Lib.hid (fun w' hf => refGive_none (by rw [HSP.out, give_fail HG.out (by rw [HLL.out]; omega)]) (HB.out.fr0 hf) hf)
          have i3 : ¬ (y : Int) < (O.length : Int) := by omega
          have i5 : (O.length : Int) ≤ (y : Int) := by omega
          have hd5 : decide ((O.length : Int) ≤ (y : Int)) = true := decide_eq_true i5
          have hd6 : decide (O.length ≤ y) = true := decide_eq_true hx1
          have hd : decide ((y : Int) < 0) = false := decide_eq_false (by omega)
          go_wp2
          go_quiet (fail)
          go_wp2
          go_ret
          exact HP.out _ (HF.out.drewN _)
        · have hyO : y < O.length := by omega
          have d1 := HBk.out.cell y hyO
          have i3 : (y : Int) < (O.length : Int) := by omega
          have i4 : 0 ≤ (y : Int) := by omega
          have i5 : ¬ (O.length : Int) ≤ (y : Int) := by omega
          have hd5 : decide ((O.length : Int) ≤ (y : Int)) = false := decide_eq_false i5
          have hd6 : decide (O.length ≤ y) = false := decide_eq_false hx1
          have hd : decide ((y : Int) < 0) = false := decide_eq_false (by omega)
          have HGG := Lib.hid (give_get HG.out y)
          cases hxt : O.getD y false with
          | false =>
            rw [hxt] at d1
            have HP : Hid (∀ w', Fr0 w w' → RefGivePost B g ob O l w (.returned (.int .i64 1)) w') := Lib.hid (fun w' hf => refGive_none (by rw [HSP.out, give_fail HG.out (by rw [Int.toNat_natCast, HGG.out, hxt]; simp)]) (HB.out.fr0 hf) hf)
            clear hxt
            go_wp2
            go_quiet (fail)
            go_wp2
            go_ret
            exact HP.out _ (HF.out.drewN _)
          | true =>
            rw [hxt] at d1
            have HXT := Lib.hid hxt
            clear hxt
            go_wp2
            go_quiet (fail)
            go_wp2
            go_loopg [6] k (fun kx s wx => ∃ j : Nat, s = .int .i64 j ∧ j ≤ k ∧ k - j ≤ kx ∧ Hid (Fr0 w wx) ∧ Hid (∀ i, i < j → l.getD i 0 ≠ (y : Int)))
            case atStart => exact ⟨0, rfl, Nat.zero_le _, by omega, Lib.hid (HF.out.drewN _), Lib.hid (fun i hi => absurd hi (Nat.not_lt_zero _))⟩
            case round =>
              clear d0 d1 c1
              obtain ⟨j, rfl, hjk, hgj, HFx, HN⟩ := hrel
              by_cases hj : j < k
              · have hjl : j < l.length := by omega
                have d1 : wr.cell? ⟨pb, po + j, none⟩ = some (.int .i64 (l.getD j 0)) := (HFx.out.cell (p := ⟨pb, po + j, none⟩) (World.block_lt_of_cell? w _ (HC.out j hjl)) (fun f => f)).trans (HC.out j hjl)
                have d2 : wr.cell? ⟨pb, po + k, none⟩ = some (.int .i64 (y : Int)) := (HFx.out.cell (p := ⟨pb, po + k, none⟩) (World.block_lt_of_cell? w _ (HC.out k hlt)) (fun f => f)).trans ((HC.out k hlt).trans (by rw [HX.out]))
                have hx2 := HBD.out (l.getD j 0) (by simp [hjl])
                have HM := Lib.hid (take_mem hj hk)
                have i6 : (j : Int) < (l.length : Int) := by omega
                have i7 : 0 ≤ (j : Int) := by omega
                have i8 : (j : Int) < (k : Int) := by omega
                have hdj : decide (j < k) = true := decide_eq_true hj
                generalize hZ : l.getD j 0 = z at *
                have HZ := Lib.hid hZ
                clear hZ
                by_cases hzy : z = (y : Int)
                · subst hzy
                  have HP : Hid (∀ w', Fr0 w w' → RefGivePost B g ob O l w (.returned (.int .i64 1)) w') := Lib.hid (fun w' hf => refGive_none (by rw [HSP.out, give_fail HG.out (by rw [Int.toNat_natCast, HGG.out, if_pos HM.out]; simp)]) (HB.out.fr0 hf) hf)
                  go_wp2
                  go_quiet (fail)
                  go_wp2
                  go_ret
                  exact HP.out _ (HFx.out.drewN _)
                · have HZY := Lib.hid hzy
                  go_wp2
                  go_quiet (fail)
                  go_wp2
                  go_roundg (k - (j + 1))
                  case measure => omega
                  case rel =>
                    refine ⟨j + 1, by simp, by omega, by omega, Lib.hid (HFx.out.drewN _), Lib.hid (fun i hi => ?_)⟩
                    by_cases hij : i = j
                    · subst hij; rw [HZ.out]; exact HZY.out
                    · exact HN.out i (by omega)
              · obtain rfl : j = k := by omega
                have HG2 : Hid (give O (l.take (j + 1)) = some (L.set y false)) := Lib.hid (by
                  rw [take_snoc hlt, HX.out]
                  refine give_snoc HG.out (by rw [HLL.out]; exact hyO) ?_
                  rw [HGG.out, if_neg (fun hm => by obtain ⟨i, hi, he⟩ := mem_take hk hm; exact HN.out i hi he)]
                  exact HXT.out)
                have hdj : decide (j < j) = false := by simp
                go_wp2
                go_roundg (l.length - (j + 1))
                case measure => omega
                case rel => exact ⟨j + 1, _, by simp, by omega, by omega, HG2, HFx⟩
    · obtain rfl : k = l.length := by omega
      have HSOME : Hid (give O l = some L) := Lib.hid (by have := HG.out; rwa [List.take_length] at this)
      have HM := Lib.hid (give_mark l O L HSOME.out)
      have HLL := Lib.hid (give_length _ _ _ HSOME.out)
      have HF0 := HF
      go_wp2
      go_loopg [7] l.length (fun kx s wx => ∃ j : Nat, s = .int .i64 j ∧ j ≤ l.length ∧ l.length - j ≤ kx ∧ Hid (BlkR wx B g ob (mark false O ((l.take j).map Int.toNat))) ∧ Hid (Fr1 ob w wx))
      case atStart => exact ⟨0, rfl, Nat.zero_le _, by omega, Lib.hid (by rw [List.take_zero, List.map_nil, mark_nil]; exact HBk.out), Lib.hid HF.out.zero⟩
      case round =>
        clear HBk HF
        obtain ⟨j, rfl, hj, hgj, HBx, HFx⟩ := hrel
        by_cases hjl : j < l.length
        · obtain rfl := HA.out (by omega)
          have hpn : pb ≠ ob := HNE.out _ _ _ (by omega) rfl
          have d1 : wr.cell? ⟨pb, po + j, none⟩ = some (.int .i64 (l.getD j 0)) := (HFx.out.cell (p := ⟨pb, po + j, none⟩) (World.block_lt_of_cell? w _ (HC.out j hjl)) hpn).trans (HC.out j hjl)
          have hin := HM.out.2 (l.getD j 0) (by simp [hjl])
          have HTS : Hid ((l.take (j + 1)).map Int.toNat = (l.take j).map Int.toNat ++ [(l.getD j 0).toNat]) := Lib.hid (by rw [take_snoc hjl, List.map_append]; rfl)
          generalize l.getD j 0 = z at *
          obtain ⟨y, rfl⟩ := Int.eq_ofNat_of_zero_le hin.1
          rw [Int.toNat_natCast] at HTS
          have hyO : y < O.length := by omega
          have hml : (mark false O ((l.take j).map Int.toNat)).length = O.length := mark_length _ _ _
          obtain ⟨C2, hC2, c1⟩ := HBx.out.cell0
          have d0 := HBx.out.cell y (by rw [hml]; exact hyO)
          have df := HBx.out.frozen y
          rw [hml] at c1 hC2
          have HB2 : Hid (BlkR (wr.drew.setCell ⟨ob, y, none⟩ (.bool false)) B g ob (mark false O ((l.take (j + 1)).map Int.toNat))) := Lib.hid (by
            rw [HTS.out, mark_snoc]
            exact (HBx.out.fr0 (Fr.refl _ _).drew).set y false (by rw [hml]; exact hyO))
          have HF2 : Hid (Fr1 ob w (wr.drew.setCell ⟨ob, y, none⟩ (.bool false))) := Lib.hid (Fr.setCell (S := fun j => j = ob) (p := ⟨ob, y, none⟩) HFx.out.drew (fun _ => rfl) _)
          generalize (mark false O ((l.take j).map Int.toNat)) = M at *
          have i1 : (j : Int) < (l.length : Int) := by omega
          have i2 : 0 ≤ (j : Int) := by omega
          have i3 : (y : Int) < (O.length : Int) := by omega
          have i4 : 0 ≤ (y : Int) := by omega
          clear hml hpn hin
          go_wp2
          go_still_tail 9, (by kernel_rfl)
          go_wp2
          go_roundg (l.length - (j + 1))
          case measure => omega
          case rel => exact ⟨j + 1, by simp, by omega, by omega, HB2, HF2⟩
        · obtain rfl : j = l.length := by omega
          have HP : Hid (RefGivePost B g ob O l w (.returned (.int .i64 0)) wr) := Lib.hid (by
            obtain ⟨h1, h2⟩ := gave_some HSOME.out
            refine ⟨by rw [h2], ?_, HFx.out⟩
            have := HBx.out
            rw [List.take_length, ← HM.out.1] at this
            rw [h1]
            exact this)
          go_wp2
          go_ret
          exact HP.out
end Go.Proofs.Ytkdpdbjefehmpaa.Blocks
