/-
  BlocksLeast: what is given out are the least that were free, rising: the walk.
-/
import Derived.Test.YtagniipldmagdaaBlkAwake
import Derived.Test.YtagniipldmagdaaBlkMap
namespace Go.Proofs.Ytagniipldmagdaa.Blocks
open Go.RowKit Base Arena Go.WideMaps Go.Maps

theorem klaw : Keyed Try.prog 3 := int_keyed Try.underlying3
theorem zeroB (w : World) : (zeroValue 4).run Try.prog w = .ok (.bool false) w := by kernel_rfl
abbrev SetOf (w : World) (b k : Nat) (l : List Nat) : Prop := w.ownsMap Try.prog 3 (plainElem (H := Unit) Try.prog 4) b k (.map (mset l))
theorem frees_new (n : Nat) : (frees (List.replicate n false)).length = n := by
  have h := both_length (List.replicate n false)
  have h0 : outs (List.replicate n false) = [] := by
    apply List.eq_nil_iff_forall_not_mem.2
    intro i hi
    obtain ⟨h1, h2⟩ := outs_mem.1 hi
    rw [List.length_replicate] at h1
    simp [h1] at h2
  rw [h0, List.length_replicate] at h
  simpa using h
theorem outs_take_lt {O : List Bool} {k : Nat} (h : k < (outs O).length) : ∀ a ∈ (outs O).take k, a < (outs O).getD k 0 := by
  intro a ha
  rw [List.mem_take_iff_getElem] at ha
  obtain ⟨j, hj, rfl⟩ := ha
  have hp := List.pairwise_iff_getElem.1 (those_rising true O O.length) j k (show j < (outs O).length by omega) h (by omega)
  rw [List.getD_eq_getElem?_getD, List.getElem?_eq_getElem h]
  exact hp
theorem ntake_snoc {l : List Nat} {k : Nat} (h : k < l.length) : l.take (k + 1) = l.take k ++ [l.getD k 0] := by
  rw [List.take_add_one]; simp [h]
/-- the next free one -/
theorem frees_next {O : List Bool} {b : Nat} (hb : b < O.length) (h : O.getD b false = false) : (frees O).getD (those false O b).length 0 = b := by
  have h1 := those_take (b := false) (O := O) (k := b + 1) (m := O.length) (by omega)
  rw [those_in h] at h1
  have h2 := congrArg (fun l => l[(those false O b).length]?) h1
  simp only [List.length_append, List.length_singleton, List.getElem?_take, List.getElem?_append_right (Nat.le_refl _), Nat.sub_self, List.getElem?_singleton, if_pos (Nat.lt_succ_self (those false O b).length)] at h2
  have h3 : (frees O)[(those false O b).length]? = some b := by
    show (those false O O.length)[(those false O b).length]? = some b
    simpa using h2
  rw [List.getD_eq_getElem?_getD, h3]
  rfl
set_option maxHeartbeats 8000000 in
set_option maxRecDepth 100000 in
theorem blocksLeast_walk (bytes : Int) (v1 : Value) (l : List Int) (n : Int) (hl : l.length ≤ 9223372036854775807) (hbd : ∀ n ∈ l, -9223372036854775808 ≤ n ∧ n ≤ 9223372036854775807) (hb : -9223372036854775808 ≤ bytes ∧ bytes ≤ 9223372036854775807) (hn : I64 n) (w : World) (hI : IntsIs w v1 l) :
    Calls Try.prog 6 #[.int .i64 bytes, v1, .int .i64 n] w fun e w' => e = .returned (.bool true) ∧ Fr0 w w' := by
  have HI := Lib.hid hI
  obtain ⟨a, cap, pb, po, rfl, hcap, _, _⟩ := hI
  have HBD := Lib.hid hbd
  clear hbd hcap
  by_cases hbad : bytes < 0 ∨ 3000 < bytes ∨ 30 < l.length
  · have HX := Lib.hid hbad
    clear hbad
    go_enter Try.func6, Try.ntmps6
    go_wp2_with fail
    refine (awake_any w).mono ?_
    rintro e w1 ⟨rfl, hF1⟩
    have HF1 := Lib.hid hF1
    clear hF1
    by_cases h1 : bytes < 0
    · go_wp2
      go_ret
      exact ⟨rfl, HF1.out⟩
    · by_cases h2 : 3000 < bytes
      · go_wp2
        go_ret
        exact ⟨rfl, HF1.out⟩
      · have h3 : 30 < l.length := by have := HX.out; omega
        go_wp2
        go_ret
        exact ⟨rfl, HF1.out⟩
  · have h1 : ¬ bytes < 0 := by omega
    have h2 : ¬ 3000 < bytes := by omega
    have h3 : ¬ 30 < l.length := by omega
    have hmm := @run_makeMap Try.prog
    clear hbad
    go_enter Try.func6, Try.ntmps6
    go_wp2_with fail
    refine (awake_any w).mono ?_
    rintro e w1 ⟨rfl, hF1⟩
    have HF1 := Lib.hid hF1
    clear hF1
    go_wp2_with fail
    refine (new_any bytes hb w1).mono ?_
    rintro e w2 ⟨g, ob0, rfl, hB, hf⟩
    obtain ⟨N, hN, hN2⟩ : ∃ N, whole bytes = N ∧ N ≤ 100 := ⟨_, rfl, by unfold whole; omega⟩
    rw [hN] at hB
    have HB2 : Hid (BlkP w2 w.heap.size g ob0 (List.replicate N false)) := Lib.hid (hB.base HF1.out.size)
    have HF2 : Hid (Fr0 w w2) := Lib.hid (HF1.out.trans' hf)
    clear hB hf hN h1 h2 HF1
    go_wp2_with fail
    refine (all_any _ g ob0 _ w2 HB2.out).mono ?_
    rintro e w3 ⟨rfl, hz⟩
    obtain rfl : w2 = w3 := hz.symm
    rw [List.length_replicate]
    go_wp2_with fail
    refine (take_any _ g ob0 _ (N : Int) (by omega) w2 HB2.out).mono ?_
    rintro e w4 ⟨va, rfl, hI4, hf4, hB4, hf⟩
    have hfn := frees_new N
    rw [terr_ok (by omega)]
    have HL4 : Hid ((took (List.replicate N false) (N : Int)).length = N) := Lib.hid (by rw [took_length, List.length_replicate])
    have hal : (tout (List.replicate N false) (N : Int)).length = N := by rw [tout_ok (by omega), List.length_take, hfn]; omega
    have HB4 : Hid (BlkP w4 w.heap.size g ob0 (took (List.replicate N false) (N : Int))) := Lib.hid hB4
    have HF4 : Hid (Fr0 w w4) := Lib.hid (fr0_of_fr1 HF2.out hf hB4.oB)
    obtain ⟨aA, aC, _, _, rfl, _⟩ := hI4
    rw [nints_length, hal]
    generalize took (List.replicate N false) (N : Int) = O1 at *
    clear hf4 hB4 hf hal hfn HB2 HF2
    go_wp2_with fail
    refine (give_any _ g ob0 O1 _ l hl HBD.out w4 HB4.out (HI.out.fr0 HF4.out)).mono ?_
    rintro e w5 ⟨rfl, ob, hB5, _, hf⟩
    have HL5 : Hid ((gave O1 l).length = N) := Lib.hid (by rw [gave_length]; exact HL4.out)
    have HF5 : Hid (Fr0 w w5) := Lib.hid (fr0_of_fr1 HF4.out hf hB5.gB)
    have HB5 : Hid (BlkP w5 w.heap.size g ob (gave O1 l)) := Lib.hid hB5
    generalize gave O1 l = O at *
    generalize gerr O1 l = ge at *
    clear hB5 hf HB4 HF4 HL4
    have HBm := Lib.hid (HB5.out.fr0 ((Fr.refl (fun _ => False) w5).alloc (.map #[] 0)))
    have HFm := Lib.hid (HF5.out.alloc (.map #[] 0))
    have HM0 : Hid (SetOf (w5.alloc (.map #[] 0)) w5.heap.size 0 []) := Lib.hid (World.ownsMap_made w5 Try.prog 3 _)
    have HMS : Hid (w.heap.size ≤ w5.heap.size ∧ g ≠ w5.heap.size ∧ ob ≠ w5.heap.size) := Lib.hid ⟨HF5.out.size, by have := HB5.out.g_lt; omega, by have := HB5.out.ob_lt; omega⟩
    go_wp2_with fail
    obtain ⟨mb, hmb⟩ : ∃ mb, w5.heap.size = mb := ⟨_, rfl⟩
    rw [hmb] at HM0 HMS ⊢
    generalize w5.alloc (.map #[] 0) = w6 at *
    clear hmb hmm HB5 HF5
    refine (list_any _ g ob O w6 HBm.out).mono ?_
    rintro e w7 ⟨vl, rfl, hI7, hf, hn7⟩
    have HB7 : Hid (BlkP w7 w.heap.size g ob O) := Lib.hid (HBm.out.fr0 hf)
    have HF7 : Hid (Fr0 w w7) := Lib.hid (HFm.out.trans' hf)
    have HM7 := Lib.hid (fr0_map hf HM0.out)
    obtain ⟨lA, lC, lb, lo, rfl, _, hla, hlc⟩ := hI7
    have HLN : Hid (0 < (outs O).length → lA = some ⟨lb, lo, none⟩ ∧ lb ≠ mb) := Lib.hid (fun h => by
      have h1 := hla (by rw [nints_length]; exact h)
      refine ⟨h1, ?_⟩
      have h2 := hn7 _ _ _ (by rw [h1])
      obtain ⟨_, _, hmh, _⟩ := HM0.out
      have h3 := lt_of_heap hmh
      simp only at h2
      omega)
    have HLC : Hid (∀ j, j < (outs O).length → w7.cell? ⟨lb, lo + j, none⟩ = some (.int .i64 (((outs O).getD j 0 : Nat) : Int))) := Lib.hid (fun j hj => by
      have := hlc j (by rw [nints_length]; exact hj)
      rwa [nints_get _ _ hj] at this)
    rw [nints_length]
    have hol := outs_length O
    have hON := HL5.out
    obtain ⟨m, hm⟩ : ∃ m, (outs O).length = m := ⟨_, rfl⟩
    have HMM := Lib.hid hm
    rw [hm] at HLN HLC hol ⊢
    rw [hON] at hol
    clear hf hn7 hla hlc hON hm HBm HFm HM0
    go_wp2
    go_loopg [12] m (fun kx i wr => ∃ k : Nat, i = .int .i64 k ∧ k ≤ m ∧ m - k ≤ kx ∧ Hid (SetOf wr mb k ((outs O).take k)) ∧ Hid (Fr1 mb w7 wr))
    case atStart => exact ⟨0, rfl, Nat.zero_le _, by omega, by rw [List.take_zero]; exact HM7, Lib.hid (Fr.refl _ _)⟩
    case round =>
      clear HM7
      obtain ⟨k, rfl, hk, hg, HM, HF⟩ := hrel
      by_cases hlt : k < m
      · obtain ⟨rfl, hlm⟩ := HLN.out (by omega)
        have c0 := (HF.out.cell (p := ⟨lb, lo + k, none⟩) (World.block_lt_of_cell? w7 _ (HLC.out k hlt)) hlm).trans (HLC.out k hlt)
        have HSN := Lib.hid (ntake_snoc (l := outs O) (k := k) (by rw [HMM.out]; exact hlt))
        have HLT := Lib.hid (outs_take_lt (O := O) (k := k) (by rw [HMM.out]; exact hlt))
        have hyN : (outs O).getD k 0 < N := by
          have h1 := (outs_mem.1 (show (outs O).getD k 0 ∈ outs O by
            rw [List.getD_eq_getElem?_getD, List.getElem?_eq_getElem (by rw [HMM.out]; exact hlt)]
            exact List.getElem_mem _)).1
          have := HL5.out
          omega
        generalize (outs O).getD k 0 = y at *
        have hkey : keyOf Try.prog 3 (.int .i64 (y : Int)) = some (ikey y) := keyOf_int_mk Try.underlying3 (WalkArith.wf_i64 (by omega))
        have HKEY := Lib.hid hkey
        have i1 : (k : Int) < (m : Int) := by omega
        have i2 : 0 ≤ (k : Int) := by omega
        clear hkey hlm
        go_wp2_with (at_mapUpdate; refine wpList_mapUpdate_own _ rfl _ _ _ 44 rfl 3 4 klaw Try.underlying44 _ mb k _ rfl HM.out (by unfold maxLen; omega) _ _ _ rfl rfl HKEY.out btrue [] (plainElem_bool Try.underlying4 true) ?_; intro w8 hown8 hgrow8)
        have HM8 : Hid (SetOf w8 mb (k + 1) ((outs O).take (k + 1))) := Lib.hid (by
          have := hown8
          rw [set_put HLT.out, ← HSN.out] at this
          exact this)
        have HF8 : Hid (Fr1 mb w7 w8) := Lib.hid (HF.out.trans' (Fr.of_grown (S := fun q => q = mb) hgrow8 (fun q _ e => by cases e; rfl)))
        clear hown8 hgrow8
        go_wp2
        go_roundg (m - (k + 1))
        case measure => omega
        case rel => exact ⟨k + 1, by simp, by omega, by omega, HM8, HF8⟩
      · obtain rfl : k = m := by omega
        have HM2 : Hid (SetOf wr mb k (outs O)) := Lib.hid (by have := HM.out; rwa [List.take_of_length_le (by rw [HMM.out]; exact Nat.le_refl _)] at this)
        have HBk : Hid (BlkP wr w.heap.size g ob O) := Lib.hid (HB7.out.fr HF.out HMS.out.2.1 HMS.out.2.2)
        have HFk : Hid (Fr0 w wr) := Lib.hid (fr0_of_fr1 HF7.out HF.out HMS.out.1)
        clear HM HF HB7 HF7 HLC
        go_wp2_with fail
        refine (take_any _ g ob O n hn wr HBk.out).mono ?_
        rintro e w9 ⟨vg, rfl, hI9, hn9, hB9, hf⟩
        have HF9 : Hid (Fr0 w w9) := Lib.hid (fr0_of_fr1 HFk.out hf hB9.oB)
        have HM9 : Hid (SetOf w9 mb k (outs O)) := Lib.hid (fr_map hf (fun e => HMS.out.2.2 e.symm) HM2.out)
        have hbo := both_length O
        rw [HMM.out, HL5.out] at hbo
        clear hn9 hB9 hf HBk HFk HM2
        by_cases he : terr O n = 0
        · obtain ⟨c, hc, hcf⟩ := terr_iff he
          have HTK : Hid (tout O n = (frees O).take c) := Lib.hid (by rw [hc]; exact tout_ok hcf)
          have HTL : Hid ((tout O n).length = c) := Lib.hid (by rw [HTK.out, List.length_take]; omega)
          rw [he]
          obtain ⟨tA, tC, tb, tq, rfl, _, hta, htc⟩ := hI9
          have HTA : Hid (0 < c → tA = some ⟨tb, tq, none⟩) := Lib.hid (fun h => hta (by rw [nints_length, HTL.out]; exact h))
          have HTC : Hid (∀ j, j < c → w9.cell? ⟨tb, tq + j, none⟩ = some (.int .i64 (((frees O).getD j 0 : Nat) : Int))) := Lib.hid (fun j hj => by
            have := htc j (by rw [nints_length, HTL.out]; exact hj)
            rw [nints_get _ _ (by rw [HTL.out]; exact hj), HTK.out] at this
            rw [this]
            simp [hj])
          rw [nints_length, HTL.out]
          clear hta htc he
          subst hc
          have hc100 : c ≤ 100 := by omega
          have HCF := Lib.hid hcf
          clear hcf
          go_wp2
          go_loopg [15, 16] N (fun kx s15 s16 wx => ∃ b : Nat, s16 = .int .i64 b ∧ s15 = .int .i64 ((those false O b).length : Int) ∧ b ≤ N ∧ N - b ≤ kx ∧ (those false O b).length ≤ c ∧ Hid (wx = w9))
          case atStart => exact ⟨0, rfl, rfl, Nat.zero_le _, by omega, Nat.zero_le _, Lib.hid rfl⟩
          case round =>
            obtain ⟨b, rfl, rfl, hbN, hgb, hle, HW⟩ := hrel
            obtain rfl := HW.out
            have hj0 := those_length false O b
            by_cases hin : b < N ∧ (those false O b).length < c
            · obtain ⟨hb1, hb2⟩ := hin
              have hbO : b < O.length := by rw [HL5.out]; exact hb1
              have hkey : keyOf Try.prog 3 (.int .i64 (b : Int)) = some (ikey b) := keyOf_int_mk Try.underlying3 (WalkArith.wf_i64 (by omega))
              have hlk := lookup_bool HM9.out klaw Try.underlying44 Try.underlying4 (zeroB _) hkey
              have HCE := HTC.out _ hb2
              obtain rfl := HTA.out (by omega)
              have hmem : decide (b ∈ outs O) = O.getD b false := by
                cases hx : O.getD b false with
                | true => exact decide_eq_true (outs_mem.2 ⟨hbO, hx⟩)
                | false => exact decide_eq_false (fun h => by rw [(outs_mem.1 h).2] at hx; cases hx)
              rw [hmem] at hlk
              have e1 : decide (b < N) = true := decide_eq_true hb1
              have e2 : decide ((those false O b).length < c) = true := decide_eq_true hb2
              clear hkey hmem
              cases hx : O.getD b false with
              | true =>
                have HT : Hid ((those false O (b + 1)).length = (those false O b).length) := Lib.hid (by rw [those_out (by rw [hx]; decide)])
                rw [hx] at hlk
                clear hx
                go_wp2
                go_roundg (N - (b + 1))
                case measure => omega
                case rel => exact ⟨b + 1, by simp, by rw [HT.out], by omega, by omega, by rw [HT.out]; exact hle, Lib.hid rfl⟩
              | false =>
                have HT : Hid ((those false O (b + 1)).length = (those false O b).length + 1) := Lib.hid (by rw [those_in hx, List.length_append]; rfl)
                rw [frees_next hbO hx] at HCE
                rw [hx] at hlk
                clear hx
                generalize (those false O b).length = q at *
                have i1 : (q : Int) < (c : Int) := by omega
                have i2 : 0 ≤ (q : Int) := by omega
                go_wp2
                go_roundg (N - (b + 1))
                case measure => omega
                case rel => exact ⟨b + 1, by simp, by rw [HT.out]; simp, by omega, by omega, by rw [HT.out]; omega, Lib.hid rfl⟩
            · have hq : (those false O b).length = c := by
                rcases Nat.lt_or_ge (those false O b).length c with h | h
                · have hb1 : ¬ b < N := fun h' => hin ⟨h', h⟩
                  have hbn : b = O.length := by rw [HL5.out]; omega
                  have h4 : (those false O b).length = (frees O).length := by rw [hbn]; rfl
                  have := HCF.out
                  omega
                · omega
              rw [hq]
              clear hq hin hj0 hle
              by_cases hb1 : b < N
              · have e1 : decide (b < N) = true := decide_eq_true hb1
                have e2 : decide (c < c) = false := by simp
                go_wp2
                go_ret
                exact ⟨by simp, HF9.out⟩
              · have e1 : decide (b < N) = false := by simpa using hb1
                go_wp2
                go_ret
                exact ⟨by simp, HF9.out⟩
        · have HTB := Lib.hid (tout_bad he)
          have HCASE : Hid ((n < 0 ∧ terr O n = 1) ∨ (¬ n < 0 ∧ ((frees O).length : Int) < n ∧ terr O n = 6)) := Lib.hid (by
            by_cases hn0 : n < 0
            · exact .inl ⟨hn0, terr_neg hn0⟩
            · refine .inr ⟨hn0, ?_⟩
              unfold terr at he ⊢
              rw [if_neg hn0] at he ⊢
              split at he
              · rename_i h; rw [if_pos h]; exact ⟨h, rfl⟩
              · exact absurd rfl he)
          rw [HTB.out] at hI9
          obtain ⟨tA, tC, tb, tq, rfl, _, _, _⟩ := hI9
          rw [show (nints []).length = 0 from rfl]
          rcases HCASE.out with ⟨hn0, ht⟩ | ⟨hn0, hnf, ht⟩
          · rw [ht]
            clear he ht
            go_wp2
            go_ret
            exact ⟨rfl, HF9.out⟩
          · rw [ht]
            have hnn : (N : Int) - (k : Int) < n := by omega
            clear he ht
            go_wp2
            go_ret
            exact ⟨rfl, HF9.out⟩
end Go.Proofs.Ytagniipldmagdaa.Blocks
