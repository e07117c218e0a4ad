/-
  RingList: what is told of who waits changes nothing; lists are one's own: the walk.
-/
import Derived.Test.YtgmfheofhpdcfaaRingAwake
import Derived.Test.YtgmfheofhpdcfaaRingStr
import Derived.Test.YtgmfheofhpdcfaaLawS
import Derived.Test.YtgmfheofhpdcfaaHeld
import Derived.Laws.Concat
namespace Go.Proofs.Ytgmfheofhpdcfaa.Ring
open Go.RowKit Go.Conc Base

theorem Keeps.fr0 {w0 w w' : World} (h : Keeps w0 w) (hf : Fr0 w w') : Keeps w0 w' := h.trans (Keeps.of_fr0 hf)
theorem Keeps.fr1 {w0 w w' : World} {c : Nat} (h : Keeps w0 w) (hf : Fr1 c w w') (hc : IsChan w c) : Keeps w0 w' := h.trans (Keeps.of_fr1 hf hc)
theorem Keeps.row {w w' : World} (h : Keeps w w') {b : Nat} {t : TypeId} {n : Nat} {f : Nat → Value} (hr : w.rowIs b t n f) : w'.rowIs b t n f := by
  obtain ⟨cs, h1, h2, h3⟩ := hr
  exact ⟨cs, h _ _ _ _ h1, h2, h3⟩
theorem own_row {w : World} {base b n : Nat} {e : TypeId} {xs : List Value} (h : w.ownsRow base e 1 (.slice (some ⟨b, 0, none⟩) n n) n xs) : w.rowIs b e n (fun j => xs.getD j undef) := by
  rcases h.2 with ⟨hv, _⟩ | ⟨g, cap, cur, hv, hb, hg, hnc, hcm, hcs, ht⟩
  · cases hv
  · cases hv
    rw [Nat.mul_one] at hcs ht
    have hcur : cur.toList = xs := by rw [← ht, List.take_of_length_le (by simp; omega)]
    refine ⟨cur, hg, hcs, fun i hi => ?_⟩
    rw [← hcur]
    simp [show i < cur.size from by omega]
/-- the first n of L -/
def ss (L : List ByteArray) (n : Nat) : List Value := (L.take n).map Value.string
theorem ss_length (L : List ByteArray) (n : Nat) (h : n ≤ L.length) : (ss L n).length = n := by simp [ss]; omega
theorem ss_succ (L : List ByteArray) (n : Nat) (h : n < L.length) : ss L (n + 1) = ss L n ++ [.string (L.getD n ⟨#[]⟩)] := by
  simp only [ss, List.take_add_one, List.map_append]
  rw [List.getElem?_eq_getElem h, List.getD_eq_getElem?_getD, List.getElem?_eq_getElem h]
  rfl
theorem ss_drop (L : List ByteArray) (n k : Nat) (h : k < n) (hn : n ≤ L.length) : (ss L n).drop k = .string (L.getD k ⟨#[]⟩) :: (ss L n).drop (k + 1) := by
  rw [List.drop_eq_getElem_cons (by rw [ss_length _ _ hn]; exact h)]
  simp [ss, show k < L.length from by omega]
theorem ss_get (L : List ByteArray) (n j : Nat) (h : j < n) (hn : n ≤ L.length) : (ss L n).getD j undef = .string (L.getD j ⟨#[]⟩) := by
  simp [ss, List.getElem?_take, h, show j < L.length from by omega]
theorem ss_str (L : List ByteArray) (n : Nat) : ∀ x ∈ ss L n, IsStr x := fun x hx => by
  simp only [ss, List.mem_map] at hx
  obtain ⟨s, _, rfl⟩ := hx
  exact ⟨s, rfl⟩
def bang : ByteArray := ⟨#[33]⟩
theorem no_over (s : ByteArray) (hs : s.size ≤ 140737488351232) : ¬ (s.size + (⟨#[33]⟩ : ByteArray).size > 9223372036854775807) := by
  have h1 : (⟨#[33]⟩ : ByteArray).size = 1 := rfl
  omega
set_option maxHeartbeats 4000000 in
set_option maxRecDepth 100000 in
theorem ringList_walk (v0 : Value) (m : Int) (L : List ByteArray) (hL : L.length ≤ 9223372036854775807) (hsz : ∀ s ∈ L, s.size ≤ 140737488351232) (w : World) (hI : StrsIs w v0 L) :
    Calls Try.prog 6 #[v0, .int .i64 m] w fun e w' => e = .returned (.bool true) ∧ Fr0 w w' := by
  obtain ⟨a1, c1, pb, po, rfl, hcap, ha1, hc1⟩ := hI
  have HA := Lib.hid ha1
  have HC := Lib.hid hc1
  have HZ := Lib.hid hsz
  clear hsz ha1 hc1
  by_cases h60 : 60 < L.length
  · go_enter Try.func6, Try.ntmps6
    go_wp2_with fail
    refine (awake_any w).mono ?_
    rintro e w1 ⟨rfl, hF1⟩
    have HF1 := Lib.hid hF1
    clear hF1
    go_wp2
    go_ret
    exact ⟨rfl, HF1.out⟩
  · have hH1 := held_pos m
    have hH2 := held_le m
    go_enter Try.func6, Try.ntmps6
    go_wp2_with fail
    refine (awake_any w).mono ?_
    rintro e w1 ⟨rfl, hF1⟩
    have HF1 := Lib.hid hF1
    clear hF1
    go_wp2_with fail
    refine (new_str m w1).mono ?_
    rintro e w2 ⟨g, rfl, hg, c, hc, hR2, hF2⟩
    have HCH : Hid (w.heap.size ≤ c) := Lib.hid (Nat.le_trans HF1.out.size hc)
    have HGH : Hid (w.heap.size ≤ g) := Lib.hid (Nat.le_trans HF1.out.size hg)
    have HF2 := Lib.hid (HF1.out.trans' hF2)
    have HR2 := Lib.hid hR2
    clear hR2 hF2 hg hc HF1
    generalize held m = H at *
    go_wp2
    go_loopw [6] (fun i wr => ∃ (k : Nat) (ps : List Nat), k ≤ L.length ∧ i = .int .i64 k ∧ RowAt wr g c 57 9 H ps (ss L (min k H)) ∧ Fr0 w wr) (fun i _ => L.length - (intOf i).toNat)
    case atStart => exact ⟨0, [], Nat.zero_le _, rfl, by rw [Nat.zero_min]; exact HR2.out, HF2.out⟩
    case round =>
      clear HR2 HF2
      obtain ⟨k, ps, hk, rfl, hR, hF⟩ := hrel
      have HR := Lib.hid hR
      have HF := Lib.hid hF
      clear hR hF
      by_cases hlt : k < L.length
      · obtain rfl := HA.out (by omega)
        have k0 := HC.out k hlt
        have c00 : wr.cell? ⟨pb, po + k, none⟩ = some (.string (L.getD k ⟨#[]⟩)) := (HF.out.cell (p := ⟨pb, po + k, none⟩) (World.block_lt_of_cell? w _ k0) (fun f => f)).trans k0
        have hsn := ss_succ L k hlt
        have HSN := Lib.hid hsn
        clear k0 hsn
        generalize L.getD k ⟨#[]⟩ = s at *
        have hi1 : (k : Int) < (L.length : Int) := by omega
        have hi2 : 0 ≤ (k : Int) := by omega
        by_cases hroom : k < H
        · have hmin : min k H = k := by omega
          have hmin1 : min (k + 1) H = k + 1 := by omega
          rw [hmin] at HR
          go_wp2_with fail
          refine (put_str_room g c _ _ _ _ wr HR.out (by rw [ss_length _ _ (by omega)]; exact hroom)).mono ?_
          rintro e w3 ⟨rfl, hR3, hF3⟩
          have HR3 := Lib.hid hR3
          have HF3 := Lib.hid (fr0_of_fr1 HF.out hF3 HCH.out)
          clear hR3 hF3 c00 HR HF
          go_wp2
          go_roundw
          case rel => exact ⟨k + 1, _, by omega, by go_num, by rw [hmin1, HSN.out]; exact HR3.out, HF3.out⟩
          case measure => simp only [intOf]; omega
        · have hmin : min k H = H := by omega
          have hmin1 : min (k + 1) H = H := by omega
          rw [hmin] at HR
          go_wp2_with fail
          refine (put_str_full g c _ _ _ _ wr HR.out (by rw [ss_length _ _ (by omega)]; omega)).mono ?_
          rintro e w3 ⟨rfl, hR3, hF3⟩
          have HR3 := Lib.hid hR3
          have HF3 := Lib.hid (HF.out.trans' hF3)
          clear hR3 hF3 c00 HR HF
          go_wp2
          go_roundw
          case rel => exact ⟨k + 1, _, by omega, by go_num, by rw [hmin1]; exact HR3.out, HF3.out⟩
          case measure => simp only [intOf]; omega
      · obtain rfl : k = L.length := by omega
        generalize hN : min L.length H = N at *
        have hNl : N ≤ L.length := by omega
        clear hk hlt
        go_wp2_with fail
        refine (list_str g c _ _ _ (ss_str L N) wr HR.out).mono ?_
        rintro e w3 ⟨b, ps3, rfl, hO, hR3, hps3, hF3⟩
        rw [ss_length L N hNl] at hO ⊢
        have hbl := hO.lt b rfl
        have hbN : b ∉ ps3 := fun hm => by
          rcases hps3 b hm with h1 | h1
          · have := HR.out.lie.lt b h1; omega
          · omega
        have hgb : g ≠ b := by have := lt_of_heap HR.out.obj; omega
        have hrow : w3.rowIs b 9 N (fun j => .string (L.getD j ⟨#[]⟩)) := (own_row hO).congr (fun j hj => ss_get L N j hj hNl)
        have HB : Hid (w.heap.size ≤ b) := Lib.hid (Nat.le_trans HF.out.size hbl.1)
        have HROW := Lib.hid hrow
        have HR3 := Lib.hid hR3
        have HF3 := Lib.hid (fr0_of_fr1 HF.out hF3 HCH.out)
        have HBN := Lib.hid hbN
        have HGB := Lib.hid hgb
        clear hO hR3 hF3 hps3 hbl hbN hgb hrow HR HF
        go_wp2
        go_loopw [8] (fun i wr => ∃ k : Nat, k ≤ N ∧ i = .int .i64 k ∧ wr.rowIs b 9 N (fun j => if j < k then .string (L.getD j ⟨#[]⟩ ++ bang) else .string (L.getD j ⟨#[]⟩)) ∧ Fr1 b w3 wr) (fun i _ => N - (intOf i).toNat)
        case atStart => exact ⟨0, Nat.zero_le _, rfl, HROW.out.congr (fun j _ => by simp), Fr.refl _ _⟩
        case round =>
          obtain ⟨k, hk, rfl, hrow, hF⟩ := hrel
          have HRW := Lib.hid hrow
          have HFB := Lib.hid hF
          clear hrow hF
          by_cases hlt : k < N
          · have c00 := HRW.out.cell (i := k) hlt
            rw [if_neg (Nat.lt_irrefl _)] at c00
            have f00 := HRW.out.frozen k
            have hs := HZ.out (L.getD k ⟨#[]⟩) (by rw [List.getD_eq_getElem?_getD, List.getElem?_eq_getElem (by omega)]; exact List.getElem_mem _)
            have hadd := no_over _ hs
            generalize hsk : L.getD k ⟨#[]⟩ = s at *
            have HSK := Lib.hid hsk
            clear hsk hs
            have hi1 : (k : Int) < (N : Int) := by omega
            have hi2 : 0 ≤ (k : Int) := by omega
            go_wp2
            go_roundw
            case rel =>
              refine ⟨k + 1, by omega, by go_num, (HRW.out.set k _).congr (fun j hj => ?_), HFB.out.setCell (p := ⟨b, k, none⟩) (fun _ => rfl) _⟩
              by_cases hjk : j = k
              · subst hjk
                rw [if_pos rfl, if_pos (Nat.lt_succ_self _), HSK.out]
                rfl
              · rw [if_neg hjk]
                by_cases hj2 : j < k
                · rw [if_pos hj2, if_pos (by omega)]
                · rw [if_neg hj2, if_neg (by omega)]
            case measure => simp only [intOf]; omega
          · obtain rfl : k = N := by omega
            have hRx : RowAt wr g c 57 9 H ps3 (ss L k) := HR3.out.frB HFB.out HGB.out ⟨_, _, _, row_cells HROW.out⟩ HBN.out
            have hFx : Fr0 w wr := fr0_of_fr1 HF3.out HFB.out HB.out
            have hrow : wr.rowIs b 9 k (fun j => .string (L.getD j ⟨#[]⟩ ++ bang)) := HRW.out.congr (fun j hj => by rw [if_pos hj])
            have HRX := Lib.hid hRx
            have HFX := Lib.hid hFx
            have HRA := Lib.hid hrow
            clear hRx hFx hrow HRW HFB HROW HR3 HF3 HBN HGB
            go_wp2_with fail
            refine (list_str g c _ _ _ (ss_str L k) wr HRX.out).mono ?_
            rintro e w4 ⟨b2, ps4, rfl, hO, hR4, _, hF4⟩
            rw [ss_length L k hNl] at hO ⊢
            have hrow : w4.rowIs b2 9 k (fun j => .string (L.getD j ⟨#[]⟩)) := (own_row hO).congr (fun j hj => ss_get L k j hj hNl)
            have HR4 := Lib.hid hR4
            have HRB := Lib.hid hrow
            have HRA4 := Lib.hid ((Keeps.of_fr1 hF4 HRX.out.chan).row HRA.out)
            have HF4 := Lib.hid (fr0_of_fr1 HFX.out hF4 HCH.out)
            clear hO hR4 hF4 hrow HRX HFX HRA
            go_wp2_with fail
            refine (len_str g c _ _ _ w4 HR4.out).mono ?_
            rintro e w5 ⟨rfl, rfl⟩
            rw [ss_length L k hNl]
            go_wp2
            go_loopw [10] (fun i wr => ∃ (j : Nat) (ps : List Nat), j ≤ k ∧ i = .int .i64 j ∧ RowAt wr g c 57 9 H ps ((ss L k).drop j) ∧ Keeps w4 wr ∧ Fr0 w wr) (fun i _ => k - (intOf i).toNat)
            case atStart => exact ⟨0, _, Nat.zero_le _, rfl, by rw [List.drop_zero]; exact HR4.out, Keeps.refl _, HF4.out⟩
            case round =>
              obtain ⟨j, ps5, hj, rfl, hR5, hK5, hF5⟩ := hrel
              have HR5 := Lib.hid hR5
              have HK5 := Lib.hid hK5
              have HF5 := Lib.hid hF5
              clear hR5 hK5 hF5 HR4 HF4
              by_cases hlt : j < k
              · have hjL : j < L.length := by omega
                obtain rfl := HA.out (by omega)
                have k0 := HC.out j hjL
                have hR' := HR5.out
                rw [ss_drop L k j hlt hNl] at hR'
                have r1 := HRA4.out.cell (i := j) hlt
                have r2 := HRB.out.cell (i := j) hlt
                have hs := HZ.out (L.getD j ⟨#[]⟩) (by rw [List.getD_eq_getElem?_getD, List.getElem?_eq_getElem hjL]; exact List.getElem_mem _)
                generalize L.getD j ⟨#[]⟩ = s at *
                have hadd := no_over _ hs
                have HADD := Lib.hid hadd
                have HR' := Lib.hid hR'
                have HK0 := Lib.hid k0
                have HX1 := Lib.hid r1
                have HX2 := Lib.hid r2
                clear hR' k0 r1 r2 hs hadd
                go_wp2_with fail
                refine (take_str_some g c s _ _ _ wr HR'.out).mono ?_
                rintro e w6 ⟨rfl, hR6, hF6⟩
                have hK6 : Keeps w4 w6 := HK5.out.fr1 hF6 HR'.out.chan
                have HR6 := Lib.hid hR6
                have HF6 := Lib.hid (fr0_of_fr1 HF5.out hF6 HCH.out)
                have HK6 := Lib.hid hK6
                have x0 : w6.cell? ⟨pb, po + j, none⟩ = some (.string s) := (HF6.out.cell (p := ⟨pb, po + j, none⟩) (World.block_lt_of_cell? w _ HK0.out) (fun f => f)).trans HK0.out
                have x1 : w6.cell? ⟨b, j, none⟩ = some (.string (s ++ ⟨#[33]⟩)) := hK6.gr.cell HX1.out
                have x2 : w6.cell? ⟨b2, j, none⟩ = some (.string s) := hK6.gr.cell HX2.out
                have hadd := HADD.out
                have hi1 : (j : Int) < (k : Int) := by omega
                have hi2 : 0 ≤ (j : Int) := by omega
                have hi3 : (j : Int) < (L.length : Int) := by omega
                clear hR6 hF6 hK6 HR5 HK5 HF5 HR' HK0 HX1 HX2 HADD
                go_wp2
                go_quiet (fail)
                clear x0 x1 x2 hadd
                go_wp2
                go_roundw
                case rel => exact ⟨j + 1, _, by omega, by go_num, HR6.out.fr0 ((Fr.refl _ _).drewN _), HK6.out.fr0 ((Fr.refl _ _).drewN _), HF6.out.drewN _⟩
                case measure => simp only [intOf]; omega
              · have hjk : j = k := by omega
                have hR' := HR5.out
                rw [List.drop_eq_nil_of_le (by rw [ss_length _ _ hNl]; omega)] at hR'
                have HR' := Lib.hid hR'
                clear hR'
                go_wp2_with fail
                refine (len_str g c _ _ _ _ HR'.out).mono ?_
                rintro e w6 ⟨rfl, rfl⟩
                go_wp2
                go_ret
                exact ⟨rfl, HF5.out⟩
end Go.Proofs.Ytgmfheofhpdcfaa.Ring
