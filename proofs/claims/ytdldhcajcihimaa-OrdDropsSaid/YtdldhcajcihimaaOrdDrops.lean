/-
  OrdDrops: what is dropped is gone, all others are as they were: the walk.
-/
import Derived.Test.YtdldhcajcihimaaOrdAwake
import Derived.Test.YtdldhcajcihimaaOrdStr
import Derived.Test.YtdldhcajcihimaaLawS
import Derived.StillTailTactics
namespace Go.Proofs.Ytdldhcajcihimaa.Ord
open Go.RowKit Base

/-- how many of the first i stand behind a drop -/
def kk (nm : ByteArray) (es : List Ent) (i : Nat) : Nat := if has nm es = true ∧ place nm es < i then i - 1 else i
theorem kk_zero (nm : ByteArray) (es : List Ent) : kk nm es 0 = 0 := by unfold kk; split <;> rfl
theorem kk_hit {nm : ByteArray} {es : List Ent} (hs : Sorted es) {i : Nat} {e : Ent} (he : es[i]? = some e) (hn : e.1 = nm) : kk nm es (i + 1) = kk nm es i := by
  subst hn
  have hp := hs.named he
  have hh : has e.1 es = true := (hs.has_mem e.1).2 ⟨e.2, List.mem_of_getElem? he⟩
  unfold kk
  rw [hh, hp]
  simp
theorem kk_miss {nm : ByteArray} {es : List Ent} (hs : Sorted es) {i : Nat} {e : Ent} (he : es[i]? = some e) (hn : e.1 ≠ nm) : kk nm es (i + 1) = kk nm es i + 1 := by
  have hlt := (List.getElem?_eq_some_iff.1 he).1
  unfold kk
  cases hh : has nm es with
  | false => simp
  | true =>
    have hip : i ≠ place nm es := fun e' => by
      obtain ⟨v, hv⟩ := has_iff.1 hh
      rw [← e', he] at hv
      cases hv
      exact hn rfl
    simp only [true_and]
    split <;> split <;> omega
theorem kk_all (nm : ByteArray) (es : List Ent) : kk nm es es.length = (drop nm es).length := by
  unfold kk
  rw [drop_length]
  cases hh : has nm es with
  | false => simp
  | true =>
    have := has_lt hh
    simp [this]

/-- Put where there is room -/
theorem put_str_room (B g most : Nat) (es : List Ent) (nm : ByteArray) (n : ByteArray) (w : World) (h : OrdAt w B 52 55 54 g most es) (hroom : es.length < most) (hs : nm.size ≤ 2147483647) :
    Calls Try.prog 9 #[ptr g, .string nm, .string n] w fun e w' => e = .returned (.tuple #[.bool (!has nm es), .int .i64 0]) ∧ OrdAt w' B 52 55 54 g most (put nm (.string n) es) ∧ FrO B 52 55 54 w w' := by
  cases hh : has nm es with
  | true => exact put_str_there B g most es nm n w h hh
  | false => exact put_str_new B g most es nm n w h hh hroom hs

set_option maxHeartbeats 8000000 in
set_option maxRecDepth 100000 in
theorem ordDrops_walk (v0 : Value) (nm : ByteArray) (L : List ByteArray) (hL : L.length ≤ 9223372036854775807) (hsz : ∀ s ∈ L, s.size ≤ 140737488351232) (w : World) (hI : StrsIs w v0 L) :
    Calls Try.prog 6 #[v0, .string nm] w fun e w' => e = .returned (.bool true) ∧ Fr0 w w' := by
  obtain ⟨a1, c1, pb, po, rfl, hcap, ha1, hc1⟩ := hI
  have HA := Lib.hid ha1
  have HC := Lib.hid hc1
  clear ha1 hc1 hsz
  by_cases h60 : 60 < L.length
  · go_enter Try.func6, Try.ntmps6
    go_wp2_with fail
    refine (awake_any w).mono ?_
    rintro e w1 ⟨rfl, hF1⟩
    have HF1 := Lib.hid hF1
    clear hF1
    go_wp2
    go_ret
    exact ⟨rfl, HF1.out⟩
  · by_cases h50 : 50 < nm.size
    · go_enter Try.func6, Try.ntmps6
      go_wp2_with fail
      refine (awake_any w).mono ?_
      rintro e w1 ⟨rfl, hF1⟩
      have HF1 := Lib.hid hF1
      clear hF1
      go_wp2
      go_ret
      exact ⟨rfl, HF1.out⟩
    · go_enter Try.func6, Try.ntmps6
      go_wp2_with fail
      refine (awake_any w).mono ?_
      rintro e w1 ⟨rfl, hF1⟩
      have HF1 := Lib.hid hF1
      clear hF1
      go_wp2_with fail
      refine (new_str 100 w.heap.size w1 HF1.out.size).mono ?_
      rintro e w2 ⟨g, rfl, _, hO2, hF2⟩
      rw [show held 100 = 100 from by decide] at hO2
      have HO2 := Lib.hid hO2
      have HF2 := Lib.hid (HF1.out.trans' hF2)
      clear hO2 hF2 HF1
      unfold ptr
      go_wp2
      go_loopg [6] L.length (fun kx i wr => ∃ (k : Nat) (es : List Ent), i = .int .i64 k ∧ k ≤ L.length ∧ L.length - k ≤ kx ∧ es.length ≤ k ∧ Hid (∀ e ∈ es, e.2 = .string e.1) ∧ Hid (OrdAt wr w.heap.size 52 55 54 g 100 es) ∧ Hid (Fr0 w wr))
      case atStart => exact ⟨0, [], rfl, Nat.zero_le _, by omega, Nat.le_refl _, Lib.hid (fun e he => by cases he), HO2, HF2⟩
      case round =>
        clear HO2 HF2
        obtain ⟨k, es, rfl, hk, hg, hel, HE, HO, HF⟩ := hrel
        by_cases hlt : k < L.length
        · obtain ⟨s, hs⟩ : ∃ s, L.getD k ⟨#[]⟩ = s := ⟨_, rfl⟩
          have ha := HA.out (by omega)
          subst ha
          have k0 : wr.cell? ⟨pb, po + k, none⟩ = some (.string s) := by
            have := HC.out k hlt
            rw [hs] at this
            exact (HF.out.cell (p := ⟨pb, po + k, none⟩) (World.block_lt_of_cell? w _ this) (fun f => f)).trans this
          have hi1 : (k : Int) < (L.length : Int) := by omega
          have hi2 : 0 ≤ (k : Int) := by omega
          clear hs
          by_cases hs50 : 50 < s.size
          · go_wp2
            go_ret
            exact ⟨rfl, HF.out⟩
          · go_wp2_with fail
            go_still_tail 9, (by kernel_rfl)
            go_wp2_with fail
            refine (put_str_room _ g 100 es s s wr.drew (HO.out.fr0 (Fr.refl _ _).drew) (by omega) (by omega)).mono ?_
            rintro e w5 ⟨rfl, hO5, hF5⟩
            have HO5 := Lib.hid hO5
            have HF5 := Lib.hid (FrO.fr0 HF.out.drew hF5 (Nat.le_refl _))
            have HE5 : Hid (∀ e ∈ put s (.string s) es, e.2 = .string e.1) := Lib.hid (fun e he => by
              rcases mem_put he with rfl | he
              · rfl
              · exact HE.out e he)
            have hel5 : (put s (.string s) es).length ≤ k + 1 := by
              rw [put_length]
              split <;> omega
            clear hO5 hF5 HE HO HF hel
            generalize put s (.string s) es = es5 at *
            go_wp2
            go_roundg (L.length - (k + 1))
            case measure => omega
            case rel => exact ⟨k + 1, es5, by simp, by omega, by omega, hel5, HE5, HO5, HF5⟩
        · obtain rfl : k = L.length := by omega
          clear hlt hg HA HC
          go_wp2_with fail
          refine (names_str _ g 100 es wr HO.out).mono ?_
          rintro e w4 ⟨b, rfl, hb, hN4, hF4⟩
          have HO4 := Lib.hid (HO.out.fr0 hF4)
          have HN4 := Lib.hid hN4
          have HF4 := Lib.hid (HF.out.trans' hF4)
          clear hN4 hF4 HO HF
          -- what is dropped
          have hdrop : Calls Try.prog 12 #[ptr g, .string nm] w4 fun e w' => e = .returned (.bool (has nm es)) ∧ OrdAt w' w.heap.size 52 55 54 g 100 (drop nm es) ∧ FrO w.heap.size 52 55 54 w4 w' := by
            cases hh : has nm es with
            | true => exact drop_str_some _ g 100 es nm w4 HO4.out hh
            | false =>
              refine (drop_str_none _ g 100 es nm w4 HO4.out hh).mono ?_
              rintro e w' ⟨rfl, rfl⟩
              exact ⟨rfl, by unfold drop; rw [hh]; exact HO4.out, Fr.refl _ _⟩
          have HD := Lib.hid hdrop
          clear hdrop
          unfold ptr at HD
          go_wp2_with fail
          refine HD.out.mono ?_
          rintro e w5 ⟨rfl, hO5, hF5⟩
          have HS := Lib.hid HO4.out.srt
          have HO5 := Lib.hid hO5
          have HN5 := Lib.hid (FrO.owns hF5 HN4.out (by decide))
          have HF5 := Lib.hid (FrO.fr0 HF4.out hF5 (Nat.le_refl _))
          clear hO5 hF5 HO4 HN4 HF4 HD
          go_wp2_with fail
          refine (names_str _ g 100 _ w5 HO5.out).mono ?_
          rintro e w6 ⟨b6, rfl, hb6, hN6, hF6⟩
          have HO6 := Lib.hid (HO5.out.fr0 hF6)
          have HNB := Lib.hid (owns_fr hF6 HN5.out (fun _ _ f => f))
          have HNA := Lib.hid hN6
          have HF6 := Lib.hid (HF5.out.trans' hF6)
          clear hN6 hF6 HO5 HN5 HF5 hb hb6
          obtain ⟨n, hn⟩ : ∃ n, es.length = n := ⟨_, rfl⟩
          obtain ⟨m, hm⟩ : ∃ m, (drop nm es).length = m := ⟨_, rfl⟩
          have hnm : (m < n ↔ has nm es = true) := by
            rw [← hn, ← hm, drop_length]
            cases hh : has nm es with
            | true => have := has_lt hh; simp; omega
            | false => simp
          have hka : kk nm es n = m := by rw [← hn, ← hm]; exact kk_all nm es
          have HM := Lib.hid hm
          have HNN := Lib.hid hn
          have HKA := Lib.hid hka
          have HNM := Lib.hid hnm
          have hm100 : m ≤ 4096 := by rw [← hm]; exact Nat.le_trans HO6.out.le (by decide)
          have hn60 : n ≤ 60 := by omega
          rw [hm, hn]
          clear hm hn hka hnm
          go_wp2
          go_loopg [10, 11] n (fun kx s10 s11 wr => ∃ i : Nat, s11 = .int .i64 i ∧ s10 = .int .i64 ((kk nm es i : Nat) : Int) ∧ i ≤ n ∧ n - i ≤ kx ∧ Hid (Fr0 w6 wr))
          case atStart => exact ⟨0, rfl, by rw [kk_zero]; rfl, Nat.zero_le _, by omega, Lib.hid (Fr.refl _ _)⟩
          case round =>
            obtain ⟨i, rfl, rfl, hin, hg, HFR⟩ := hrel
            have HO := Lib.hid (HO6.out.fr0 HFR.out)
            have HB := Lib.hid (owns_fr HFR.out HNB.out (fun _ _ f => f))
            have HAA := Lib.hid (owns_fr HFR.out HNA.out (fun _ _ f => f))
            by_cases hlt : i < n
            · obtain ⟨e, he⟩ : ∃ e, es[i]? = some e := ⟨_, List.getElem?_eq_getElem (by rw [HNN.out]; exact hlt)⟩
              have c1 := own_names HB.out i e he
              have hi1 : (i : Int) < (n : Int) := by omega
              have hi2 : 0 ≤ (i : Int) := by omega
              by_cases hen : e.1 = nm
              · have hq : (e.1.toList == nm.toList) = true := by rw [eq_raw]; simp [hen]
                have hkk := kk_hit HS.out he hen
                have HKK := Lib.hid hkk
                clear he hkk hen
                obtain ⟨K, hK⟩ : ∃ K, kk nm es i = K := ⟨_, rfl⟩
                rw [hK] at HKK ⊢
                clear hK
                go_wp2
                go_roundg (n - (i + 1))
                case measure => omega
                case rel => exact ⟨i + 1, by simp, by rw [HKK.out], by omega, by omega, HFR⟩
              · have hq : (e.1.toList == nm.toList) = false := by rw [eq_raw]; simp [hen]
                have hkk := kk_miss HS.out he hen
                have hda := drop_at HS.out he hen
                have hget := HO.out.srt.getAt hda
                have HKK := Lib.hid hkk
                change (drop nm es)[kk nm es i]? = some e at hda
                have hkm := (List.getElem?_eq_some_iff.1 hda).1
                rw [HM.out] at hkm
                have c2 := own_names HAA.out _ e hda
                have hv : e.2 = .string e.1 := HE.out e (List.mem_of_getElem? he)
                rw [hv] at hget
                have HGET := Lib.hid hget
                clear he hkk hen hda hget hv
                obtain ⟨K, hK⟩ : ∃ K, kk nm es i = K := ⟨_, rfl⟩
                rw [hK] at HKK c2 hkm ⊢
                clear hK
                have hk1 : (K : Int) < (m : Int) := by omega
                have hk2 : 0 ≤ (K : Int) := by omega
                have hk3 : decide ((m : Int) ≤ (K : Int)) = false := by simp; omega
                have mixed : Try.prog.follows .mixedOrders = true := by kernel_rfl
                go_wp2_with fail
                refine (get_str_some _ g 100 _ e.1 (.string e.1) wr HO.out HGET.out).mono ?_
                rintro ee w' ⟨rfl, rfl⟩
                go_wp2_with fail
                go_quiet (fail)
                go_wp2
                go_roundg (n - (i + 1))
                case measure => omega
                case rel => exact ⟨i + 1, by simp, by rw [HKK.out]; simp, by omega, by omega, Lib.hid (HFR.out.drewN _)⟩
            · obtain rfl : i = n := by omega
              have HFE := Lib.hid (HF6.out.trans' HFR.out)
              have hgone := has_drop (nm := nm) HS.out
              have HG := Lib.hid hgone
              have hka := HKA.out
              have hb : has nm es = decide (m < i) := by
                have := HNM.out
                cases hh : has nm es with
                | true => rw [hh] at this; exact (decide_eq_true (this.2 rfl)).symm
                | false => rw [hh] at this; exact (decide_eq_false (fun h => by have := this.1 h; cases this)).symm
              rw [hka, hb]
              clear hka hgone hb
              go_wp2_with fail
              refine (get_str_none _ g 100 _ nm wr HO.out HG.out).mono ?_
              rintro ee w' ⟨rfl, rfl⟩
              go_wp2_with fail
              refine (len_str _ g 100 _ w' HO.out).mono ?_
              rintro ee w'' ⟨rfl, rfl⟩
              rw [HM.out]
              go_wp2
              go_ret
              exact ⟨rfl, HFE.out⟩
end Go.Proofs.Ytdldhcajcihimaa.Ord
