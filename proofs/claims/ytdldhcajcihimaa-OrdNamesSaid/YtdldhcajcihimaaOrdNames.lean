/-
  OrdNames: whatever is put in, names stand in order, each once; each tells what was put last: the walk.
-/
import Derived.Test.YtdldhcajcihimaaOrdAwake
import Derived.Test.YtdldhcajcihimaaOrdMap
import Derived.Test.YtdldhcajcihimaaLawS
namespace Go.Proofs.Ytdldhcajcihimaa.Ord
open Go.RowKit Base Go.WideMaps Go.Maps

theorem klaw : Keyed Try.prog 9 := string_keyed Try.underlying9
theorem zeroI (w : World) : (zeroValue 3).run Try.prog w = .ok (.int .i64 0) w := by kernel_rfl
theorem put_int_room (B g most : Nat) (es : List Ent) (nm : ByteArray) (n : Int) (w : World) (h : OrdAt w B 61 64 63 g most es) (hroom : es.length < most) (hs : nm.size ≤ 2147483647) :
    Calls Try.prog 14 #[ptr g, .string nm, .int .i64 n] w fun e w' => e = .returned (.tuple #[.bool (!has nm es), .int .i64 0]) ∧ OrdAt w' B 61 64 63 g most (put nm (.int .i64 n) es) ∧ FrO B 61 64 63 w w' := by
  cases hh : has nm es with
  | true => exact put_int_there B g most es nm n w h hh
  | false => exact put_int_new B g most es nm n w h hh hroom hs
abbrev MapOf (w : World) (b k : Nat) (es : List Ent) : Prop := w.ownsMap Try.prog 9 (plainElem (H := Unit) Try.prog 3) b k (.map (mp es))

set_option maxHeartbeats 8000000 in
set_option maxRecDepth 100000 in
theorem ordNames_walk (v0 : Value) (L : List ByteArray) (hL : L.length ≤ 9223372036854775807) (hsz : ∀ s ∈ L, s.size ≤ 140737488351232) (w : World) (hI : StrsIs w v0 L) :
    Calls Try.prog 5 #[v0] w fun e w' => e = .returned (.bool true) ∧ Fr0 w w' := by
  obtain ⟨a1, c1, pb, po, rfl, hcap, ha1, hc1⟩ := hI
  have HA := Lib.hid ha1
  have HC := Lib.hid hc1
  clear ha1 hc1 hsz
  by_cases h60 : 60 < L.length
  · go_enter Try.func5, Try.ntmps5
    go_wp2_with fail
    refine (awake_any w).mono ?_
    rintro e w1 ⟨rfl, hF1⟩
    have HF1 := Lib.hid hF1
    clear hF1
    go_wp2
    go_ret
    exact ⟨rfl, HF1.out⟩
  · have hmm := @run_makeMap Try.prog
    go_enter Try.func5, Try.ntmps5
    go_wp2_with fail
    refine (awake_any w).mono ?_
    rintro e w1 ⟨rfl, hF1⟩
    have HF1 := Lib.hid hF1
    clear hF1
    go_wp2_with fail
    refine (new_int 100 w.heap.size w1 HF1.out.size).mono ?_
    rintro e w2 ⟨g, rfl, _, hO2, hF2⟩
    rw [show held 100 = 100 from by decide] at hO2
    have HO2 := Lib.hid (hO2.fr0 ((Fr.refl _ w2).alloc (.map #[] 0)))
    have HF2 := Lib.hid ((HF1.out.trans' hF2).alloc (.map #[] 0))
    have HMB := Lib.hid (Nat.le_trans HF1.out.size hF2.size)
    have HM2 : Hid (MapOf (w2.alloc (.map #[] 0)) w2.heap.size 0 []) := Lib.hid (World.ownsMap_made w2 Try.prog 9 _)
    clear hO2 hF2 HF1
    unfold ptr
    go_wp2
    obtain ⟨mb, hmb⟩ : ∃ mb, w2.heap.size = mb := ⟨_, rfl⟩
    rw [hmb] at HMB HM2 ⊢
    generalize w2.alloc (.map #[] 0) = w3 at *
    clear hmb hmm
    go_loopg [5] L.length (fun kx i wr => ∃ (k : Nat) (es : List Ent), i = .int .i64 k ∧ k ≤ L.length ∧ L.length - k ≤ kx ∧ es.length ≤ k ∧ Hid (∀ e ∈ es, (∃ v, e.2 = .int .i64 v) ∧ e.1.size ≤ 50) ∧ Hid (OrdAt wr w.heap.size 61 64 63 g 100 es) ∧ Hid (MapOf wr mb k es) ∧ Hid (Fr0 w wr))
    case atStart => exact ⟨0, [], rfl, Nat.zero_le _, by omega, Nat.le_refl _, Lib.hid (fun e he => by cases he), HO2, HM2, HF2⟩
    case round =>
      clear HO2 HF2 HM2
      obtain ⟨k, es, rfl, hk, hg, hel, HE, HO, HM, HF⟩ := hrel
      by_cases hlt : k < L.length
      · obtain ⟨s, hs⟩ : ∃ s, L.getD k ⟨#[]⟩ = s := ⟨_, rfl⟩
        have ha := HA.out (by omega)
        subst ha
        have hc0 := HC.out k hlt
        rw [hs] at hc0
        have K0 : Hid (∀ wr, Fr0 w wr → wr.cell? ⟨pb, po + k, none⟩ = some (.string s)) := Lib.hid (fun wr hf => (hf.cell (p := ⟨pb, po + k, none⟩) (World.block_lt_of_cell? w _ hc0) (fun f => f)).trans hc0)
        have k0 := K0.out wr HF.out
        have hi1 : (k : Int) < (L.length : Int) := by omega
        have hi2 : 0 ≤ (k : Int) := by omega
        clear hs hc0
        by_cases hs50 : 50 < s.size
        · go_wp2
          go_ret
          exact ⟨rfl, HF.out⟩
        · have hkey : keyOf Try.prog 9 (.string s) = some (mkey s) := keyOf_string_mk Try.underlying9 (by unfold maxLen; omega)
          have HKEY := Lib.hid hkey
          have hmh := map_has (nm := s) HO.out.srt
          obtain ⟨S, hS⟩ : ∃ S, has s es = S := ⟨_, rfl⟩
          rw [hS] at hmh
          have HS := Lib.hid hS
          have hx : (!S == S) = false := by cases S <;> rfl
          have hmhH := Lib.hid hmh
          clear hkey hS hmh
          go_wp2_with (at_lookup; refine wpList_lookup_own_ok_int _ rfl _ _ 47 rfl 9 3 .i64 klaw Try.underlying47 Try.underlying3 (zeroI _) mb k _ rfl HM.out _ _ rfl HKEY.out ?_; intro c hat hwc; rw [hmhH.out]; clear hat hwc)
          refine (put_int_room _ g 100 es s (k : Int) wr HO.out (by omega) (by omega)).mono ?_
          rintro e w5 ⟨rfl, hO5, hF5⟩
          rw [HS.out]
          have hF5' := FrO.fr0 HF.out hF5 (Nat.le_refl _)
          have HM5 := Lib.hid (FrO.maps hF5 HM.out)
          have HO5 := Lib.hid hO5
          have HF5 := Lib.hid hF5'
          have k5 := K0.out w5 hF5'
          have HSRT := Lib.hid HO.out.srt
          have HE5 : Hid (∀ e ∈ put s (.int .i64 (k : Int)) es, (∃ v, e.2 = .int .i64 v) ∧ e.1.size ≤ 50) := Lib.hid (fun e he => by
            rcases mem_put he with rfl | he
            · exact ⟨⟨_, rfl⟩, by simp only; omega⟩
            · exact HE.out e he)
          have hel5 : (put s (.int .i64 (k : Int)) es).length ≤ k + 1 := by
            rw [put_length]
            split <;> omega
          have HEL := Lib.hid hel5
          clear hO5 hF5 hF5' HE HO HF HM hel k0 hel5 HS hmhH
          go_wp2_with (at_mapUpdate; refine wpList_mapUpdate_own _ rfl _ _ _ 47 rfl 9 3 klaw Try.underlying47 _ mb k _ rfl HM5.out (by unfold maxLen; omega) _ _ _ rfl rfl HKEY.out _ [] (plainElem_int Try.underlying3 (WalkArith.wf_i64 (by omega))) ?_; intro w6 hown6 hgrow6)
          have HM6 : Hid (MapOf w6 mb (k + 1) (put s (.int .i64 (k : Int)) es)) := Lib.hid (by
            have := hown6
            rw [show (DataW.lit (.int .i64 (k : Int)) : DataW Unit) = mdat k from rfl, map_put HSRT.out] at this
            exact this)
          have HO6 := Lib.hid (HO5.out.map HM5.out hgrow6)
          have HF6 := Lib.hid (Fr.trans HF5.out (Fr.of_grown (S := fun q => q = mb) hgrow6 (fun q _ e => by cases e; rfl)) (fun i hi e => by have e' : i = mb := e; have := HMB.out; omega))
          have hel6 := HEL.out
          clear hown6 hgrow6 HM5 HO5 HF5 k5 HEL HSRT HKEY
          generalize put s (.int .i64 (k : Int)) es = es5 at *
          go_wp2
          go_roundg (L.length - (k + 1))
          case measure => omega
          case rel => exact ⟨k + 1, es5, by simp, by omega, by omega, hel6, HE5, HO6, HM6, HF6⟩
      · obtain rfl : k = L.length := by omega
        clear hlt hg HA HC
        go_wp2_with fail
        refine (names_int _ g 100 es wr HO.out).mono ?_
        rintro e w4 ⟨b, rfl, hb, hN4, hF4⟩
        have HO4 := Lib.hid (HO.out.fr0 hF4)
        have HM4 := Lib.hid (fr0_maps hF4 HM.out)
        have HN4 := Lib.hid hN4
        have HF4 := Lib.hid (HF.out.trans' hF4)
        clear hN4 hF4 HO HF HM hb
        obtain ⟨n, hn⟩ : ∃ n, es.length = n := ⟨_, rfl⟩
        have hn60 : n ≤ 60 := by omega
        have HNN := Lib.hid hn
        rw [hn]
        clear hn
        go_wp2
        go_loopg [11] n (fun kx s11 wr => ∃ i : Nat, s11 = .int .i64 i ∧ i ≤ n ∧ n - i ≤ kx ∧ Hid (Fr0 w4 wr))
        case atStart => exact ⟨0, rfl, Nat.zero_le _, by omega, Lib.hid (Fr.refl _ _)⟩
        case round =>
          obtain ⟨i, rfl, hin, hg, HFR⟩ := hrel
          have HO := Lib.hid (HO4.out.fr0 HFR.out)
          have HB := Lib.hid (owns_fr HFR.out HN4.out (fun _ _ f => f))
          have HM := Lib.hid (fr0_maps HFR.out HM4.out)
          by_cases hlt : i < n
          · obtain ⟨e, he⟩ : ∃ e, es[i]? = some e := ⟨_, List.getElem?_eq_getElem (by rw [HNN.out]; exact hlt)⟩
            have c1 := own_names HB.out i e he
            have hi1 : (i : Int) < (n : Int) := by omega
            have hi2 : 0 ≤ (i : Int) := by omega
            obtain ⟨⟨v, hv⟩, hes⟩ := HE.out e (List.mem_of_getElem? he)
            obtain ⟨s, ev⟩ := e
            simp only at hv c1 hes
            subst hv
            have hget := HO.out.srt.getAt he
            simp only at hget
            have HGET := Lib.hid hget
            have hat := map_at HO.out.srt (List.mem_of_getElem? he) (mdat 0)
            have hmh := map_has (nm := s) HO.out.srt
            rw [has_iff.2 ⟨_, hget⟩] at hmh
            have HAT := Lib.hid (⟨hat, hmh⟩ : _ ∧ _)
            have HEI := Lib.hid he
            have mixed : Try.prog.follows .mixedOrders = true := by kernel_rfl
            have hszs : s.size ≤ maxLen := by unfold maxLen; omega
            have hkey : keyOf Try.prog 9 (.string s) = some (mkey s) := keyOf_string_mk Try.underlying9 hszs
            have HKEY := Lib.hid hkey
            clear hget hat hmh he hkey hszs
            go_wp2_with fail
            refine (get_int_some _ g 100 _ s (.int .i64 v) wr HO.out HGET.out).mono ?_
            rintro ee w' ⟨rfl, rfl⟩
            go_wp2_with (at_lookup; refine wpList_lookup_own_ok_int _ rfl _ _ 47 rfl 9 3 .i64 klaw Try.underlying47 Try.underlying3 (zeroI _) mb L.length _ rfl HM.out _ _ rfl HKEY.out ?_; intro c hat hwc; rw [HAT.out.2]; obtain rfl : c = v := (by have h1 := hat; rw [show (DataW.lit (.int .i64 0) : DataW Unit) = mdat 0 from rfl, HAT.out.1] at h1; cases h1; rfl); clear hat hwc)
            by_cases h0 : 0 < i
            · obtain ⟨j, rfl⟩ : ∃ j, i = j + 1 := ⟨i - 1, by omega⟩
              obtain ⟨e0, he0⟩ : ∃ e, es[j]? = some e := ⟨_, List.getElem?_eq_getElem (by rw [HNN.out]; omega)⟩
              have c0 := own_names HB.out j e0 he0
              have hless := HO4.out.srt.lt (Nat.lt_succ_self j) he0 HEI.out
              simp only at hless
              rw [← lt_raw] at hless
              have hj0 : decide ((0 : Int) < (j : Int) + 1) = true := decide_eq_true (by omega)
              have hj1 : (j : Int) < (n : Int) := by omega
              have hj2 : 0 ≤ (j : Int) := by omega
              have hj3 : (0 : Int) < (j : Int) + 1 := by omega
              have hj4 : (0 : Int) ≤ (j : Int) + 1 := by omega
              have hj5 : (j : Int) + 1 < (n : Int) := by omega
              have hj6 : ((j : Int) + 1).toNat = j + 1 := by omega
              have hj7 : IntKind.i64.wrap ((j : Int) + 1 - 1) = (j : Int) := by rw [IntKind.wrap_i64]; omega
              have hj8 : (j : Int) + 1 - 1 = (j : Int) := by omega
              clear he0
              go_quiet (fail)
              go_wp2
              go_roundg (n - (j + 1 + 1))
              case measure => omega
              case rel => exact ⟨j + 1 + 1, by simp, by omega, by omega, Lib.hid (HFR.out.drewN _)⟩
            · obtain rfl : i = 0 := by omega
              go_quiet (fail)
              go_wp2
              go_roundg (n - 1)
              case measure => omega
              case rel => exact ⟨1, by simp, by omega, by omega, Lib.hid (HFR.out.drewN _)⟩
          · obtain rfl : i = n := by omega
            have hlen := fun ty => map_len HM.out 47 ty Try.underlying47
            rw [show (mp es).length = es.length by simp [mp], HNN.out] at hlen
            have HFE := Lib.hid (HF4.out.trans' HFR.out)
            go_wp2
            go_ret
            exact ⟨rfl, HFE.out⟩
end Go.Proofs.Ytdldhcajcihimaa.Ord
