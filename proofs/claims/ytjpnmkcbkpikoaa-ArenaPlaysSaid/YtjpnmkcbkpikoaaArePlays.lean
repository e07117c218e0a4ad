/-
  ArenaPlays: any calls: which bytes are where, each error, is as the document says: the walk.
-/
import Derived.Test.YtjpnmkcbkpikoaaArePlaysR
import Derived.Test.YtjpnmkcbkpikoaaAreApart
import Derived.Test.YtjpnmkcbkpikoaaLawA
import Derived.Deep.DeepCutAuto
import Derived.Deep.CutBlock
import Derived.Shelf.RegionOpenPlain
namespace Go.Proofs.Ytjpnmkcbkpikoaa.Arena
open Go.RowKit Base Pw

theorem fr0_of_two {w0 w w' : World} {g h : Nat} (hf : Fr0 w0 w) (hg : Fr (fun k => k = g ∨ k = h) w w') (h1 : w0.heap.size ≤ g) (h2 : w0.heap.size ≤ h) : Fr0 w0 w' := hf.trans hg (fun i hi e => by rcases e with e | e <;> omega)
abbrev ActT : TypeId := 40
set_option maxHeartbeats 16000000 in
set_option maxRecDepth 100000 in
theorem arenaPlays_walk (size : Int) (v1 v2 : Value) (L : List Int) (Q : List Quint) (hs : I64 size) (hL : L.length ≤ 9223372036854775807) (hbd : ∀ n ∈ L, -9223372036854775808 ≤ n ∧ n ≤ 9223372036854775807) (hQ : Q.length ≤ 9223372036854775807) (hqb : ∀ q ∈ Q, inI64 q.1 ∧ inI64 q.2.1 ∧ inI64 q.2.2.1 ∧ inI64 q.2.2.2.1 ∧ q.2.2.2.2.length ≤ 9223372036854775807) (w : World) (hI : IntsIs w v1 L) (hQI : QuintsIs w v2 Q) :
    Calls Try.prog 4 #[.int .i64 size, v1, v2] w fun e w' => e = .returned (.bool true) ∧ Fr0 w w' := by
  have HI := Lib.hid hI
  have HBD := Lib.hid hbd
  have HQB := Lib.hid hqb
  obtain ⟨a, cap, bb, bo, rfl, hcap, ha, hc⟩ := hI
  obtain ⟨a2, cap2, xb, xo, rfl, hcap2, ha2, hc2⟩ := hQI
  have HA2 := Lib.hid ha2
  have HC2 := Lib.hid hc2
  clear ha hc ha2 hc2 hbd hqb hcap hcap2
  by_cases hbad : 80 < Q.length ∨ 70 < L.length ∨ 3000 < size
  · have HX := Lib.hid hbad
    clear hbad
    go_enter Try.func4, Try.ntmps4
    go_wp2_with fail
    refine (awake_any w).mono ?_
    rintro e w1 ⟨rfl, hF1⟩
    have HF1 := Lib.hid hF1
    clear hF1
    by_cases h1 : 80 < Q.length
    · go_wp2
      go_ret
      exact ⟨rfl, HF1.out⟩
    · by_cases h2 : 70 < L.length
      · go_wp2
        go_ret
        exact ⟨rfl, HF1.out⟩
      · have h3 : 3000 < size := by have := HX.out; omega
        go_wp2
        go_ret
        exact ⟨rfl, HF1.out⟩
  · have h80 : ¬ 80 < Q.length := by omega
    have h70 : ¬ 70 < L.length := by omega
    have h3000 : ¬ 3000 < size := by omega
    clear hbad
    go_enter Try.func4, Try.ntmps4
    go_wp2_with fail
    refine (awake_any w).mono ?_
    rintro e w1 ⟨rfl, hF1⟩
    have HF1 := Lib.hid hF1
    clear hF1
    go_wp2_with fail
    refine (new_any size _ L hL HBD.out hs w1 (HI.out.fr0 HF1.out)).mono ?_
    rintro e w2 ⟨hok, hno, hf2⟩
    have HF2 := Lib.hid (HF1.out.trans' hf2)
    by_cases hfit : Fits size L
    · obtain ⟨g, pb, cb, rfl, hA⟩ := hok hfit
      have HA := Lib.hid hA
      have HFT := Lib.hid hfit
      have HSZ : Hid (w.heap.size ≤ w1.heap.size) := Lib.hid HF1.out.size
      clear hok hno hA hf2 hfit HF1
      unfold ptr
      go_wp2_with fail
      refine (refNew_any size _ L hL HBD.out hs w2 (HI.out.fr0 HF2.out)).mono ?_
      rintro e w3 ⟨hok, _, hf3⟩
      obtain ⟨h, qb, db, rfl, hR⟩ := hok HFT.out
      have HF3 := Lib.hid (HF2.out.trans' hf3)
      have HNE : Hid ((h ≠ pb ∧ qb ≠ pb ∧ db ≠ pb) ∧ (g ≠ qb ∧ pb ≠ qb ∧ cb ≠ qb)) := Lib.hid (by
        have h1 := HA.out.g_lt
        have h2 := HA.out.pb_lt
        have h3 := HA.out.cb_lt
        have h4 := hR.gB
        have h5 := hR.pB
        have h6 := hR.cB
        omega)
      obtain ⟨bs0, hbs⟩ : ∃ bs0, List.replicate size.toNat (0 : UInt8) = bs0 := ⟨_, rfl⟩
      rw [hbs] at HA hR
      have HA3 : Hid (AreP w3 w.heap.size g pb cb L bs0) := Lib.hid ((HA.out.fr0 hf3).base HSZ.out)
      have HR3 : Hid (AreR w3 w.heap.size h qb db L bs0) := Lib.hid (hR.base HF2.out.size)
      clear hok hR hf3 HA HF2 HSZ HFT hbs hs
      unfold ptr
      go_wp2
      go_loopg [11] Q.length (fun kx i wr => ∃ (k : Nat) (bs : List UInt8), i = .int .i64 k ∧ k ≤ Q.length ∧ Q.length - k ≤ kx ∧ Hid (AreP wr w.heap.size g pb cb L bs) ∧ Hid (AreR wr w.heap.size h qb db L bs) ∧ Hid (Fr0 w wr))
      case atStart => exact ⟨0, bs0, rfl, Nat.zero_le _, by omega, HA3, HR3, HF3⟩
      case round =>
        clear HA3 HR3 HF3
        obtain ⟨k, bs, rfl, hk, hg, HA, HR, HF⟩ := hrel
        by_cases hlt : k < Q.length
        · obtain ⟨t, ht⟩ : ∃ t, Q[k]? = some t := ⟨_, List.getElem?_eq_getElem hlt⟩
          obtain ⟨t0, t1, t2, t3, t4⟩ := HQB.out t (List.mem_of_getElem? ht)
          obtain rfl := HA2.out (by omega)
          obtain ⟨q0, q1, q2, q3, pv, q4, qB⟩ := HC2.out k t ht
          obtain ⟨op, I, At, N, b⟩ := t
          simp only at q0 q1 q2 q3 q4 qB t0 t1 t2 t3 t4
          have HB := Lib.hid qB
          obtain ⟨A, C, pa, po, rfl, _⟩ := qB
          have k0 := (HF.out.cell (p := ⟨xb, xo + k * 5, none⟩) (World.block_lt_of_cell? w _ q0) (fun f => f)).trans q0
          have k1 := (HF.out.cell (p := ⟨xb, xo + k * 5 + 1, none⟩) (World.block_lt_of_cell? w _ q1) (fun f => f)).trans q1
          have k2 := (HF.out.cell (p := ⟨xb, xo + k * 5 + 2, none⟩) (World.block_lt_of_cell? w _ q2) (fun f => f)).trans q2
          have k3 := (HF.out.cell (p := ⟨xb, xo + k * 5 + 3, none⟩) (World.block_lt_of_cell? w _ q3) (fun f => f)).trans q3
          have k4 := (HF.out.cell (p := ⟨xb, xo + k * 5 + 4, none⟩) (World.block_lt_of_cell? w _ q4) (fun f => f)).trans q4
          have hi1 : (k : Int) < (Q.length : Int) := by omega
          have hi2 : 0 ≤ (k : Int) := by omega
          clear ht q0 q1 q2 q3 q4
          by_cases h3k : 3000 < b.length
          · have HX := Lib.hid (HF.out.alloc (.cells #[.int .i64 op, .int .i64 I, .int .i64 At, .int .i64 N, .slice A b.length C] ActT))
            go_wp2
            go_ret
            exact ⟨rfl, HX.out⟩
          · have hN := heap_alloc_new wr (.cells #[.int .i64 op, .int .i64 I, .int .i64 At, .int .i64 N, .slice A b.length C] ActT)
            have hfa : Fr0 wr (wr.alloc (.cells #[.int .i64 op, .int .i64 I, .int .i64 At, .int .i64 N, .slice A b.length C] ActT)) := (Fr.refl _ _).alloc _
            have HAa := Lib.hid (HA.out.fr0 hfa)
            have HRa := Lib.hid (HR.out.fr0 hfa)
            have HFa := Lib.hid (HF.out.trans' hfa)
            have HN := Lib.hid hN
            have HNN : Hid (wr.heap.size ≠ pb ∧ wr.heap.size ≠ qb) := Lib.hid (by
              have h1 := HA.out.pb_lt
              have h2 := HR.out.pb_lt
              omega)
            go_upto_region 15 with fail
            generalize wr.alloc (.cells #[.int .i64 op, .int .i64 I, .int .i64 At, .int .i64 N, .slice A b.length C] ActT) = wa at *
            obtain ⟨M, hM⟩ : ∃ M, wr.heap.size = M := ⟨_, rfl⟩
            rw [hM] at HN HNN ⊢
            clear hM hN HA HR HF hfa k0 k1 k2 k3 k4
            by_cases hop : op = 1
            · subst hop
              have d0 : wa.cell? ⟨M, 0, none⟩ = some (.int .i64 1) := by rw [cell_of_row _ _ _ _ _ _ HN.out]; rfl
              have d1 : wa.cell? ⟨M, 1, none⟩ = some (.int .i64 I) := by rw [cell_of_row _ _ _ _ _ _ HN.out]; rfl
              have d2 : wa.cell? ⟨M, 2, none⟩ = some (.int .i64 At) := by rw [cell_of_row _ _ _ _ _ _ HN.out]; rfl
              have d3 : wa.cell? ⟨M, 3, none⟩ = some (.int .i64 N) := by rw [cell_of_row _ _ _ _ _ _ HN.out]; rfl
              go_wp2_with fail
              refine (read_any _ g pb cb L bs I At N t1 t2 t3 wa HAa.out).mono ?_
              rintro e w5 ⟨u, rfl, hu, hf⟩
              have e1 := (hf.cell (p := ⟨M, 1, none⟩) (lt_of_heap HN.out) (fun f => f)).trans d1
              have e2 := (hf.cell (p := ⟨M, 2, none⟩) (lt_of_heap HN.out) (fun f => f)).trans d2
              have e3 := (hf.cell (p := ⟨M, 3, none⟩) (lt_of_heap HN.out) (fun f => f)).trans d3
              have HA5 := Lib.hid (HAa.out.fr0 hf)
              have HR5 := Lib.hid (HRa.out.fr0 hf)
              have HF5 := Lib.hid (HFa.out.trans' hf)
              have HU := Lib.hid hu
              clear hu hf d0 d1 d2 d3 HAa HRa HFa HN HNN
              go_wp2_with fail
              refine (refRead_any _ h qb db L bs I At N t1 t2 t3 w5 HR5.out).mono ?_
              rintro e w6 ⟨v, rfl, hv, hf⟩
              have HA6 := Lib.hid (HA5.out.fr0 hf)
              have HR6 := Lib.hid (HR5.out.fr0 hf)
              have HF6 := Lib.hid (HF5.out.trans' hf)
              have hcu := (HU.out.fr0 hf).convert (P := Try.prog) 29 9 5 Try.underlying29 Try.underlying5 Try.underlying9
              have hcv := hv.convert (P := Try.prog) 29 9 5 Try.underlying29 Try.underlying5 Try.underlying9
              generalize readOut L bs I At N = X at *
              generalize perr L I At N = c at *
              clear hv hf HU HA5 HR5 HF5 e1 e2 e3
              go_wp2
              go_roundg (Q.length - (k + 1))
              case measure => omega
              case rel => exact ⟨k + 1, bs, by simp, by omega, by omega, HA6, HR6, HF6⟩
            · have d0 : wa.cell? ⟨M, 0, none⟩ = some (.int .i64 op) := by rw [cell_of_row _ _ _ _ _ _ HN.out]; rfl
              go_wp2
              have hLP : ∀ W, Fr (fun k => k = pb ∨ k = qb) wa.drew W → ∀ (o : Nat) (u : Value), wa.cell? ⟨M, o, none⟩ = some u → W.cell? ⟨M, o, none⟩ = some u := fun W hW o u hu =>
                (hW.cell (p := ⟨M, o, none⟩) (lt_of_heap HN.out) (fun e => by rcases e with e | e; exact HNN.out.1 e; exact HNN.out.2 e)).trans hu
              have hBW : ∀ W, Fr (fun k => k = pb ∨ k = qb) wa.drew W → BytesIs W (.slice A b.length C) b := fun W hW => HB.out.fr0 (fr0_of_two HFa.out.drew hW HAa.out.pB HRa.out.pB)
              obtain ⟨bs2, hbs2⟩ : ∃ bs2, wrote L bs I At b = bs2 := ⟨_, rfl⟩
              obtain ⟨ec, hec⟩ : ∃ ec, perr L I At (b.length : Int) = ec := ⟨_, rfl⟩
              refine pa_region (B1 := w.heap.size) (g := g) (pb := pb) (cb := cb) (B2 := w.heap.size) (h := h) (qb := qb) (db := db) (xb := M) (L := L) (bs := bs) (bs2 := bs2) (I := I) (At := At) (V := .slice A b.length C) (ec := ec)
                ⟨rfl, rfl, rfl, rfl, fun W hW => hLP W hW 1 _ (by rw [cell_of_row _ _ _ _ _ _ HN.out]; rfl), fun W hW => hLP W hW 2 _ (by rw [cell_of_row _ _ _ _ _ _ HN.out]; rfl), fun W hW => hLP W hW 4 _ (by rw [cell_of_row _ _ _ _ _ _ HN.out]; rfl), HNE.out.1, HNE.out.2,
                  fun W hW hA => by rw [← hbs2, ← hec]; exact write_any _ g pb cb L bs b I At _ t1 t2 t4 W hA (hBW W hW),
                  fun W hW hR => by rw [← hbs2, ← hec]; exact refWrite_any _ h qb db L bs b I At _ t1 t2 t4 W hR (hBW W hW)⟩
                ⟨HAa.out.fr0 (Fr.refl _ _).drew, HRa.out.fr0 (Fr.refl _ _).drew⟩ ?_
              intro vals w8 hG8 hJ8 hv
              have HA8 := Lib.hid hJ8.1
              have HR8 := Lib.hid hJ8.2
              have HF8 := Lib.hid (fr0_of_two HFa.out hG8.fr HAa.out.pB HRa.out.pB)
              have h138 : vals 138 = .bool false := hv 138 (List.contains_iff_mem.1 (by kernel_rfl))
              clear hv hG8 hJ8 hLP hBW HAa HRa HFa HN HNN d0 hbs2 hec
              rw [show dsts paOps = [111, 112, 113, 114, 115, 116, 117, 118, 119, 120, 121, 122, 123, 124, 125, 126, 127, 128, 129, 130, 131, 132, 133, 134, 135, 136, 137, 138] by kernel_rfl]
              simp only [frm, List.mapIdx_toArray, List.mapIdx_cons, List.mapIdx_nil, Nat.zero_add, Nat.reduceAdd, List.contains_cons, List.contains_nil, Nat.reduceBEq, Bool.or_false, Bool.false_or, Bool.or_true, Bool.true_or, Bool.or_self, Bool.false_eq_true, if_true, if_false, h138]
              clear h138
              go_wp2
              go_roundg (Q.length - (k + 1))
              case measure => omega
              case rel => exact ⟨k + 1, bs2, by simp, by omega, by omega, HA8, HR8, HF8⟩
        · obtain rfl : k = Q.length := by omega
          have HFT := Lib.hid HA.out.fits
          obtain ⟨C5, hC5, r1⟩ := HR.out.cell1
          have HR1 := Lib.hid r1
          clear r1
          go_wp2
          go_loopg [17] (L.length + 2) (fun kx s wx => ∃ i : Int, s = .int .i64 i ∧ -1 ≤ i ∧ i ≤ (L.length : Int) + 1 ∧ (L.length : Int) + 1 - i ≤ (kx : Int) ∧ Hid (Fr0 wr wx))
          case atStart => exact ⟨-1, rfl, by omega, by omega, by omega, Lib.hid (Fr.refl _ _)⟩
          case round =>
            obtain ⟨i, rfl, hi1, hi2, hgi, HFx⟩ := hrel
            have HAx := Lib.hid (HA.out.fr0 HFx.out)
            by_cases hin : i ≤ (L.length : Int)
            · by_cases hpart : i < 0 ∨ (L.length : Int) ≤ i
              · go_wp2_with fail
                refine (region_out _ g pb cb L bs i _ HAx.out hpart).mono ?_
                rintro e w9 ⟨rfl, hf⟩
                have HF9 := Lib.hid (HFx.out.trans' hf)
                clear hf HAx
                rcases hpart with hneg | hge
                · have h0 : ¬ 0 ≤ i := by omega
                  go_wp2
                  go_roundg ((L.length : Int) - i).toNat
                  case measure => omega
                  case rel => exact ⟨i + 1, rfl, by omega, by omega, by omega, HF9⟩
                · have h0 : 0 ≤ i := by omega
                  have h1 : ¬ i < (L.length : Int) := by omega
                  go_wp2
                  go_roundg ((L.length : Int) - i).toNat
                  case measure => omega
                  case rel => exact ⟨i + 1, rfl, by omega, by omega, by omega, HF9⟩
              · obtain ⟨j, rfl⟩ := Int.eq_ofNat_of_zero_le (show 0 ≤ i by omega)
                have hj : j < L.length := by omega
                clear hpart
                go_wp2_with fail
                refine (region_in _ g pb cb L bs j _ HAx.out hj).mono ?_
                rintro e w9 ⟨rfl, hf⟩
                have hfx := HFx.out.trans' hf
                have HF9 := Lib.hid hfx
                have s1 := (hfx.cell (p := ⟨h, 1, none⟩) HR.out.g_lt (fun f => f)).trans HR1.out
                have s2 := (hfx.cell (p := ⟨db, j, none⟩) HR.out.cb_lt (fun f => f)).trans (HR.out.cuts j (by omega))
                have s3 := (hfx.cell (p := ⟨db, j + 1, none⟩) HR.out.cb_lt (fun f => f)).trans (HR.out.cuts (j + 1) (by omega))
                clear hf hfx HAx
                generalize cut L j = c at *
                generalize cut L (j + 1) = d at *
                have g0 : 0 ≤ (j : Int) := by omega
                have g1 : (j : Int) < (L.length : Int) := by omega
                have g2 : (j : Int) < ((L.length + 1 : Nat) : Int) := by omega
                have g3 : (j : Int) + 1 < ((L.length + 1 : Nat) : Int) := by omega
                go_wp2
                go_roundg ((L.length : Int) - j).toNat
                case measure => omega
                case rel => exact ⟨(j : Int) + 1, rfl, by omega, by omega, by omega, HF9⟩
            · go_wp2_with fail
              refine (parts_any _ g pb cb L bs _ HAx.out).mono ?_
              rintro e w9 ⟨rfl, rfl⟩
              have HFw := Lib.hid (HF.out.trans' HFx.out)
              go_wp2
              go_ret
              exact ⟨by simp, HFw.out⟩
    · have he := hno hfit
      subst he
      have HNF := Lib.hid hfit
      clear hok hno hf2 hfit HF1
      go_wp2_with fail
      refine (refNew_any size _ L hL HBD.out hs w2 (HI.out.fr0 HF2.out)).mono ?_
      rintro e w3 ⟨_, hno, hf3⟩
      obtain rfl := hno HNF.out
      have HF3 := Lib.hid (HF2.out.trans' hf3)
      clear hno hf3
      go_wp2
      go_ret
      exact ⟨rfl, HF3.out⟩
end Go.Proofs.Ytjpnmkcbkpikoaa.Arena
