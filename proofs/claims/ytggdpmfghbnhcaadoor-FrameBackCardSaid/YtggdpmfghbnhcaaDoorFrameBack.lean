/-
  FrameBack: what is made frames of comes out again, one by one: the walk.
-/
import Derived.Test.YtggdpmfghbnhcaaDoorFrameAwake
import Derived.Test.YtggdpmfghbnhcaaDoorLawB
namespace Go.Proofs.YtggdpmfghbnhcaaDoor.Frame
open Go.RowKit Base Pack Crc

/-- the frames of the first parts, one behind the other -/
def rowOf (ps : List (List UInt8)) (j : Nat) : List UInt8 := ((ps.take j).map frameOf).flatten
theorem rowOf_next (ps : List (List UInt8)) (j : Nat) (h : j < ps.length) : rowOf ps (j + 1) = rowOf ps j ++ frameOf (ps.getD j []) := by
  unfold rowOf
  rw [List.take_add_one, List.getD_eq_getElem?_getD, List.getElem?_eq_getElem h]
  simp only [Option.toList_some, Option.getD_some, List.map_append, List.map_cons, List.map_nil, List.flatten_append, List.flatten_cons, List.flatten_nil, List.append_nil]
theorem short_next {ps : List (List UInt8)} {j : Nat} (h : j < ps.length) (ha : ∀ p ∈ ps.take j, p.length ≤ 512) (hp : (ps.getD j []).length ≤ 512) : ∀ p ∈ ps.take (j + 1), p.length ≤ 512 := by
  intro p hpm
  rw [List.take_add_one, List.mem_append] at hpm
  rcases hpm with hpm | hpm
  · exact ha p hpm
  · rw [List.getElem?_eq_getElem h] at hpm
    simp at hpm
    subst hpm
    rw [List.getD_eq_getElem?_getD, List.getElem?_eq_getElem h] at hp
    exact hp
set_option maxRecDepth 100000 in
set_option maxHeartbeats 4000000 in
theorem frameBack_walk (v0 : Value) (ps : List (List UInt8)) (w : World) (hv : ∃ a c, v0 = .slice a ps.length c) (hm : ps.length ≤ 9223372036854775807) (hp : ps.length ≤ 1152921504606846976 → PartsIs w v0 ps) (hlen : ∀ p ∈ ps, p.length ≤ 9223372036854775807) (hR : Rests w) :
    Calls Tryd.prog 6 #[v0] w fun e w' => e = .returned (.bool true) ∧ Fr0 w w' := by
  obtain ⟨a1, cap1, rfl⟩ := hv
  have HR := Lib.hid hR
  have HP := Lib.hid hp
  have HLEN := Lib.hid hlen
  clear hR hp hlen
  by_cases h2 : 30 < ps.length
  · go_enter Tryd.func6, Tryd.ntmps6
    go_wp2_with fail
    refine (awake_any w HR.out).mono ?_
    rintro e w1 ⟨rfl, hF1⟩
    have HF1 := Lib.hid hF1
    clear hF1
    go_wp2
    go_ret
    exact ⟨rfl, HF1.out⟩
  · have HPS := Lib.hid (HP.out (by omega))
    clear HP
    go_enter Tryd.func6, Tryd.ntmps6
    go_wp2_with fail
    refine (awake_any w HR.out).mono ?_
    rintro e w1 ⟨rfl, hF1⟩
    have HF1 := Lib.hid hF1
    clear hF1
    have HO0 : Hid (w1.ownsRow w1.heap.size 5 1 (.slice none ([] : List UInt8).length 0) ([] : List UInt8).length (bvals [])) := Lib.hid (World.ownsRow_nil _ _ _ _)
    go_wp2_with fail
    go_loopg [3, 4] ps.length (fun kx vb vi wr => ∃ (j : Nat) (y : List UInt8) (Ab : Option Addr) (Cb : Nat), vi = .int .i64 (j : Int) ∧ vb = .slice Ab y.length Cb ∧ j ≤ ps.length ∧ ps.length - j ≤ kx ∧ y.length ≤ 518 * j ∧ Hid (y = rowOf ps j) ∧ Hid (∀ p ∈ ps.take j, p.length ≤ 512) ∧ Hid (wr.ownsRow w1.heap.size 5 1 (.slice Ab y.length Cb) y.length (bvals y)) ∧ Hid (Fr0 w1 wr))
    case atStart => exact ⟨0, [], none, 0, rfl, rfl, Nat.zero_le _, by omega, by simp, Lib.hid rfl, Lib.hid (fun p h => by simp at h), HO0, Lib.hid (Fr.refl _ _)⟩
    case round =>
      clear HO0
      obtain ⟨j, y, Ab, Cb, rfl, rfl, hj, hk, hyl, HY, HS, HO, HFR⟩ := hrel
      have HF : Hid (Fr0 w wr) := Lib.hid (HF1.out.trans' HFR.out)
      by_cases hlt : j < ps.length
      · obtain ⟨pb, po, sa, sc, rfl, hpc, hB0⟩ := parts_at HPS.out j hlt
        have c0 := hpc wr HF.out
        have HPC := Lib.hid hpc
        have hpl := HLEN.out (ps.getD j []) (by simp [hlt])
        have i1 : (j : Int) < (ps.length : Int) := by omega
        have i2 : 0 ≤ (j : Int) := by omega
        have HB := Lib.hid (hB0.fr0 HF.out)
        have HNX := Lib.hid (rowOf_next ps j hlt)
        have HSN := Lib.hid (short_next hlt HS.out)
        clear hpc hB0
        generalize ps.getD j [] = p at *
        have hput := put_any _ p hpl wr HB.out (HR.out.fr HF.out (fun f => f))
        go_wp2_with fail
        refine hput.mono ?_
        clear hput
        rintro e w2 ⟨v2, rfl, hB2, hF2⟩
        have HF2 := Lib.hid hF2
        have c1 := HPC.out w2 (HF.out.trans' hF2)
        clear hF2 c0
        by_cases h512 : 512 < p.length
        · rw [show putErr p = 9 by unfold putErr; rw [if_pos h512]]
          have hdi : decide ((512 : Int) < (p.length : Int)) = true := decide_eq_true (by omega)
          clear hB2
          go_wp2
          go_ret
          exact ⟨rfl, HF.out.trans' HF2.out⟩
        · rw [show putErr p = 0 by unfold putErr; rw [if_neg h512]]
          rw [show putOut p = frameOf p by unfold putOut; rw [if_neg h512]] at hB2
          have HFL := Lib.hid (frameOf_length p)
          have HSN2 := Lib.hid (HSN.out (by omega))
          have HB2 := Lib.hid hB2
          have HO2 := Lib.hid (owns_fr HF2.out HO.out (fun _ _ f => f))
          clear hB2 HSN HO
          generalize frameOf p = x at *
          go_wp2_with (refine wpList_append_bytes rfl (.tmp 39) (.tmp 40) 23 rfl w1.heap.size 5 Tryd.underlying23 info8 _ _ y.length y x rfl rfl HO2.out HB2.out (by have := HFL.out; omega) (Nat.le_trans HFR.out.size HF2.out.size) ?_)
          intro v3 w3 hO3 hG3
          obtain ⟨A3, C3, rfl, _⟩ := owns_form hO3
          have hF3 : Fr0 w1 w3 := (HFR.out.trans' HF2.out).trans (Fr.of_grown (S := fun k => (Value.slice Ab y.length Cb).ownBlock = some k) hG3 (fun k _ e => e)) (fun k hk e => by have := (HO2.out.lt k e).1; omega)
          have HF3 := Lib.hid hF3
          have HO3 := Lib.hid hO3
          have hyx : (y ++ x).length = y.length + x.length := List.length_append
          clear hO3 hG3 hF3
          go_wp2
          go_roundg (ps.length - (j + 1))
          case measure => omega
          case rel => exact ⟨j + 1, y ++ x, A3, C3, by simp, by rw [hyx], by omega, by omega, by have := HFL.out; omega, Lib.hid (by rw [HNX.out, HY.out]), HSN2, by rw [hyx]; exact HO3, HF3⟩
      · obtain rfl : j = ps.length := by omega
        have hB := BytesIs.own HO.out
        have hOb : ∀ a n c, (Value.slice Ab y.length Cb) = .slice (some a) n c → a.block < wr.heap.size := fun a n c h => (HO.out.lt a.block (by rw [h]; rfl)).2
        have hcut : feed [] false y = ⟨ps.map fun p => ⟨p, 0⟩, [], false⟩ := by
          unfold feed
          rw [if_neg (by simp), List.nil_append, HY.out]
          unfold rowOf
          rw [List.take_length]
          exact cut_frames ps (by have := HS.out; rw [List.take_length] at this; exact this)
        have HB := Lib.hid hB
        have HOB := Lib.hid hOb
        have HCUT := Lib.hid hcut
        clear hB hOb hcut HO
        go_wp2_with fail
        refine (made w wr HF.out).mono ?_
        rintro e w2 ⟨g, rfl, hg, hM, hF2⟩
        have hfd := fed_any w w2 g none [] false y _ hM (HF.out.trans' hF2) HR.out (by omega) (HB.out.fr0 hF2) (fun a n c h _ e => by
          have := HOB.out a n c h
          rcases e with e | e
          · omega
          · cases e)
        clear hM hF2 hg
        unfold ptr at *
        go_wp2_with fail
        refine hfd.mono ?_
        clear hfd
        rintro e w4 ⟨v4, q4, rfl, _, _, hP4, _, hF4⟩
        rw [HCUT.out] at hP4
        simp only at hP4
        have hml : (ps.map fun p => (⟨p, 0⟩ : Pc)).length = ps.length := List.length_map _
        obtain ⟨A4, C4, rfl⟩ := hP4.form
        rw [hml]
        have HF4 := Lib.hid hF4
        have HP4 := Lib.hid hP4
        clear hF4 hP4
        go_wp2_with fail
        go_loopg [8] ps.length (fun kx vi wr => ∃ i : Nat, vi = .int .i64 (i : Int) ∧ i ≤ ps.length ∧ ps.length - i ≤ kx ∧ Hid (Fr0 w4 wr))
        case atStart => exact ⟨0, rfl, Nat.zero_le _, by omega, Lib.hid (Fr.refl _ _)⟩
        case round =>
          obtain ⟨i, rfl, hi, hk2, HFR2⟩ := hrel
          by_cases hil : i < ps.length
          · obtain ⟨pb, po, hA4, hat⟩ := (HP4.out.fr0 HFR2.out).at.2 (by omega)
            obtain ⟨sv, k0, k1, hb1, _⟩ := hat i (by omega)
            simp only [List.getElem_map] at k1 hb1
            subst hA4
            obtain ⟨pb', po', sa, sc, rfl, hpc, hB0⟩ := parts_at HPS.out i hil
            have c0 := hpc _ (HF4.out.trans' HFR2.out)
            have hb2 := hB0.fr0 (HF4.out.trans' HFR2.out)
            have hgd : ps.getD i [] = ps[i] := by rw [List.getD_eq_getElem?_getD, List.getElem?_eq_getElem hil]; rfl
            rw [hgd] at c0 hb2
            have i1 : (i : Int) < (ps.length : Int) := by omega
            have i2 : 0 ≤ (i : Int) := by omega
            have hcv1 := fun nq : Nat => (hb1.fr0 ((Fr.refl _ _).drewN nq)).convert (P := Tryd.prog) 23 9 5 Tryd.underlying23 Tryd.underlying5 Tryd.underlying9
            have hcv2 := fun nq : Nat => (hb2.fr0 ((Fr.refl _ _).drewN nq)).convert (P := Tryd.prog) 23 9 5 Tryd.underlying23 Tryd.underlying5 Tryd.underlying9
            clear hb1 hb2 hat hpc hB0 hgd
            generalize ps[i] = p at *
            generalize (⟨p.toArray⟩ : ByteArray) = st at *
            go_wp2
            go_quiet (fail)
            go_wp2
            have HFR3 := Lib.hid (HFR2.out.drewN nq)
            generalize World.drewN _ nq = w9 at *
            go_roundg (ps.length - (i + 1))
            case measure => omega
            case rel => exact ⟨i + 1, by simp, by omega, by omega, HFR3⟩
          · obtain rfl : i = ps.length := by omega
            go_wp2
            go_ret
            exact ⟨rfl, HF4.out.trans' HFR2.out⟩
end Go.Proofs.YtggdpmfghbnhcaaDoor.Frame
