/-
  The reference's store: Push.
-/
import Derived.Test.YtbbmjkligiglmaaStoreBase
import Derived.Test.YtbbmjkligiglmaaStoreRef
import Derived.Test.YtbbmjkligiglmaaStoreReg
namespace Go.Proofs.Ytbbmjkligiglmaa.Store
open Go.RowKit Base _root_.Go.Proofs.Ytbbmjkligiglmaa.Tenant _root_.Go.Proofs.Ytbbmjkligiglmaa.Series _root_.Go.Proofs.Ytbbmjkligiglmaa.Agg
open _root_.Go.Proofs.Ytbbmjkligiglmaa.Ord (Ent place has put Sorted ptr FrO Mine lt Grown)

theorem push_full {most retain : Int} {nm : ByteArray} {l : List Sm} {ss : List SE} (h1 : hasS nm ss = false) (h2 : most ≤ (ss.length : Int)) : pushErr most retain nm l ss = 6 ∧ pushSt most retain nm l ss = ss := by
  have h : pushErr most retain nm l ss = 6 := by unfold pushErr; rw [if_pos ⟨h1, h2⟩]
  exact ⟨h, by unfold pushSt; rw [h]; rfl⟩
theorem push_order {most retain : Int} {nm : ByteArray} {l : List Sm} {ss : List SE} (h1 : ¬ (hasS nm ss = false ∧ most ≤ (ss.length : Int))) (h2 : addErr (wasS nm ss) l retain ≠ 0) : pushErr most retain nm l ss = 5 ∧ pushSt most retain nm l ss = ss := by
  have h : pushErr most retain nm l ss = 5 := by unfold pushErr; rw [if_neg h1, if_pos h2]
  exact ⟨h, by unfold pushSt; rw [h]; rfl⟩
theorem push_ok {most retain : Int} {nm : ByteArray} {l : List Sm} {ss : List SE} (h1 : ¬ (hasS nm ss = false ∧ most ≤ (ss.length : Int))) (h2 : addErr (wasS nm ss) l retain = 0) : pushErr most retain nm l ss = 0 ∧ pushSt most retain nm l ss = putS nm (addOut (wasS nm ss) l retain) ss := by
  have h : pushErr most retain nm l ss = 0 := by unfold pushErr; rw [if_neg h1, if_neg (by rw [h2]; decide)]
  exact ⟨h, by unfold pushSt; rw [h]; rfl⟩
def RPushPost (O : Nat → Prop) (g : Nat) (most retain : Int) (nm : ByteArray) (l : List Sm) (ss : List SE) (w : World) (e : Ending) (w' : World) : Prop :=
  e = .returned (.int .i64 (pushErr most retain nm l ss)) ∧ Fr O w w' ∧ ∃ es', RIn (Grown O w w') w' 44 56 80 g most retain es' (pushSt most retain nm l ss)
/-- it is refused: nothing has changed -/
theorem RPushPost.no {O : Nat → Prop} {g : Nat} {most retain : Int} {nm : ByteArray} {l : List Sm} {ss : List SE} {es : List Ent} {w w' : World} {r : Int} (hf : Fr0 w w') (h : RIn O w 44 56 80 g most retain es ss) (hp : pushErr most retain nm l ss = r ∧ pushSt most retain nm l ss = ss) : RPushPost O g most retain nm l ss w (.returned (.int .i64 r)) w' :=
  ⟨by rw [hp.1], hf.zero, es, by rw [hp.2]; exact (h.fr0 hf).mono (fun _ hk => .inl hk)⟩
set_option maxRecDepth 100000 in
set_option maxHeartbeats 4000000 in
theorem rpush_any (O : Nat → Prop) (g : Nat) (most retain : Int) (es : List Ent) (ss : List SE) (nm : ByteArray) (l : List Sm) (u : Value) (w : World) (ho : OkS most retain ss) (hl : l.length ≤ 1000000) (h : RIn O w 44 56 80 g most retain es ss) (hu : PairsIs w u l) :
    Calls Try.prog 15 #[ptr g, .string nm, u] w (RPushPost O g most retain nm l ss w) := by
  have hk := h.kept
  have hn : es.length ≤ 16 := by rw [hk.length]; have := ho.le; have := ho.hm; omega
  have HAT := Lib.hid (rat_any 0 g most retain es nm w (by omega) h.at (hk.sorted ho.srt))
  obtain ⟨hix1, hix2⟩ := idx_has hk nm
  obtain ⟨hw1, hw2, -⟩ := ho.was nm
  have hw3 : (wasS nm ss).length ≤ 64 := by have := ho.hr; omega
  have HH := Lib.hid h
  have HK := Lib.hid hk
  have HNO := Lib.hid (fun (w' : World) (r : Int) (hf : Fr0 w w') (hp : pushErr most retain nm l ss = r ∧ pushSt most retain nm l ss = ss) => RPushPost.no hf h hp)
  have HLS := Lib.hid hk.length
  obtain ⟨A, C, hrow, hown, hcells, hAO⟩ := h.parts
  have c0 : w.cell? ⟨g, 0, none⟩ = some (.int .i64 most) := by rw [cell_of_row _ _ _ _ _ _ hrow]; rfl
  have c1 : w.cell? ⟨g, 1, none⟩ = some (.int .i64 retain) := by rw [cell_of_row _ _ _ _ _ _ hrow]; rfl
  have c2 : w.cell? ⟨g, 2, none⟩ = some (.slice A es.length C) := by rw [cell_of_row _ _ _ _ _ _ hrow]; rfl
  cases hh : hasS nm ss with
  | true =>
    rw [hix1 hh] at HAT
    obtain ⟨a, c, hv, hp, hpl⟩ := hk.got hh
    obtain ⟨b, rfl, k0, k1⟩ := hcells _ _ hv
    have HADD := Lib.hid (fun w' (hf : Fr0 w w') => radd_typ _ u _ l retain (by omega) hl w' (hp.fr0 hf).is (pairs_fr hu hf (fun _ _ _ _ _ f => f)))
    have HORD := Lib.hid (fun h2 => push_order (most := most) (retain := retain) (nm := nm) (l := l) (ss := ss) (fun h => by rw [hh] at h; cases h.1) h2)
    have HYES : Hid (addErr (wasS nm ss) l retain = 0 → ∀ w3 v, Fr0 w w3 → PairsT w3 80 v (addOut (wasS nm ss) l retain) → (∀ a n c, v = .slice (some a) n c → 0 < (addOut (wasS nm ss) l retain).length → w.heap.size ≤ a.block) → RPushPost O g most retain nm l ss w (.returned (.int .i64 0)) (w3.setCell ⟨b, placeS nm ss * 2 + 1, none⟩ v) ∧ w3.frozen? ⟨b, placeS nm ss * 2 + 1, none⟩ = false ∧ w3.cell? ⟨b, placeS nm ss * 2 + 1, none⟩ = some (.slice a (wasS nm ss).length c)) := Lib.hid (fun h3 w3 v hf hpv hnv => by
      obtain ⟨hs, hfo, hfz⟩ := rin_set (by decide) ⟨by decide, by decide⟩ h hrow hown (hAO b (by simp [Value.ownBlock])) hh hf hpv hnv
      have hp := push_ok (most := most) (retain := retain) (nm := nm) (l := l) (ss := ss) (fun h => by rw [hh] at h; cases h.1) h3
      have hlt := World.block_lt_of_cell? w _ k1
      exact ⟨⟨by rw [hp.1], hfo, _, by rw [hp.2]; exact hs⟩, hfz, (hf.cell hlt (fun f => f)).trans k1⟩)
    clear hix1 hix2 hw1 hw2 h hk ho hv hrow hown hcells hp k0 hu hAO
    generalize hWA : wasS nm ss = was at *
    generalize hPL : placeS nm ss = k at *
    clear hWA hPL
    have i1 : (k : Int) < (es.length : Int) := by omega
    have i2 : 0 ≤ (k : Int) := by omega
    have i3 : ¬ (k : Int) < 0 := by omega
    have i4 : decide ((k : Int) < 0) = false := decide_eq_false i3
    generalize hER : addErr was l retain = er at *
    generalize hOUT : addOut was l retain = out at *
    have HER := Lib.hid hER
    have HOUT := Lib.hid hOUT
    clear hER hOUT
    unfold AddPostT at HADD
    simp only [HER.out, HOUT.out] at HADD
    clear hw3 hl HER HOUT
    unfold ptr at *
    go_enter Try.func15, Try.ntmps15
    go_wp2_with fail
    refine HAT.out.mono ?_
    rintro e w1 ⟨rfl, rfl⟩
    go_wp2
    go_quiet (fail)
    have HFQ : Hid (Fr0 w (w.drewN nq)) := Lib.hid ((Fr.refl _ _).drewN nq)
    have q1 := (HFQ.out.cell (World.block_lt_of_cell? w _ c1) (fun f => f)).trans c1
    have q2 := (HFQ.out.cell (World.block_lt_of_cell? w _ c2) (fun f => f)).trans c2
    have q3 := (HFQ.out.cell (World.block_lt_of_cell? w _ k1) (fun f => f)).trans k1
    have hgl := World.block_lt_of_cell? w _ c2
    have HC2 := Lib.hid c2
    clear c0 c1 c2 k1 HAT
    generalize w.drewN nq = wq at *
    go_wp2_with fail
    refine (HADD.out _ HFQ.out).mono ?_
    rintro e w3 ⟨v, rfl, hP3, hF3, hT3, hN3⟩
    have HF3 := Lib.hid (HFQ.out.trans' hF3)
    obtain ⟨NA, NC, rfl⟩ := pairs_form hP3
    have HP3 : Hid (PairsT w3 80 (.slice NA out.length NC) out) := Lib.hid ⟨hP3, hT3⟩
    have c2 := (HF3.out.cell hgl (fun f => f)).trans HC2.out
    have HN3 : Hid (∀ a n c, Value.slice NA out.length NC = .slice (some a) n c → 0 < out.length → w.heap.size ≤ a.block) := Lib.hid (fun a n c hv h0 => Nat.le_trans HFQ.out.size (hN3 a n c hv h0))
    clear q1 q2 q3 hP3 hF3 hT3 hN3 HADD
    by_cases hz : er = 0
    · subst hz
      obtain ⟨hend, hfz, hcl⟩ := HYES.out rfl w3 _ HF3.out HP3.out HN3.out
      have HE := Lib.hid hend
      clear hend HYES HORD HNO HK HH HN3
      generalize out.length = ol at *
      go_wp2
      go_ret
      exact HE.out
    · have HE := Lib.hid (HNO.out w3 5 HF3.out (HORD.out hz))
      clear HYES HORD HNO HK HH HN3
      generalize out.length = ol at *
      go_wp2
      go_ret
      exact HE.out
  | false =>
    rw [hix2 hh] at HAT
    have hs : (es.length : Int) = (ss.length : Int) := by rw [hk.length]
    have HADD := Lib.hid (fun w' (hf : Fr0 w w') => radd_typ (.slice none 0 0) u [] l retain (by simp) hl w' (pairs_nil w') (pairs_fr hu hf (fun _ _ _ _ _ f => f)))
    have HWN : Hid (wasS nm ss = []) := Lib.hid (was_none hh)
    have HFULL := Lib.hid (fun h2 => push_full (most := most) (retain := retain) (nm := nm) (l := l) (ss := ss) hh h2)
    rw [← hs] at HFULL
    have HORD := Lib.hid (fun (h1 : ¬ most ≤ (es.length : Int)) h2 => push_order (most := most) (retain := retain) (nm := nm) (l := l) (ss := ss) (fun h => h1 (by rw [hs]; exact h.2)) h2)
    have hpl := Ord.place_le nm es
    have HLT : Hid (∀ (j : Nat) (e : Ent), j < place nm es → es[j]? = some e → lt e.1 nm = true) := Lib.hid (fun j e h1 h2 => Ord.place_lt nm es j e h1 h2)
    have HGE : Hid (∀ e : Ent, es[place nm es]? = some e → lt e.1 nm = false) := Lib.hid (fun e h => Ord.place_at nm es e h)
    have HYES : Hid (¬ most ≤ (es.length : Int) → addErr [] l retain = 0 → ∀ W0, Fr0 w W0 → ∀ (v : Value), PairsT W0 80 v (addOut [] l retain) → (∀ a n c, v = .slice (some a) n c → 0 < (addOut [] l retain).length → w.heap.size ≤ a.block) → ∀ (w8 : World) (A8 : Option Addr) (C8 : Nat), Fr0 W0 w8 → w8.ownsRow W0.heap.size 56 2 (.slice A8 (place nm es + 1 + (es.length - place nm es)) C8) (place nm es + 1 + (es.length - place nm es)) (ecells (es.take (place nm es)) ++ [.string nm, v] ++ ecells (es.drop (place nm es))) →
        RPushPost O g most retain nm l ss w (.returned (.int .i64 0)) (w8.setCell ⟨g, 2, none⟩ (.slice A8 (place nm es + 1 + (es.length - place nm es)) C8))) := Lib.hid (fun h1 h3 W0 hf v hpv hnv w8 A8 C8 hf8 hO => by
      obtain ⟨hs8, hfo⟩ := rin_swap (T := 44) (E := 56) ⟨by decide, by decide⟩ h hrow rfl hh hf hf8 hpv hnv hO
      have hp := push_ok (most := most) (retain := retain) (nm := nm) (l := l) (ss := ss) (fun h => h1 (by rw [hs]; exact h.2)) (by rw [was_none hh]; exact h3)
      exact ⟨by rw [hp.1], hfo, _, by rw [hp.2, was_none hh]; exact hs8⟩)
    have HONE := Lib.hid hk.one
    rw [HWN.out] at HORD
    clear hix1 hix2 hw1 hw2 hw3 h hk ho hu HWN hAO
    generalize hPL : place nm es = k at *
    clear hPL
    have HG : Hid (∀ i, i < es.length → ∃ e, es[i]? = some e) := Lib.hid (fun i hi => ⟨_, List.getElem?_eq_getElem hi⟩)
    generalize hER : addErr [] l retain = er at *
    generalize hOUT : addOut [] l retain = out at *
    have HER := Lib.hid hER
    have HOUT := Lib.hid hOUT
    clear hER hOUT
    unfold AddPostT at HADD
    simp only [HER.out, HOUT.out] at HADD
    clear hl HER HOUT hs
    have HROW := Lib.hid hrow
    have HOWN := Lib.hid hown
    have HCELLS := Lib.hid hcells
    have HC2 := Lib.hid c2
    have hgl := World.block_lt_of_cell? w _ c2
    have HELN : Hid (∀ i (e : Ent), es[i]? = some e → i < es.length) := Lib.hid (fun i e h => (List.getElem?_eq_some_iff.1 h).1)
    clear hrow hown hcells
    generalize hN : es.length = n at *
    have HN := Lib.hid hN
    clear hN
    have j1 : decide ((-1 : Int) < 0) = true := rfl
    by_cases hfull : most ≤ (n : Int)
    · have j2 : decide (most ≤ (n : Int)) = true := decide_eq_true hfull
      have HE := Lib.hid (fun w' hf => HNO.out w' 6 hf (HFULL.out hfull))
      clear HADD HYES HORD HNO HK HH HFULL HG HLT HGE HONE HROW HOWN HCELLS
      unfold ptr at *
      go_enter Try.func15, Try.ntmps15
      go_wp2_with fail
      refine HAT.out.mono ?_
      rintro e w1 ⟨rfl, rfl⟩
      go_wp2
      go_quiet (fail)
      have HFQ : Hid (Fr0 w (w.drewN nq)) := Lib.hid ((Fr.refl _ _).drewN nq)
      generalize w.drewN nq = wq at *
      clear c0 c1 c2
      go_wp2
      go_ret
      exact HE.out _ HFQ.out
    · have j2 : decide (most ≤ (n : Int)) = false := decide_eq_false hfull
      have HE5 := Lib.hid (fun w' hf hz => HNO.out w' 5 hf (HORD.out hfull hz))
      have HY := Lib.hid (HYES.out hfull)
      clear HYES HORD HNO HFULL
      unfold ptr at *
      go_enter Try.func15, Try.ntmps15
      go_wp2_with fail
      refine HAT.out.mono ?_
      rintro e w1 ⟨rfl, rfl⟩
      go_wp2
      go_quiet (fail)
      have HFQ : Hid (Fr0 w (w.drewN nq)) := Lib.hid ((Fr.refl _ _).drewN nq)
      have q1 := (HFQ.out.cell (World.block_lt_of_cell? w _ c1) (fun f => f)).trans c1
      clear c0 c1 c2 HAT
      generalize w.drewN nq = wq at *
      go_wp2_with fail
      refine (HADD.out _ HFQ.out).mono ?_
      rintro e w3 ⟨v, rfl, hP3, hF3, hT3, hN3⟩
      have HF3 := Lib.hid (HFQ.out.trans' hF3)
      obtain ⟨NA, NC, rfl⟩ := pairs_form hP3
      have HP3 : Hid (PairsT w3 80 (.slice NA out.length NC) out) := Lib.hid ⟨hP3, hT3⟩
      have c2 := (HF3.out.cell hgl (fun f => f)).trans HC2.out
      have HN3 : Hid (∀ a n c, Value.slice NA out.length NC = .slice (some a) n c → 0 < out.length → w.heap.size ≤ a.block) := Lib.hid (fun a n c hv h0 => Nat.le_trans HFQ.out.size (hN3 a n c hv h0))
      clear q1 hP3 hF3 hT3 hN3 HADD
      by_cases hz : er = 0
      · subst hz
        have HINS := Lib.hid (HY.out rfl w3 HF3.out _ HP3.out HN3.out)
        have HCL : Hid (∀ i (e : Ent), es[i]? = some e → ∃ b, A = some ⟨b, 0, none⟩ ∧ w3.cell? ⟨b, i * 2, none⟩ = some (.string e.1)) := Lib.hid (fun i e he => by
          obtain ⟨b, h1, h2, _⟩ := HCELLS.out i e he
          exact ⟨b, h1, (HF3.out.cell (World.block_lt_of_cell? w _ h2) (fun f => f)).trans h2⟩)
        have hrow := HF3.out.heap HROW.out (fun f => f)
        have hown := Ord.owns_fr HF3.out HOWN.out (fun _ _ f => f)
        have hgl := Nat.lt_of_lt_of_le hgl HF3.out.size
        clear HE5 HY HK HH HROW HOWN HCELLS HC2 HN3
        have HNLB : Hid (out.length ≤ out.length) := Lib.hid (Nat.le_refl _)
        generalize hNL : out.length = NL at *
        clear hNL HNLB
        have HRS := Lib.hid hrow
        obtain ⟨⟨s1, v1⟩, A2, s2, v2⟩ := row_cuts2 (P := Try.prog) Try.underlying42 (by kernel_rfl) hown k (by omega)
        have s2 := s2 (k : Int) rfl
        rw [← ecells_take] at v1
        rw [← ecells_drop] at v2
        have V1 := Lib.hid v1
        have V2 := Lib.hid v2
        have L1 : Hid ((ecells (es.take k)).length = k * 2) := Lib.hid (by rw [ecells_length, List.length_take]; have := HN.out; omega)
        have L2 : Hid ((ecells (es.drop k)).length = (n - k) * 2) := Lib.hid (by rw [ecells_length, List.length_drop]; have := HN.out; omega)
        have E1 : Hid (∀ u ∈ ecells (es.take k), u.oneCell' = true) := Lib.hid (ecells_one _ (fun e he => HONE.out e (List.mem_of_mem_take he)))
        have E2 : Hid (∀ u ∈ ecells (es.drop k), u.oneCell' = true) := Lib.hid (ecells_one _ (fun e he => HONE.out e (List.mem_of_mem_drop he)))
        have E3 : Hid (∀ u ∈ [Value.string nm, .slice NA NL NC], u.oneCell' = true) := Lib.hid (by intro u hu; simp at hu; rcases hu with rfl | rfl <;> rfl)
        have hgl := World.block_lt_of_cell? w3 _ c2
        have HS1 := Lib.hid s1
        have HS2 := Lib.hid s2
        clear v1 v2 hrow hown s1 s2
        go_wp2
        go_loopg [11] n (fun kx vi wr => w3 = wr ∧ ∃ i : Nat, vi = .int .i64 (i : Int) ∧ i ≤ k ∧ n - i ≤ kx)
        case atStart => exact ⟨rfl, 0, rfl, Nat.zero_le _, by omega⟩
        case round =>
          obtain ⟨rfl, i, rfl, hi, hkx⟩ := hrel
          by_cases hlt : i < n
          · obtain ⟨e, he⟩ := HG.out i hlt
            obtain ⟨b, rfl, k0⟩ := HCL.out i e he
            have i1 : (i : Int) < (n : Int) := by omega
            have i2 : 0 ≤ (i : Int) := by omega
            by_cases hik : i < k
            · have hq : Op.bytesLess e.1.toList nm.toList = true := by rw [Ord.lt_raw]; exact HLT.out i e hik he
              clear he
              go_wp2
              go_roundg (n - (i + 1))
              case measure => omega
              case rel => exact ⟨rfl, i + 1, by simp, by omega, by omega⟩
            · obtain rfl : i = k := by omega
              have hq : Op.bytesLess e.1.toList nm.toList = false := by rw [Ord.lt_raw]; exact HGE.out e he
              clear he hik
              go_wp2_with fail
              refine r16 (g := g) (V := .slice (some ⟨b, 0, none⟩) n C) (S1 := .slice (some ⟨b, 0, none⟩) i C) (S2 := .slice A2 (n - i) (C - i)) (nm := nm) (now := .slice NA NL NC) (k := i) (n := n) (X1 := ecells (es.take i)) (X2 := ecells (es.drop i)) ⟨rfl, rfl, rfl, rfl, rfl, HS1.out, HS2.out, V1.out, V2.out, L1.out, L2.out, E1.out, E2.out, ⟨_, _, _, rfl⟩, rfl, hgl, c2, HRS.out, by omega, by omega⟩ ?_
              intro vals w8 hf8 ho8
              obtain ⟨A8, C8, hv8, _⟩ := owns_form ho8
              rw [hv8] at ho8 ⊢
              have HE := Lib.hid (HINS.out w8 A8 C8 hf8 ho8)
              clear hf8 ho8 HS1 HS2 V1 V2 HINS hv8
              rw [ds16]
              simp only [frm, List.mapIdx_toArray, List.mapIdx_cons, List.mapIdx_nil, Nat.zero_add, Nat.reduceAdd, List.contains_cons, List.contains_nil, Nat.reduceBEq, Bool.or_false, Bool.false_or, Bool.or_true, Bool.true_or, Bool.or_self, Bool.false_eq_true, if_true, if_false]
              go_wp2
              go_ret
              exact HE.out
          · obtain rfl : i = k := by omega
            have i1 : ¬ (i : Int) < (n : Int) := by omega
            go_wp2_with fail
            refine r16 (g := g) (V := .slice A n C) (S1 := .slice A i C) (S2 := .slice A2 (n - i) (C - i)) (nm := nm) (now := .slice NA NL NC) (k := i) (n := n) (X1 := ecells (es.take i)) (X2 := ecells (es.drop i)) ⟨rfl, rfl, rfl, rfl, rfl, HS1.out, HS2.out, V1.out, V2.out, L1.out, L2.out, E1.out, E2.out, ⟨_, _, _, rfl⟩, rfl, hgl, c2, HRS.out, by omega, by omega⟩ ?_
            intro vals w8 hf8 ho8
            obtain ⟨A8, C8, hv8, _⟩ := owns_form ho8
            rw [hv8] at ho8 ⊢
            have HE := Lib.hid (HINS.out w8 A8 C8 hf8 ho8)
            clear hf8 ho8 HS1 HS2 V1 V2 HINS hv8
            rw [ds16]
            simp only [frm, List.mapIdx_toArray, List.mapIdx_cons, List.mapIdx_nil, Nat.zero_add, Nat.reduceAdd, List.contains_cons, List.contains_nil, Nat.reduceBEq, Bool.or_false, Bool.false_or, Bool.or_true, Bool.true_or, Bool.or_self, Bool.false_eq_true, if_true, if_false]
            go_wp2
            go_ret
            exact HE.out
      · have HE := Lib.hid (HE5.out w3 HF3.out hz)
        clear HE5 HY HK HH HROW HOWN HCELLS HC2 HG HLT HGE HONE HN3
        generalize out.length = ol at *
        go_wp2
        go_ret
        exact HE.out
end Go.Proofs.Ytbbmjkligiglmaa.Store
