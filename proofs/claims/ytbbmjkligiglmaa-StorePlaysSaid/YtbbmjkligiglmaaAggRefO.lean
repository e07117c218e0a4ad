/-
  The reference's Of.
-/
import Derived.Test.YtbbmjkligiglmaaAggRefE
import Derived.Test.YtbbmjkligiglmaaSerRef
namespace Go.Proofs.Ytbbmjkligiglmaa.Agg
open Go.RowKit Base _root_.Go.Proofs.Ytbbmjkligiglmaa.Tenant _root_.Go.Proofs.Ytbbmjkligiglmaa.Series _root_.Go.Proofs.Ytbbmjkligiglmaa.Pack

theorem Bx.fr {S : Nat → Prop} {t : TypeId} {W W' : World} {g : Nat} {q : Ag} (h : Bx t W g q) (hf : Fr S W W') (hg : ¬ S g) : Bx t W' g q := ⟨hf.heap h.heap hg⟩
def ivals (l : List Int) : List Value := l.map fun x => .int .i64 x
theorem ivals_length (l : List Int) : (ivals l).length = l.length := List.length_map _
theorem ints_own' {w : World} {base : Nat} {e : TypeId} {v : Value} {n : Nat} {l : List Int} (h : w.ownsRow base e 1 v n (ivals l)) (hn : n = l.length) : IntsIs w v l := by
  subst hn
  have hl := ivals_length l
  rcases h.2 with ⟨rfl, h0⟩ | ⟨b, cap, cur, rfl, hb, hg, hnc, hcm, hcs, ht⟩
  · obtain rfl : l = [] := List.eq_nil_of_length_eq_zero h0
    exact IntsIs.nil w
  · refine ⟨_, cap, b, 0, rfl, hnc, fun _ => rfl, fun j hj => ?_⟩
    rw [Nat.zero_add, h.cellAt j (by omega)]
    unfold ivals
    rw [List.getElem?_map, List.getD_eq_getElem?_getD, List.getElem?_eq_getElem hj]
    rfl
theorem int_lit (w : World) (x : Int) (t : TypeId) : ValsIs (w.alloc (.cells #[.int .i64 x] t)) (.slice (some ⟨w.heap.size, 0, none⟩) 1 1) 1 [.int .i64 x] := by
  refine ⟨_, 1, w.heap.size, 0, rfl, Nat.le_refl _, fun _ => rfl, fun j hj => ?_⟩
  rw [cell_of_row _ _ _ _ _ _ (heap_alloc_new w _)]
  match j, hj with
  | 0, _ => rfl
theorem infoI : (Try.prog.info? 2).map (fun i => (i.zero, i.size, i.bytes)) = some (some (.int .i64 0), 1, 8) := by kernel_rfl
theorem infoA : (Try.prog.info? 47).map (·.size) = some 6 := by kernel_rfl
theorem vs_next (l : List Sm) (i : Nat) (hi : i < l.length) : vsOf (l.take (i + 1)) = vsOf (l.take i) ++ [(l.getD i (0, 0)).2] := by
  rw [List.take_add_one, List.getD_eq_getElem?_getD, List.getElem?_eq_getElem hi, vs_app]
  rfl
theorem ivals_app (l m : List Int) : ivals (l ++ m) = ivals l ++ ivals m := List.map_append
theorem two_boxes (t : TypeId) (w : World) (N : Int) : Bx t ((w.alloc (.cells #[.int .i64 0, .int .i64 0, .int .i64 0, .int .i64 0, .int .i64 0, .bool false] t)).alloc (.cells #[.int .i64 N, .int .i64 0, .int .i64 0, .int .i64 0, .int .i64 0, .bool false] t)) w.heap.size zeroA ∧ Bx t ((w.alloc (.cells #[.int .i64 0, .int .i64 0, .int .i64 0, .int .i64 0, .int .i64 0, .bool false] t)).alloc (.cells #[.int .i64 N, .int .i64 0, .int .i64 0, .int .i64 0, .int .i64 0, .bool false] t)) (w.heap.size + 1) ⟨N, 0, 0, 0, 0, false⟩ ∧ Fr0 w ((w.alloc (.cells #[.int .i64 0, .int .i64 0, .int .i64 0, .int .i64 0, .int .i64 0, .bool false] t)).alloc (.cells #[.int .i64 N, .int .i64 0, .int .i64 0, .int .i64 0, .int .i64 0, .bool false] t)) ∧ ((w.alloc (.cells #[.int .i64 0, .int .i64 0, .int .i64 0, .int .i64 0, .int .i64 0, .bool false] t)).alloc (.cells #[.int .i64 N, .int .i64 0, .int .i64 0, .int .i64 0, .int .i64 0, .bool false] t)).heap.size = w.heap.size + 2 := by
  refine ⟨(Bx.new t w zeroA).fr0 ((Fr.refl _ _).alloc _), ?_, ((Fr.refl _ _).alloc _).alloc _, by simp⟩
  have h := Bx.new t (w.alloc (.cells #[.int .i64 0, .int .i64 0, .int .i64 0, .int .i64 0, .int .i64 0, .bool false] t)) ⟨N, 0, 0, 0, 0, false⟩
  rw [World.size_alloc] at h
  exact h
set_option maxRecDepth 100000 in
set_option maxHeartbeats 8000000 in
theorem rof_any (v : Value) (l : List Sm) (hl : l.length ≤ 1000000) (hs : SizedS l) (w : World) (hP : PairsIs w v l) :
    Calls Try.prog 31 #[v] w fun e w' => e = .returned (.agg (a6 (agOf l))) ∧ Fr0 w w' := by
  obtain ⟨A, C, rfl⟩ := pairs_form hP
  have HP := Lib.hid hP
  have HEND : Hid (∀ i, l.length ≤ i → vsOf (l.take i) = vsOf l) := Lib.hid (fun i h => by rw [List.take_of_length_le h])
  have HVN := Lib.hid (vs_next l)
  have H0 : Hid (vsOf (l.take 0) = []) := Lib.hid rfl
  have HLEN : Hid (∀ i, i ≤ l.length → (vsOf (l.take i)).length = i) := Lib.hid (fun i h => by rw [vs_length, List.length_take]; omega)
  have hfv : ∀ x ∈ vsOf l, Fit x := fun x hx => by
    obtain ⟨p, hp, rfl⟩ := List.mem_map.1 hx
    exact (hs p hp).2
  have HEX := Lib.hid (fun v w hI => rexact_any v (vsOf l) (by rw [vs_length]; exact hl) hfv w hI)
  have HOF : Hid (∀ ft t, fits (tot (vsOf l)) = ft → (if fits (tot (vsOf l)) = true then tot (vsOf l) else 0) = t → agOf l = ⟨(l.length : Int), t, least (vsOf l), great (vsOf l), lastV (vsOf l), !ft⟩) := Lib.hid (fun ft t h1 h2 => by
    unfold agOf ofV
    rw [h2, h1, vs_length])
  clear hP hs hfv
  generalize agOf l = ao at *
  generalize hN : l.length = N at *
  have HN := Lib.hid hN
  clear hN
  have hfr := two_boxes 47 w (N : Int)
  rw [show a6 ao = #[.int .i64 ao.c, .int .i64 ao.s, .int .i64 ao.n, .int .i64 ao.x, .int .i64 ao.l, .bool ao.o] from rfl]
  obtain ⟨W1, hW1⟩ : ∃ W1, W1 = (w.alloc (.cells #[.int .i64 0, .int .i64 0, .int .i64 0, .int .i64 0, .int .i64 0, .bool false] 47)).alloc (.cells #[.int .i64 N, .int .i64 0, .int .i64 0, .int .i64 0, .int .i64 0, .bool false] 47) := ⟨_, rfl⟩
  have HW1 := Lib.hid hW1
  rw [← hW1] at hfr
  obtain ⟨hb0, hb1, hf1, hsz⟩ := hfr
  have HB0 := Lib.hid hb0
  have HB1 := Lib.hid hb1
  have HF1 := Lib.hid hf1
  have HSZ := Lib.hid hsz
  clear hb0 hb1 hf1 hW1 hsz
  go_enter Try.func31, Try.ntmps31
  go_wp2_with fail
  rw [← HW1.out]
  clear HW1
  generalize hg : w.heap.size = g at *
  have HGE := Lib.hid hg
  clear hg
  go_loopg [4, 5] N (fun kx vr vi wr => ∃ (i : Nat) (Ab : Option Addr) (Cb : Nat) (V : List Int) (n x la : Int), vi = .int .i64 (i : Int) ∧ vr = .slice Ab i Cb ∧ i ≤ N ∧ N - i ≤ kx ∧ Hid (vsOf (l.take i) = V) ∧ Hid (n = least V ∧ x = great V ∧ la = lastV V) ∧ Hid (wr.ownsRow (g + 2) 2 1 (.slice Ab i Cb) i (ivals V)) ∧ Hid (Bx 47 wr (g + 1) ⟨(N : Int), 0, n, x, la, false⟩) ∧ Hid (Bx 47 wr g zeroA) ∧ Hid (Fr0 w wr) ∧ Hid (g + 2 ≤ wr.heap.size))
  case atStart => exact ⟨0, none, 0, [], 0, 0, 0, rfl, rfl, Nat.zero_le _, by omega, H0, Lib.hid ⟨rfl, rfl, rfl⟩, Lib.hid (World.ownsRow_nil _ _ _ _), HB1, HB0, HF1, Lib.hid (by rw [HSZ.out]; exact Nat.le_refl _)⟩
  case round =>
    clear HB0 HB1 HF1 HSZ
    obtain ⟨i, Ab, Cb, V, n, x, la, rfl, rfl, hi, hk, HV, HM, HO, HB, HZ, HF, HW⟩ := hrel
    by_cases hlt : i < N
    · obtain ⟨pb, po, rfl, hc⟩ := pairs_at HP.out i (by have := HN.out; omega)
      have d1 := (hc wr HF.out).2
      have i1 : (i : Int) < (N : Int) := by omega
      have i2 : 0 ≤ (i : Int) := by omega
      have hvn := HVN.out i (by have := HN.out; omega)
      rw [HV.out] at hvn
      have hvl := HLEN.out i (by have := HN.out; omega)
      rw [HV.out] at hvl
      have HIB : Hid (i ≤ 1000000) := Lib.hid (by omega)
      clear hc
      generalize (l.getD i (0, 0)).2 = y at *
      have HVY := Lib.hid hvn
      have HLN0 := least_next V y
      have HGN0 := great_next V y
      rw [hvl, ← HM.out.1] at HLN0
      rw [hvl, ← HM.out.2.1] at HGN0
      have HLN := Lib.hid HLN0
      have HGN := Lib.hid HGN0
      have HLA := Lib.hid (last_next V y)
      have HIV := Lib.hid (ivals_app V [y])
      clear hvn hvl HV HLN0 HGN0
      have HFL := Lib.hid ((Fr.refl (fun _ => False) wr).alloc (.cells #[.int .i64 y] 2))
      have HOL := Lib.hid (ownsFr HFL.out HO.out (fun _ _ f => f))
      have HPL := Lib.hid (int_lit wr y 2)
      have HWS := Lib.hid (Nat.le_trans HW.out HFL.out.size)
      have HBL := Lib.hid (HB.out.fr0 HFL.out)
      have HZL := Lib.hid (HZ.out.fr0 HFL.out)
      have HFW := Lib.hid (HF.out.trans' HFL.out)
      clear HO HB HZ HF HW HFL
      go_upto_if 1 with (refine wpList_append_valsM rfl (.tmp 23) (.tmp 25) 98 rfl (g + 2) 2 Try.underlying98 (.int .i64 0) 1 8 infoI rfl (by decide) _ _ i 1 (ivals V) [.int .i64 y] rfl rfl HOL.out HPL.out (by rfl) (by intro u hu; simp at hu; rw [hu]; rfl) (by have := HIB.out; unfold maxLen; omega) (by have := HIB.out; omega) (by exact HWS.out) ?_)
      intro v1 w2 hO1 hG1 _
      obtain ⟨A1, C1, hv1, _⟩ := owns_form hO1
      subst hv1
      have hfr2 : Fr (fun j => (Value.slice Ab i Cb).ownBlock = some j) (wr.alloc (.cells #[.int .i64 y] 2)) w2 := Fr.of_grown hG1 (fun k hk e => e)
      have HO2 : Hid (w2.ownsRow (g + 2) 2 1 (.slice A1 (i + 1) C1) (i + 1) (ivals (V ++ [y]))) := Lib.hid (by rw [HIV.out]; exact hO1)
      have HB2 := Lib.hid (HBL.out.fr hfr2 (fun e => by have := (HOL.out.lt _ e).1; omega))
      have HZ2 := Lib.hid (HZL.out.fr hfr2 (fun e => by have := (HOL.out.lt _ e).1; omega))
      have HF2 : Hid (Fr0 w w2) := Lib.hid (HFW.out.trans hfr2 (fun j hj e => by have := (HOL.out.lt j e).1; have := HGE.out; omega))
      have HW2 := Lib.hid (Nat.le_trans HWS.out hfr2.size)
      clear hO1 hG1 hfr2 HOL HPL HWS HBL HZL HFW HIV
      obtain ⟨_, _, k2, k3, _, _⟩ := HB2.out.cells
      have t2 := HB2.out.thaw 2
      have t3 := HB2.out.thaw 3
      have t4 := HB2.out.thaw 4
      by_cases h0 : i = 0
      · have b0 : ((i : Int) == 0) = true := by rw [h0]; rfl
        have HI0 := Lib.hid h0
        clear h0
        have HB3 := Lib.hid (((HB2.out.set 2 (.int .i64 y) ⟨(N : Int), 0, y, x, la, false⟩ (fun j hj => by
                match j, hj with
                | 0, _ => rfl
                | 1, _ => rfl
                | 2, _ => rfl
                | 3, _ => rfl
                | 4, _ => rfl
                | 5, _ => rfl)).set 3 (.int .i64 y) ⟨(N : Int), 0, y, y, la, false⟩ (fun j hj => by
                match j, hj with
                | 0, _ => rfl
                | 1, _ => rfl
                | 2, _ => rfl
                | 3, _ => rfl
                | 4, _ => rfl
                | 5, _ => rfl)).set 4 (.int .i64 y) ⟨(N : Int), 0, y, y, y, false⟩ (fun j hj => by
                match j, hj with
                | 0, _ => rfl
                | 1, _ => rfl
                | 2, _ => rfl
                | 3, _ => rfl
                | 4, _ => rfl
                | 5, _ => rfl))
        have HZ3 := Lib.hid (((HZ2.out.otherCell (b := g + 1) (by omega) 2 (.int .i64 y)).otherCell (b := g + 1) (by omega) 3 (.int .i64 y)).otherCell (b := g + 1) (by omega) 4 (.int .i64 y))
        have HS3 := Lib.hid (Fr.setCell (Fr.setCell (Fr.setCell (Fr.refl (fun k => k = g + 1) w2) (p := ⟨g + 1, 2, none⟩) (fun _ => rfl) (.int .i64 y)) (p := ⟨g + 1, 3, none⟩) (fun _ => rfl) (.int .i64 y)) (p := ⟨g + 1, 4, none⟩) (fun _ => rfl) (.int .i64 y))
        have HO3 := Lib.hid (ownsFr HS3.out HO2.out (fun j e h => by have := (HO2.out.lt j e).1; omega))
        have HF3 : Hid (Fr0 w _) := Lib.hid (HF2.out.trans HS3.out (fun j hj e => by have := HGE.out; omega))
        have HW3 := Lib.hid (Nat.le_trans HW2.out HS3.out.size)
        go_wp2
        go_roundg (N - (i + 1))
        case measure => omega
        case rel => exact ⟨i + 1, A1, C1, V ++ [y], y, y, y, by simp, rfl, by omega, by omega, HVY, Lib.hid ⟨by rw [HLN.out, if_pos HI0.out], by rw [HGN.out, if_pos HI0.out], HLA.out.symm⟩, HO3, HB3, HZ3, HF3, HW3⟩
      · have b0 : ((i : Int) == 0) = false := beq_eq_false_iff_ne.2 (by omega)
        have HI0 := Lib.hid h0
        clear h0
        by_cases hn : y < n
        · by_cases hx : x < y
          · skip
            have HB3 := Lib.hid (((HB2.out.set 2 (.int .i64 y) ⟨(N : Int), 0, y, x, la, false⟩ (fun j hj => by
                match j, hj with
                | 0, _ => rfl
                | 1, _ => rfl
                | 2, _ => rfl
                | 3, _ => rfl
                | 4, _ => rfl
                | 5, _ => rfl)).set 3 (.int .i64 y) ⟨(N : Int), 0, y, y, la, false⟩ (fun j hj => by
                match j, hj with
                | 0, _ => rfl
                | 1, _ => rfl
                | 2, _ => rfl
                | 3, _ => rfl
                | 4, _ => rfl
                | 5, _ => rfl)).set 4 (.int .i64 y) ⟨(N : Int), 0, y, y, y, false⟩ (fun j hj => by
                match j, hj with
                | 0, _ => rfl
                | 1, _ => rfl
                | 2, _ => rfl
                | 3, _ => rfl
                | 4, _ => rfl
                | 5, _ => rfl))
            have HZ3 := Lib.hid (((HZ2.out.otherCell (b := g + 1) (by omega) 2 (.int .i64 y)).otherCell (b := g + 1) (by omega) 3 (.int .i64 y)).otherCell (b := g + 1) (by omega) 4 (.int .i64 y))
            have HS3 := Lib.hid (Fr.setCell (Fr.setCell (Fr.setCell (Fr.refl (fun k => k = g + 1) w2) (p := ⟨g + 1, 2, none⟩) (fun _ => rfl) (.int .i64 y)) (p := ⟨g + 1, 3, none⟩) (fun _ => rfl) (.int .i64 y)) (p := ⟨g + 1, 4, none⟩) (fun _ => rfl) (.int .i64 y))
            have HO3 := Lib.hid (ownsFr HS3.out HO2.out (fun j e h => by have := (HO2.out.lt j e).1; omega))
            have HF3 : Hid (Fr0 w _) := Lib.hid (HF2.out.trans HS3.out (fun j hj e => by have := HGE.out; omega))
            have HW3 := Lib.hid (Nat.le_trans HW2.out HS3.out.size)
            go_wp2
            go_roundg (N - (i + 1))
            case measure => omega
            case rel => exact ⟨i + 1, A1, C1, V ++ [y], y, y, y, by simp, rfl, by omega, by omega, HVY, Lib.hid ⟨by rw [HLN.out, if_neg HI0.out, if_pos hn], by rw [HGN.out, if_neg HI0.out, if_pos hx], HLA.out.symm⟩, HO3, HB3, HZ3, HF3, HW3⟩
          · skip
            have HB3 := Lib.hid ((HB2.out.set 2 (.int .i64 y) ⟨(N : Int), 0, y, x, la, false⟩ (fun j hj => by
                match j, hj with
                | 0, _ => rfl
                | 1, _ => rfl
                | 2, _ => rfl
                | 3, _ => rfl
                | 4, _ => rfl
                | 5, _ => rfl)).set 4 (.int .i64 y) ⟨(N : Int), 0, y, x, y, false⟩ (fun j hj => by
                match j, hj with
                | 0, _ => rfl
                | 1, _ => rfl
                | 2, _ => rfl
                | 3, _ => rfl
                | 4, _ => rfl
                | 5, _ => rfl))
            have HZ3 := Lib.hid ((HZ2.out.otherCell (b := g + 1) (by omega) 2 (.int .i64 y)).otherCell (b := g + 1) (by omega) 4 (.int .i64 y))
            have HS3 := Lib.hid (Fr.setCell (Fr.setCell (Fr.refl (fun k => k = g + 1) w2) (p := ⟨g + 1, 2, none⟩) (fun _ => rfl) (.int .i64 y)) (p := ⟨g + 1, 4, none⟩) (fun _ => rfl) (.int .i64 y))
            have HO3 := Lib.hid (ownsFr HS3.out HO2.out (fun j e h => by have := (HO2.out.lt j e).1; omega))
            have HF3 : Hid (Fr0 w _) := Lib.hid (HF2.out.trans HS3.out (fun j hj e => by have := HGE.out; omega))
            have HW3 := Lib.hid (Nat.le_trans HW2.out HS3.out.size)
            go_wp2
            go_roundg (N - (i + 1))
            case measure => omega
            case rel => exact ⟨i + 1, A1, C1, V ++ [y], y, x, y, by simp, rfl, by omega, by omega, HVY, Lib.hid ⟨by rw [HLN.out, if_neg HI0.out, if_pos hn], by rw [HGN.out, if_neg HI0.out, if_neg (Int.not_lt.2 hx)], HLA.out.symm⟩, HO3, HB3, HZ3, HF3, HW3⟩
        · by_cases hx : x < y
          · skip
            have HB3 := Lib.hid ((HB2.out.set 3 (.int .i64 y) ⟨(N : Int), 0, n, y, la, false⟩ (fun j hj => by
                match j, hj with
                | 0, _ => rfl
                | 1, _ => rfl
                | 2, _ => rfl
                | 3, _ => rfl
                | 4, _ => rfl
                | 5, _ => rfl)).set 4 (.int .i64 y) ⟨(N : Int), 0, n, y, y, false⟩ (fun j hj => by
                match j, hj with
                | 0, _ => rfl
                | 1, _ => rfl
                | 2, _ => rfl
                | 3, _ => rfl
                | 4, _ => rfl
                | 5, _ => rfl))
            have HZ3 := Lib.hid ((HZ2.out.otherCell (b := g + 1) (by omega) 3 (.int .i64 y)).otherCell (b := g + 1) (by omega) 4 (.int .i64 y))
            have HS3 := Lib.hid (Fr.setCell (Fr.setCell (Fr.refl (fun k => k = g + 1) w2) (p := ⟨g + 1, 3, none⟩) (fun _ => rfl) (.int .i64 y)) (p := ⟨g + 1, 4, none⟩) (fun _ => rfl) (.int .i64 y))
            have HO3 := Lib.hid (ownsFr HS3.out HO2.out (fun j e h => by have := (HO2.out.lt j e).1; omega))
            have HF3 : Hid (Fr0 w _) := Lib.hid (HF2.out.trans HS3.out (fun j hj e => by have := HGE.out; omega))
            have HW3 := Lib.hid (Nat.le_trans HW2.out HS3.out.size)
            go_wp2
            go_roundg (N - (i + 1))
            case measure => omega
            case rel => exact ⟨i + 1, A1, C1, V ++ [y], n, y, y, by simp, rfl, by omega, by omega, HVY, Lib.hid ⟨by rw [HLN.out, if_neg HI0.out, if_neg (Int.not_lt.2 hn)], by rw [HGN.out, if_neg HI0.out, if_pos hx], HLA.out.symm⟩, HO3, HB3, HZ3, HF3, HW3⟩
          · skip
            have HB3 := Lib.hid (HB2.out.set 4 (.int .i64 y) ⟨(N : Int), 0, n, x, y, false⟩ (fun j hj => by
                match j, hj with
                | 0, _ => rfl
                | 1, _ => rfl
                | 2, _ => rfl
                | 3, _ => rfl
                | 4, _ => rfl
                | 5, _ => rfl))
            have HZ3 := Lib.hid (HZ2.out.otherCell (b := g + 1) (by omega) 4 (.int .i64 y))
            have HS3 := Lib.hid (Fr.setCell (Fr.refl (fun k => k = g + 1) w2) (p := ⟨g + 1, 4, none⟩) (fun _ => rfl) (.int .i64 y))
            have HO3 := Lib.hid (ownsFr HS3.out HO2.out (fun j e h => by have := (HO2.out.lt j e).1; omega))
            have HF3 : Hid (Fr0 w _) := Lib.hid (HF2.out.trans HS3.out (fun j hj e => by have := HGE.out; omega))
            have HW3 := Lib.hid (Nat.le_trans HW2.out HS3.out.size)
            go_wp2
            go_roundg (N - (i + 1))
            case measure => omega
            case rel => exact ⟨i + 1, A1, C1, V ++ [y], n, x, y, by simp, rfl, by omega, by omega, HVY, Lib.hid ⟨by rw [HLN.out, if_neg HI0.out, if_neg (Int.not_lt.2 hn)], by rw [HGN.out, if_neg HI0.out, if_neg (Int.not_lt.2 hx)], HLA.out.symm⟩, HO3, HB3, HZ3, HF3, HW3⟩
    · obtain rfl : i = N := by omega
      have hve := HEND.out i (Nat.le_refl _)
      rw [HV.out] at hve
      have HVE := Lib.hid hve
      have HII := Lib.hid (ints_own' HO.out (by have := HLEN.out i (Nat.le_refl _); rw [HV.out] at this; exact this.symm))
      rw [hve] at HII
      clear hve HO HEND HVN HLEN H0
      have hex := HEX.out _ wr HII.out
      have HOF2 := Lib.hid (HOF.out _ _ rfl rfl)
      rw [← HVE.out, ← HM.out.1, ← HM.out.2.1, ← HM.out.2.2] at HOF2
      rw [← HVE.out] at hex
      clear HEX HOF HM HII HVE
      generalize (if fits (tot V) = true then tot V else 0) = s at *
      generalize fits (tot V) = ft at *
      go_wp2_with fail
      refine hex.mono ?_
      clear hex
      rintro e w2 ⟨rfl, hF2⟩
      have HF2 := Lib.hid (HF.out.trans' hF2)
      have HB2 := Lib.hid (HB.out.fr0 hF2)
      have HZ2 := Lib.hid (HZ.out.fr0 hF2)
      clear hF2 HB HZ HF
      have t1 := HB2.out.thaw 1
      have t5 := HB2.out.thaw 5
      obtain ⟨k0, k1, k2, k3, k4, k5⟩ := HB2.out.cells
      have HB3 := Lib.hid ((HB2.out.set 1 (.int .i64 s) ⟨(i : Int), s, n, x, la, false⟩ (fun j hj => by
                match j, hj with
                | 0, _ => rfl
                | 1, _ => rfl
                | 2, _ => rfl
                | 3, _ => rfl
                | 4, _ => rfl
                | 5, _ => rfl)).set 5 (.bool (!ft)) ⟨(i : Int), s, n, x, la, !ft⟩ (fun j hj => by
                match j, hj with
                | 0, _ => rfl
                | 1, _ => rfl
                | 2, _ => rfl
                | 3, _ => rfl
                | 4, _ => rfl
                | 5, _ => rfl))
      have HZ3 := Lib.hid ((HZ2.out.otherCell (b := g + 1) (by omega) 1 (.int .i64 s)).otherCell (b := g + 1) (by omega) 5 (.bool (!ft)))
      have HF3 : Hid (Fr0 w ((w2.setCell ⟨g + 1, 1, none⟩ (.int .i64 s)).setCell ⟨g + 1, 5, none⟩ (.bool (!ft)))) := Lib.hid (Fr.setCell (Fr.setCell HF2.out (p := ⟨g + 1, 1, none⟩) (fun h => by have := HGE.out; have h' : g + 1 < w.heap.size := h; omega) _) (p := ⟨g + 1, 5, none⟩) (fun h => by have := HGE.out; have h' : g + 1 < w.heap.size := h; omega) _)
      have HR := Lib.hid (HZ3.out.setRow ⟨(i : Int), s, n, x, la, !ft⟩)
      have HRF := Lib.hid (Fr.setRow (g := g) HF3.out (fun h => by have := HGE.out; omega) #[.int .i64 (i : Int), .int .i64 s, .int .i64 n, .int .i64 x, .int .i64 la, .bool (!ft)])
      go_wp2_with ((with_reducible change wpList _ _ _ (⟨_, Op.store 47 _ _, _, _, _, _⟩ :: _) _ _); refine wpList_store_row rfl 47 _ _ rfl g #[.int .i64 (i : Int), .int .i64 s, .int .i64 n, .int .i64 x, .int .i64 la, .bool (!ft)] rfl rfl 47 _ HZ3.out.heap infoA rfl (a6_one ⟨(i : Int), s, n, x, la, !ft⟩) ?_)
      exact bodyPost_ret (res1 rfl Try.underlying47 rfl infoA _ rfl HR.out) rfl ⟨by rw [HOF2.out]; rfl, HRF.out⟩
end Go.Proofs.Ytbbmjkligiglmaa.Agg
