/-
  The walk of the reference's Drop.
-/
import Derived.Test.YtkdpdbjefehmpaaHoldRefPut
import Derived.Test.YtkdpdbjefehmpaaBlkRefGive
namespace Go.Proofs.Ytkdpdbjefehmpaa.Hold
open Go.RowKit Base Go.Maps Arena
open Blocks (BlkR whole whole_le frees nints nvals tout took terr give gave gerr)

section
variable {P : Program}
theorem cut_hi3 (t e : TypeId) (ht : P.underlying t = some (.slice e)) (hs : (P.info? e).map (·.size) = some 3) (a : Option Addr) (n cap hi : Nat) (h2 : hi ≤ cap) (wx : World) :
    (Instr.sliceAt t (.slice a n cap) none (some (.int .i64 (hi : Int))) none).run P wx = .ok (.slice a hi cap) wx := by
  obtain ⟨i, hi', hz⟩ : ∃ i, P.info? e = some i ∧ i.size = 3 := by
    cases hq : P.info? e with
    | none => simp [hq] at hs
    | some i => exact ⟨i, rfl, by simpa [hq] using hs⟩
  have hE : P.elem t = e := by simp [Program.elem, ht]
  rw [run_sliceAt_slice wx t _ _ _ _ (by rw [hE]; exact ht), run_slice_h wx t a n cap (by rw [hE]; exact ht) .i64 (hi : Int) (by omega) (by omega), hE]
  simp [sizeOf, typeInfo, hi', hz, sliced, Sem.run_bind]
  intro _
  cases a with
  | none => rfl
  | some x => simp [Addr.add]
theorem cut_lo3 (t e : TypeId) (ht : P.underlying t = some (.slice e)) (hs : (P.info? e).map (·.size) = some 3) (a : Option Addr) (n cap lo : Nat) (l : Int) (hl : l = (lo : Int)) (h1 : lo ≤ n) (h2 : n ≤ cap) (wx : World) :
    (Instr.sliceAt t (.slice a n cap) (some (.int .i64 l)) none none).run P wx = .ok (.slice (if cap = lo then a else a.map (·.add (lo * 3))) (n - lo) (cap - lo)) wx := by
  subst hl
  obtain ⟨i, hi', hz⟩ : ∃ i, P.info? e = some i ∧ i.size = 3 := by
    cases hq : P.info? e with
    | none => simp [hq] at hs
    | some i => exact ⟨i, rfl, by simpa [hq] using hs⟩
  have hE : P.elem t = e := by simp [Program.elem, ht]
  rw [run_sliceAt_slice wx t _ _ _ _ (by rw [hE]; exact ht), run_slice_l wx t a n cap (by rw [hE]; exact ht) .i64 (lo : Int) (by omega) (by omega), hE]
  simp [sizeOf, typeInfo, hi', hz, sliced, Sem.run_bind]
/-- both sides of a place in an own row of elements of three cells -/
theorem row_cuts {w : World} {base : Nat} {t e : TypeId} {A : Option Addr} {C n : Nat} {xs : List Value} (ht : P.underlying t = some (.slice e)) (hs : (P.info? e).map (·.size) = some 3) (h : w.ownsRow base e 3 (.slice A n C) n xs) (k : Nat) (hk : k ≤ n) :
    ((∀ wx, (Instr.sliceAt t (.slice A n C) none (some (.int .i64 (k : Int))) none).run P wx = .ok (.slice A k C) wx) ∧ ValsIs w (.slice A k C) k (xs.take (k * 3))) ∧
      (∃ A2, (∀ (l : Int), l = (k : Int) → ∀ wx, (Instr.sliceAt t (.slice A n C) (some (.int .i64 l)) none none).run P wx = .ok (.slice A2 (n - k) (C - k)) wx) ∧ ValsIs w (.slice A2 (n - k) (C - k)) (n - k) (xs.drop (k * 3))) := by
  have hl := h.1
  rcases h.2 with ⟨hv, h0⟩ | ⟨b, cap, cur, hv, _, hg, hnc, _, hcs, hcur⟩
  · cases hv
    obtain rfl : k = 0 := by omega
    obtain rfl : xs = [] := List.eq_nil_of_length_eq_zero (by omega)
    exact ⟨⟨fun wx => cut_hi3 t e ht hs none 0 0 0 (Nat.le_refl _) wx, none, 0, 0, 0, rfl, Nat.zero_le _, fun h => absurd h (Nat.lt_irrefl _), fun j hj => absurd hj (Nat.not_lt_zero _)⟩,
      ⟨_, fun l hl wx => cut_lo3 t e ht hs none 0 0 0 l hl (Nat.le_refl _) (Nat.le_refl _) wx, none, 0, 0, 0, rfl, Nat.zero_le _, fun h => absurd h (Nat.lt_irrefl _), fun j hj => absurd hj (Nat.not_lt_zero _)⟩⟩
  · cases hv
    have hget : ∀ i, i < xs.length → w.cell? ⟨b, i, none⟩ = some (xs.getD i undef) := fun i hi => by
      obtain ⟨u, hu⟩ : ∃ u, xs[i]? = some u := ⟨_, List.getElem?_eq_getElem hi⟩
      rw [cell_of_row _ _ _ _ _ _ hg, List.getD_eq_getElem?_getD, hu]
      rw [← hcur, List.getElem?_take] at hu
      split at hu
      · simpa using hu
      · cases hu
    have hmul : k * 3 ≤ n * 3 := Nat.mul_le_mul_right 3 hk
    refine ⟨⟨fun wx => cut_hi3 t e ht hs _ n C k (by omega) wx, _, C, b, 0, rfl, by omega, fun _ => rfl, fun j hj => ?_⟩, ?_⟩
    · rw [List.length_take] at hj
      rw [Nat.zero_add, hget j (by omega)]
      simp only [List.getD_eq_getElem?_getD, List.getElem?_take]
      rw [if_pos (by omega)]
    · by_cases hc : C = k
      · have hz : n - k = 0 := by omega
        refine ⟨some ⟨b, 0, none⟩, fun l hl wx => ?_, ?_⟩
        · have := cut_lo3 t e ht hs (some ⟨b, 0, none⟩) n C k l hl hk hnc wx
          rwa [if_pos hc] at this
        · refine ⟨_, C - k, b, 0, rfl, by omega, fun _ => rfl, fun j hj => ?_⟩
          rw [List.length_drop] at hj
          omega
      · refine ⟨some ⟨b, k * 3, none⟩, fun l hl wx => ?_, ?_⟩
        · have := cut_lo3 t e ht hs (some ⟨b, 0, none⟩) n C k l hl hk hnc wx
          rw [if_neg hc] at this
          rw [this]
          simp [Addr.add_mid]
        · refine ⟨_, C - k, b, k * 3, rfl, by omega, fun _ => rfl, fun j hj => ?_⟩
          rw [List.length_drop] at hj
          rw [hget (k * 3 + j) (by omega)]
          simp only [List.getD_eq_getElem?_getD, List.getElem?_drop]
end
theorem drop_split {id : Int} : ∀ {es : List Ent} {j : Nat} {d : Ent}, (ids es).Pairwise (· < ·) → es[j]? = some d → d.id = id → drop id es = es.take j ++ es.drop (j + 1)
  | [], j, d, _, h, _ => by simp at h
  | a :: es, 0, d, hr, h, hid => by
    simp at h
    subst h
    have hr' : (a.id :: ids es).Pairwise (· < ·) := hr
    obtain ⟨h1, _⟩ := List.pairwise_cons.1 hr'
    unfold drop
    rw [List.filter_cons_of_neg (by simp [hid])]
    simp only [List.take_zero, List.nil_append, List.drop_succ_cons, List.drop_zero]
    rw [List.filter_eq_self]
    intro e he
    have := h1 e.id (List.mem_map_of_mem he)
    have hne : e.id ≠ id := by omega
    simpa using hne
  | a :: es, j + 1, d, hr, h, hid => by
    have hr' : (a.id :: ids es).Pairwise (· < ·) := hr
    obtain ⟨h1, h2⟩ := List.pairwise_cons.1 hr'
    have hd : es[j]? = some d := by simpa using h
    have ih := drop_split h2 hd hid
    have := h1 d.id (List.mem_map_of_mem (List.mem_of_getElem? hd))
    have hne : a.id ≠ id := by omega
    unfold drop at ih ⊢
    rw [List.filter_cons_of_pos (by simpa using hne), ih]
    simp
theorem owns_base0 {w : World} {base : Nat} {e : TypeId} {size : Nat} {v : Value} {n : Nat} {xs : List Value} (h : w.ownsRow base e size v n xs) : w.ownsRow 0 e size v n xs := by
  refine ⟨h.1, ?_⟩
  rcases h.2 with h | ⟨g, cap, cur, hv, _, r⟩
  · exact .inl h
  · exact .inr ⟨g, cap, cur, hv, Nat.zero_le _, r⟩
set_option maxHeartbeats 2000000 in
theorem rdrop_none (Own : Nat → Prop) (k ga g xg ob : Nat) (v : Value) (O : List Bool) (p : Nat) (es : List Ent) (id : Int) (hid : -9223372036854775808 ≤ id ∧ id ≤ 9223372036854775807) (hlen : es.length ≤ 1000000) (hf : find id es = none) (w : World) (h : HoldR w Own k ga g xg ob v O p es) :
    Calls Try.prog 21 #[ptr g, .int .i64 id] w fun e w' => e = .returned (.int .i64 7) ∧ w' = w := by
  have ha := rat_any Own k ga g xg ob v O p es id hid hlen w h
  clear h
  unfold ptr at ha ⊢
  go_enter Try.func21, Try.ntmps21
  go_wp2_with fail
  refine ha.mono ?_
  rintro e w1 ⟨hz, hc⟩
  obtain rfl : w = w1 := hz.symm
  rcases hc with ⟨_, rfl⟩ | ⟨j, d, _, _, hs, _⟩
  · clear ha
    go_wp2
    go_ret
    exact ⟨rfl, rfl⟩
  · rw [hf] at hs; cases hs
def RDropPost (Own : Nat → Prop) (k ga g xg ob : Nat) (O : List Bool) (p : Nat) (es : List Ent) (id : Int) (T : List Nat) (w : World) (e : Ending) (w' : World) : Prop :=
  e = .returned (.int .i64 0) ∧ ∃ v', HoldR w' (Grow Own w) k ga g xg ob v' (gave O (nints T)) p (drop id es) ∧ Fr Own w w'
set_option maxRecDepth 100000 in
set_option maxHeartbeats 8000000 in
theorem rdrop_some (Own : Nat → Prop) (k ga g xg ob : Nat) (v : Value) (O : List Bool) (p : Nat) (es : List Ent) (id : Int) (hid : -9223372036854775808 ≤ id ∧ id ≤ 9223372036854775807) (hlen : es.length ≤ 1000000) (d : Ent) (hf : find id es = some d) (hTl : d.T.length ≤ 2048) (hTb : ∀ i ∈ d.T, i ≤ 2048) (w : World)
    (h : HoldR w Own k ga g xg ob v O p es) :
    Calls Try.prog 21 #[ptr g, .int .i64 id] w (RDropPost Own k ga g xg ob O p es id d.T w) := by
  have ha := rat_any Own k ga g xg ob v O p es id hid hlen w h
  have HH := Lib.hid h
  have hgl := h.g_lt
  have c2 := h.c2
  have c3 := h.c3
  obtain ⟨A, C, kb, rfl, hC, hA, hc⟩ := h.form
  have HA := Lib.hid hA
  have HC := Lib.hid hc
  clear h hA hc
  unfold ptr at ha ⊢
  go_enter Try.func21, Try.ntmps21
  go_wp2_with fail
  refine ha.mono ?_
  rintro e w1 ⟨hz, hcc⟩
  obtain rfl : w = w1 := hz.symm
  clear hz ha
  rcases hcc with ⟨hs, _⟩ | ⟨j, d', hd, hdid, hs, rfl⟩
  · rw [hf] at hs; cases hs
  · rw [hf] at hs
    cases hs
    have hlt := (List.getElem?_eq_some_iff.1 hd).1
    obtain ⟨_, _, d2⟩ := HC.out j d hd
    obtain rfl := HA.out (by omega)
    obtain ⟨HI, HIL⟩ := (HH.out.lies d (List.mem_of_getElem? hd)).1
    have HI := Lib.hid HI
    have HIL := Lib.hid HIL
    have HDS := Lib.hid (drop_split HH.out.rise hd hdid)
    have HTB := Lib.hid hTb
    unfold Ent.cuts at d2
    have i1 : (j : Int) < (es.length : Int) := by omega
    have i2 : 0 ≤ (j : Int) := by omega
    have i3 : ¬ (j : Int) < 0 := by omega
    clear hf hd hTb hdid
    go_wp2
    refine Mix.law (fun _ => True) [(.sure, 0), (.sure, 1), (.sure, 2), (.look, 3), (.sure, 4), (.sure, 5), (.sure, 6), (.look, 7), (.sure, 8), (.sure, 9), (.sure, 10), (.look, 11), (.turn, 12)] (by kernel_rfl) (by kernel_rfl) trivial ?_
    simp only [List.map_cons, List.map_nil, Mix.nth_zero, Mix.nth_succ]
    repeat (first
      | (refine Mix.go_skipS (by exact Mix.wanted_no rfl rfl rfl rfl) ?_; go_frame)
      | (refine Mix.go_skipL (by exact Mix.wanted_no rfl rfl rfl rfl) ?_; go_frame)
      | (refine Mix.go_move (by first | exact Mix.wanted_none rfl | exact Mix.wanted_yes rfl rfl rfl) _ rfl _ (by first | (go_simp; done) | (go_simp; rfl)) ?_; go_frame)
      | (refine Mix.go_assign (by first | exact Mix.wanted_none rfl | exact Mix.wanted_yes rfl rfl rfl) _ rfl _ (by first | (go_simp; done) | (go_simp; rfl)) ?_; go_frame)
      | (refine Mix.go_sureW (by first | exact Mix.wanted_none rfl | exact Mix.wanted_yes rfl rfl rfl) _ (by rfl) (by rfl) _ (fun w' hC' => by go_wp2_with fail; refine Mix.stays ?_; go_frame; rfl) ?_; go_frame)
      | (refine Mix.go_lookW (by first | exact Mix.wanted_none rfl | exact Mix.wanted_yes rfl rfl rfl) _ (by rfl) (by rfl) _ (by go_wp2_with fail; refine Mix.stays ?_; go_frame; rfl) ?_; go_frame))
    refine Mix.go_turn ?_
    go_wp2_with fail
    refine (Blocks.refGive_any 0 xg ob O _ (nints d.T) (by rw [Blocks.nints_length]; omega) (fun i hi => by
      obtain ⟨q, hq, rfl⟩ := Blocks.nints_mem.1 hi
      have := HTB.out q hq
      omega) _ (HH.out.blk.fr0 (Fr.refl _ _).drew) (HI.out.fr0 (Fr.refl _ _).drew) (fun a n c hl hv => by
      have hv' : Value.slice d.A d.T.length d.C = .slice (some a) n c := hv
      simp only [Value.slice.injEq] at hv'
      rw [Blocks.nints_length] at hl
      exact (HIL.out (List.length_pos_iff.1 hl) _ hv'.1).2.2.2.2.1)).mono ?_
    rintro e w4 ⟨rfl, hB4, hF4⟩
    have HH4 := Lib.hid ((HH.out.fr0 (Fr.refl _ _).drew).took hF4 hB4)
    have HF4 : Hid (Fr Own w w4) := Lib.hid ((Fr.refl _ _).drew.trans hF4 (fun i _ h => by have e' : i = ob := h; rw [e']; exact HH.out.own.2.2))
    clear hB4 hF4 c2 c3 d2
    go_wp2
    refine Mix.then_go trivial ?_
    refine Mix.go_end ?_
    have c3 := HH4.out.c3
    have hgl4 := HH4.out.g_lt
    obtain ⟨⟨s1, v1⟩, _⟩ := row_cuts (P := Try.prog) Try.underlying55 (by kernel_rfl) HH4.out.row j (by omega)
    obtain ⟨_, A2, s2, v2⟩ := row_cuts (P := Try.prog) Try.underlying55 (by kernel_rfl) HH4.out.row (j + 1) (by omega)
    have s2 := s2 ((j : Int) + 1) (by omega)
    rw [← kcells_take] at v1
    rw [← kcells_drop] at v2
    have V1 := Lib.hid v1
    have V2 := Lib.hid v2
    have hlk1 : (es.take j).length = j := by rw [List.length_take]; omega
    have hlk2 : (es.drop (j + 1)).length = es.length - (j + 1) := List.length_drop
    have L1 := Lib.hid hlk1
    have L2 := Lib.hid hlk2
    clear v1 v2 hlk1 hlk2
    go_wp2
    refine Mix.law (fun W => W.cell? ⟨g, 3, none⟩ = some (.slice (some ⟨kb, 0, none⟩) es.length C)) [(.sure, 0), (.sure, 2), (.sure, 3), (.sure, 4), (.sure, 5), (.sure, 6), (.sure, 7), (.sure, 9), (.sure, 10), (.sure, 11), (.sure, 12), (.sure, 13), (.sure, 14), (.sure, 15), (.turn, 1), (.turn, 8), (.turn, 16), (.sure, 17), (.sure, 18), (.last, 19)] (by kernel_rfl) (by kernel_rfl) c3 ?_
    simp only [List.map_cons, List.map_nil, Mix.nth_zero, Mix.nth_succ]
    repeat (first
      | (refine Mix.go_skipS (by exact Mix.wanted_no rfl rfl rfl rfl) ?_; go_frame)
      | (refine Mix.go_skipL (by exact Mix.wanted_no rfl rfl rfl rfl) ?_; go_frame)
      | (refine Mix.go_move (by first | exact Mix.wanted_none rfl | exact Mix.wanted_yes rfl rfl rfl) _ rfl _ (by first | (go_simp; done) | (go_simp; rfl)) ?_; go_frame)
      | (refine Mix.go_assign (by first | exact Mix.wanted_none rfl | exact Mix.wanted_yes rfl rfl rfl) _ rfl _ (by first | (go_simp; done) | (go_simp; rfl)) ?_; go_frame)
      | (refine Mix.go_sureW (by first | exact Mix.wanted_none rfl | exact Mix.wanted_yes rfl rfl rfl) _ (by rfl) (by rfl) _ (fun w' hC' => by go_wp2_with fail; refine Mix.stays ?_; go_frame; rfl) ?_; go_frame)
      | (refine Mix.go_lookW (by first | exact Mix.wanted_none rfl | exact Mix.wanted_yes rfl rfl rfl) _ (by rfl) (by rfl) _ (by go_wp2_with fail; refine Mix.stays ?_; go_frame; rfl) ?_; go_frame))
    refine Mix.go_turn ?_
    go_wp2
    have HF5 := Lib.hid (((Fr.refl (fun _ => False) w4).drew).alloc (.cells #[] 90))
    refine Mix.then_go ((HF5.out.cell (p := ⟨g, 3, none⟩) hgl4 (fun f => f)).trans c3) ?_
    refine Mix.go_turn ?_
    go_wp2_with (refine wpList_append_vals rfl (.tmp 25) (.tmp 31) 55 rfl w4.heap.size 90 Try.underlying55 (.agg #[.int .i64 0, .slice none 0 0, .slice none 0 0]) 3 56 infoK rfl (by decide) _ _ 0 j [] (kcells (es.take j)) rfl rfl (World.ownsRow_made w4.drew #[] 0 (Nat.le_refl _) (Nat.zero_le _) rfl) (V1.out.fr0 HF5.out) (by rw [kcells_length, L1.out]) (kcells_one _) (by unfold maxLen; omega) (by omega) HF5.out.size ?_; intro v6 w6 hO6 hG6)
    rw [Nat.zero_add, List.nil_append] at hO6
    have HF6 : Hid (Fr0 w4 w6) := Lib.hid (HF5.out.grown hG6 (fun i hi e => by cases e; exact absurd hi (Nat.lt_irrefl _)))
    have HO6 := Lib.hid hO6
    clear hO6 hG6
    refine Mix.then_go ((HF6.out.cell (p := ⟨g, 3, none⟩) hgl4 (fun f => f)).trans c3) ?_
    refine Mix.go_turn ?_
    go_wp2_with (refine wpList_append_vals rfl (.tmp 32) (.tmp 39) 55 rfl w4.heap.size 90 Try.underlying55 (.agg #[.int .i64 0, .slice none 0 0, .slice none 0 0]) 3 56 infoK rfl (by decide) _ _ j (es.length - (j + 1)) (kcells (es.take j)) (kcells (es.drop (j + 1))) rfl rfl HO6.out (V2.out.fr0 HF6.out) (by rw [kcells_length, L2.out]) (kcells_one _) (by unfold maxLen; omega) (by omega) HF6.out.size ?_; intro v7 w7 hO7 hG7)
    obtain ⟨A7, C7, rfl, _⟩ := owns_form hO7
    have HF7 : Hid (Fr0 w4 w7) := Lib.hid (HF6.out.grown hG7 (fun i hi e => by have := (HO6.out.lt i e).1; omega))
    have hrow : w7.ownsRow 0 90 3 (.slice A7 (j + (es.length - (j + 1))) C7) (drop id es).length (kcells (drop id es)) := by
      rw [HDS.out, kcells_append, List.length_append, L1.out, L2.out]
      exact owns_base0 hO7
    have hnew : NewRow w4 (.slice (some ⟨kb, 0, none⟩) es.length C) (.slice A7 (j + (es.length - (j + 1))) C7) := .inr fun b hb => (hO7.lt b hb).1
    have HH7 := Lib.hid (HH4.out.swap (es' := drop id es) (Own' := Grow Own w) (HF7.out.zero) hrow hnew (fun i hi => .inl hi) (fun i hi => .inr (Nat.le_trans HF4.out.size hi)) (fun e he => .inl (drop_mem he)) (List.Pairwise.sublist (List.Sublist.map _ List.filter_sublist) HH4.out.rise) (fun e he => HH4.out.top e (drop_mem he)))
    have HE : Hid (RDropPost Own k ga g xg ob O p es id d.T w (.returned (.int .i64 0)) (w7.setCell ⟨g, 3, none⟩ (.slice A7 (j + (es.length - (j + 1))) C7))) := Lib.hid ⟨rfl, _, HH7.out, Fr.setCell (p := ⟨g, 3, none⟩) (HF4.out.trans HF7.out (fun _ _ f => f.elim)) (fun _ => HH.out.own.1) _⟩
    have dg : w7.frozen? ⟨g, 3, none⟩ = false := (HF7.out.row HH4.out.obj (fun f => f)).frozen 3
    have k3 := (HF7.out.cell (p := ⟨g, 3, none⟩) hgl4 (fun f => f)).trans c3
    clear hrow hnew hO7 hG7 HO6 HH7 s1 s2
    refine Mix.then_go k3 ?_
    repeat (first
      | (refine Mix.go_skipS (by exact Mix.wanted_no rfl rfl rfl rfl) ?_; go_frame)
      | (refine Mix.go_skipL (by exact Mix.wanted_no rfl rfl rfl rfl) ?_; go_frame)
      | (refine Mix.go_move (by first | exact Mix.wanted_none rfl | exact Mix.wanted_yes rfl rfl rfl) _ rfl _ (by first | (go_simp; done) | (go_simp; rfl)) ?_; go_frame)
      | (refine Mix.go_assign (by first | exact Mix.wanted_none rfl | exact Mix.wanted_yes rfl rfl rfl) _ rfl _ (by first | (go_simp; done) | (go_simp; rfl)) ?_; go_frame)
      | (refine Mix.go_sureW (by first | exact Mix.wanted_none rfl | exact Mix.wanted_yes rfl rfl rfl) _ (by rfl) (by rfl) _ (fun w' hC' => by go_wp2_with fail; refine Mix.stays ?_; go_frame; rfl) ?_; go_frame)
      | (refine Mix.go_lookW (by first | exact Mix.wanted_none rfl | exact Mix.wanted_yes rfl rfl rfl) _ (by rfl) (by rfl) _ (by go_wp2_with fail; refine Mix.stays ?_; go_frame; rfl) ?_; go_frame))
    refine Mix.go_last ?_
    go_wp2
    refine Mix.then_go trivial ?_
    refine Mix.go_end ?_
    go_wp2
    go_ret
    exact HE.out
end Go.Proofs.Ytkdpdbjefehmpaa.Hold
