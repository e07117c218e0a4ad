/-
  StoreTwice walked.
-/
import Derived.Test.YtbbmjkligiglmaaStoreAwake
import Derived.Test.YtbbmjkligiglmaaSerGo
import Derived.Test.YtbbmjkligiglmaaMixS
import Derived.Laws.StructEq
import Derived.Test.YtbbmjkligiglmaaWays
namespace Go.Proofs.Ytbbmjkligiglmaa.StoreL
open Go.RowKit Base _root_.Go.Proofs.Ytbbmjkligiglmaa.Tenant _root_.Go.Proofs.Ytbbmjkligiglmaa.Series _root_.Go.Proofs.Ytbbmjkligiglmaa.Agg _root_.Go.Proofs.Ytbbmjkligiglmaa.Store
open _root_.Go.Proofs.Ytbbmjkligiglmaa.Ord (Grown ptr Ent)

theorem acts_at {w : World} {v : Value} {l : List Ac} (h : ActsIs w v l) : ∃ A cap, v = .slice A l.length cap ∧ ∀ j t, l[j]? = some t → ∃ pb po, A = some ⟨pb, po, none⟩ ∧ ∃ B C, ∀ w', Fr0 w w' → w'.cell? ⟨pb, po + j * 5, none⟩ = some (.int .i64 t.op) ∧ w'.cell? ⟨pb, po + j * 5 + 1, none⟩ = some (.string t.nm) ∧ w'.cell? ⟨pb, po + j * 5 + 2, none⟩ = some (.slice B t.l.length C) ∧
    w'.cell? ⟨pb, po + j * 5 + 3, none⟩ = some (.int .i64 t.f) ∧ w'.cell? ⟨pb, po + j * 5 + 4, none⟩ = some (.int .i64 t.t) ∧ PairsIs w' (.slice B t.l.length C) t.l := by
  obtain ⟨a, cap, pb, po, rfl, hle, ha, hc⟩ := h
  refine ⟨a, cap, rfl, fun j t hj => ?_⟩
  have hlt := (List.getElem?_eq_some_iff.1 hj).1
  obtain ⟨c0, c1, ⟨B, C, c2, hp⟩, c3, c4⟩ := hc j t hj
  have go : ∀ {o : Nat} {x : Value} (w' : World), Fr0 w w' → w.cell? ⟨pb, o, none⟩ = some x → w'.cell? ⟨pb, o, none⟩ = some x := fun w' hf hx => (hf.cell (World.block_lt_of_cell? w _ hx) (fun f => f)).trans hx
  exact ⟨pb, po, ha (by omega), B, C, fun w' hf => ⟨go w' hf c0, go w' hf c1, go w' hf c2, go w' hf c3, go w' hf c4, pairs_fr hp hf (fun _ _ _ _ _ f => f)⟩⟩
theorem of_c (l : List Sm) : (agOf l).c = (l.length : Int) := by
  show ((vsOf l).length : Int) = _
  rw [vs_length]
theorem eq_go (p : Ag) (wx : World) : (Op.equalIn 10000 33 (.agg #[.int .i64 p.c, .int .i64 p.s, .int .i64 p.n, .int .i64 p.x, .int .i64 p.l, .bool p.o]) (.agg #[.int .i64 p.c, .int .i64 p.s, .int .i64 p.n, .int .i64 p.x, .int .i64 p.l, .bool p.o])).run Try.prog wx = .ok true wx := by
  have hu : Try.prog.underlying 33 = some (.struct (Try.prog.fieldsOf 33)) := by simp [Program.fieldsOf, Try.underlying33]
  rw [run_equalIn_struct wx 9999 33 _ _ hu (by kernel_rfl)]
  simp only [Program.fieldsOf, Try.underlying33]
  have p0 := part_cell (P := Try.prog) 3 _ Try.underlying3 rfl #[.int .i64 p.c, .int .i64 p.s, .int .i64 p.n, .int .i64 p.x, .int .i64 p.l, .bool p.o] 0 _ rfl wx
  have p1 := part_cell (P := Try.prog) 2 _ Try.underlying2 rfl #[.int .i64 p.c, .int .i64 p.s, .int .i64 p.n, .int .i64 p.x, .int .i64 p.l, .bool p.o] 1 _ rfl wx
  have p2 := part_cell (P := Try.prog) 2 _ Try.underlying2 rfl #[.int .i64 p.c, .int .i64 p.s, .int .i64 p.n, .int .i64 p.x, .int .i64 p.l, .bool p.o] 2 _ rfl wx
  have p3 := part_cell (P := Try.prog) 2 _ Try.underlying2 rfl #[.int .i64 p.c, .int .i64 p.s, .int .i64 p.n, .int .i64 p.x, .int .i64 p.l, .bool p.o] 3 _ rfl wx
  have p4 := part_cell (P := Try.prog) 2 _ Try.underlying2 rfl #[.int .i64 p.c, .int .i64 p.s, .int .i64 p.n, .int .i64 p.x, .int .i64 p.l, .bool p.o] 4 _ rfl wx
  have p5 := part_cell (P := Try.prog) 4 _ Try.underlying4 rfl #[.int .i64 p.c, .int .i64 p.s, .int .i64 p.n, .int .i64 p.x, .int .i64 p.l, .bool p.o] 5 _ rfl wx
  have q0 := fun x => run_equalIn_int (P := Try.prog) wx 9998 3 .i64 .i64 x x Try.underlying3
  have q1 := fun x => run_equalIn_int (P := Try.prog) wx 9998 2 .i64 .i64 x x Try.underlying2
  have q5 := fun x => run_equalIn_bool (P := Try.prog) wx 9998 4 x x Try.underlying4
  simp [Op.eqFields, p0, p1, p2, p3, p4, p5, q0, q1, q5]
set_option maxRecDepth 100000 in
set_option maxHeartbeats 8000000 in
theorem storeTwice_walk (most retain : Int) (v0 : Value) (L : List Ac) (nm : ByteArray) (f t : Int) (hm : inI64 most) (hr : inI64 retain) (hL : ∀ q ∈ L, SizedAc q) (hf : inI64 f) (ht : inI64 t) (w : World) (hI : ActsIs w v0 L) :
    Calls Try.prog 6 #[.int .i64 most, .int .i64 retain, v0, .string nm, .int .i64 f, .int .i64 t] w fun e w' => e = .returned (.bool true) ∧ Fr0 w w' := by
  obtain ⟨A, cap, rfl, hat⟩ := acts_at hI
  have HAT := Lib.hid hat
  have HSZ := Lib.hid hL
  have HF := Lib.hid hf
  have HT := Lib.hid ht
  have HBAD := Lib.hid (fun w h => pnew_bad most retain w hm hr h)
  have HOK := Lib.hid (fun w h1 h2 => pnew_ok most retain w h1 h2)
  clear hI hat hL hf ht hm hr
  have HG : Hid (∀ i, i < L.length → ∃ e, L[i]? = some e) := Lib.hid (fun i hi => ⟨_, List.getElem?_eq_getElem hi⟩)
  generalize L.length = n at *
  go_enter Try.func6, Try.ntmps6
  go_wp2_with fail
  refine (awake_any w).mono ?_
  rintro e w1 ⟨rfl, hF1⟩
  have HF1 := Lib.hid hF1
  clear hF1
  by_cases hgood : (1 ≤ most ∧ most ≤ 16) ∧ (1 ≤ retain ∧ retain ≤ 64)
  · have hnew := HOK.out w1 hgood.1 hgood.2
    have HGD := Lib.hid hgood
    clear HOK HBAD hgood
    go_wp2_with fail
    refine hnew.mono ?_
    clear hnew
    rintro e w2 ⟨g, rfl, hP2, hF2⟩
    have HP2 := Lib.hid hP2
    have HF2 := Lib.hid (HF1.out.trans' hF2)
    have HO2 : Hid (∀ k, (w1.heap.size ≤ k ∧ k < w2.heap.size) → w.heap.size ≤ k) := Lib.hid (fun k hk => Nat.le_trans HF1.out.size hk.1)
    clear hP2 hF2 HF1
    by_cases h40 : 40 < n
    · have i3 : (40 : Int) < (n : Int) := by omega
      go_wp2
      go_ret
      exact ⟨rfl, HF2.out⟩
    · have i3 : ¬ (40 : Int) < (n : Int) := by omega
      unfold ptr
      go_wp2
      go_loopg [15] n (fun kx vi wr => ∃ (i : Nat) (ss : List SE) (O : Nat → Prop), vi = .int .i64 (i : Int) ∧ i ≤ n ∧ n - i ≤ kx ∧ Hid (PAt O wr g most retain ss) ∧ Hid (∀ k, O k → w.heap.size ≤ k) ∧ Hid (Fr0 w wr))
      case atStart => exact ⟨0, [], _, rfl, Nat.zero_le _, by omega, HP2, HO2, HF2⟩
      case round =>
        obtain ⟨i, ss, O, rfl, hi, hkx, HP, HO, HF3⟩ := hrel
        clear HP2 HO2 HF2
        by_cases hlt : i < n
        · obtain ⟨q, hq⟩ := HG.out i hlt
          obtain ⟨pb, po, rfl, B, C, hcells⟩ := HAT.out i q hq
          obtain ⟨-, d1, d2, -, -, hpr⟩ := hcells wr HF3.out
          have hsz := HSZ.out q (List.mem_of_getElem? hq)
          have HCE := Lib.hid hcells
          have i1 : (i : Int) < (n : Int) := by omega
          have i2 : 0 ≤ (i : Int) := by omega
          clear hcells hpr
          by_cases hq40 : 40 < q.l.length
          · have i4 : (40 : Int) < (q.l.length : Int) := by omega
            clear hq hsz
            generalize q.l.length = m at *
            go_wp2
            go_ret
            exact ⟨rfl, HF3.out⟩
          · have i4 : ¬ (40 : Int) < (q.l.length : Int) := by omega
            have hpush := fun w' (hf : Fr0 wr w') => ppush_any O g most retain ss q.nm q.l (.slice B q.l.length C) w' (HP.out.fr hf (fun _ _ _ f => f)) hsz.nm (by omega) hsz.l (HCE.out w' (HF3.out.trans' hf)).2.2.2.2.2
            generalize hss : pushSt most retain q.nm q.l ss = ss2 at *
            generalize pushErr most retain q.nm q.l ss = er at *
            clear hq hsz hss
            generalize q.l.length = m at *
            generalize q.nm = qn at *
            unfold ptr at *
            go_wp2
            refine Mix.law (fun _ => True) [(.sure, 0), (.sure, 1), (.sure, 2), (.sure, 3), (.sure, 4), (.look, 5), (.sure, 6), (.sure, 7), (.sure, 8), (.sure, 9), (.look, 10), (.turn, 11)] (by kernel_rfl) (by kernel_rfl) trivial ?_
            simp only [List.map_cons, List.map_nil, Mix.nth_zero, Mix.nth_succ]
            repeat (first
              | ((with_reducible refine Mix.go_skipS ?_ ?_); (focus (first | exact Mix.wanted_no rfl rfl rfl rfl | exact Mix.wanted_void rfl rfl rfl)); go_frame)
              | ((with_reducible refine Mix.go_skipL ?_ ?_); (focus (first | exact Mix.wanted_no rfl rfl rfl rfl | exact Mix.wanted_void rfl rfl rfl)); go_frame)
              | (refine Mix.go_move (by first | exact Mix.wanted_none rfl | exact Mix.wanted_yes rfl rfl rfl) _ rfl _ (by first | (go_simp; done) | (go_simp; rfl)) ?_; go_frame)
              | (refine Mix.go_assign (by first | exact Mix.wanted_none rfl | exact Mix.wanted_yes rfl rfl rfl) _ rfl _ (by first | (go_simp; done) | (go_simp; rfl)) ?_; go_frame)
              | (refine Mix.go_sureW (by first | exact Mix.wanted_none rfl | exact Mix.wanted_yes rfl rfl rfl) _ (by rfl) (by rfl) _ (fun w' hC' => by go_wp2_with fail; refine Mix.stays ?_; go_frame; rfl) ?_; go_frame)
              | (refine Mix.go_lookW (by first | exact Mix.wanted_none rfl | exact Mix.wanted_yes rfl rfl rfl) _ (by rfl) (by rfl) _ (by go_wp2_with fail; refine Mix.stays ?_; go_frame; rfl) ?_; go_frame))
            refine Mix.go_turn ?_
            go_wp2_with fail
            refine (hpush _ (Fr.refl _ _).drew).mono ?_
            clear hpush
            rintro e w4 ⟨rfl, hF4, hP4⟩
            have HF4 : Hid (Fr0 w w4) := Lib.hid (grown_of HO.out (HF3.out.trans' (Fr.refl _ _).drew) hF4)
            have HP4 := Lib.hid hP4
            have HO4 : Hid (∀ k, Grown O wr.drew w4 k → w.heap.size ≤ k) := Lib.hid (fun k hk => by
              rcases hk with hk | ⟨hk, _⟩
              · exact HO.out k hk
              · exact Nat.le_trans HF3.out.size hk)
            clear hF4 hP4 HCE d1 d2
            go_wp2
            refine Mix.then_go trivial ?_
            refine Mix.go_end ?_
            go_wp2
            go_roundg (n - (i + 1))
            case measure => omega
            case rel => exact ⟨i + 1, ss2, _, by simp, by omega, by omega, HP4, HO4, HF4⟩
        · obtain rfl : i = n := by omega
          have i1 : ¬ (i : Int) < (i : Int) := by omega
          have HOKS := Lib.hid HP.out.ok
          have hlen := plen_any O g most retain ss wr HP.out
          have HQC : Hid (((queryErr nm ss = 0 ∧ (queryOut nm f t ss).c = ((rangeOf (wasS nm ss) f t).length : Int)) ∨ (queryErr nm ss = 8 ∧ (queryOut nm f t ss).c = 0 ∧ (rangeOf (wasS nm ss) f t).length = 0))) := Lib.hid (by
            unfold queryErr queryOut
            cases hh : hasS nm ss with
            | true => exact .inl ⟨rfl, of_c _⟩
            | false => exact .inr ⟨rfl, rfl, by rw [was_none hh]; rfl⟩)
          have HQ := Lib.hid (fun w h => pquery_any O g most retain ss nm f t w h HF.out HT.out)
          have HS := Lib.hid (fun w h => psamples_any O g most retain ss nm w h)
          have HR := Lib.hid (fun v w h => prange_any v (wasS nm ss) f t (by have h1 := (HOKS.out.was nm).1; have h2 := HOKS.out.hr; omega) (HOKS.out.was nm).2.1 HF.out HT.out w h)
          have HLE := Lib.hid (fun w h => plen_any O g most retain ss w h)
          generalize queryOut nm f t ss = qo at *
          generalize queryErr nm ss = qe at *
          rw [show a6 qo = #[.int .i64 qo.c, .int .i64 qo.s, .int .i64 qo.n, .int .i64 qo.x, .int .i64 qo.l, .bool qo.o] from rfl] at HQ
          generalize rangeOf (wasS nm ss) f t = rg at *
          generalize wasS nm ss = was at *
          generalize lenS ss = ln at *
          clear HOKS HAT HSZ HG
          unfold ptr at *
          go_wp2_with fail
          refine hlen.mono ?_
          clear hlen
          rintro e w5 ⟨rfl, hF5⟩
          have HP5 := Lib.hid (HP.out.fr hF5 (fun _ _ _ f => f))
          have HF5 := Lib.hid (HF3.out.trans' hF5)
          have hq := HQ.out w5 HP5.out
          clear hF5 HP HF3
          go_wp2_with fail
          refine hq.mono ?_
          clear hq
          rintro e w6 ⟨rfl, hF6⟩
          have HP6 := Lib.hid ((HP5.out.fr hF6 (fun _ _ _ f => f)).fr ((Fr.refl (fun _ => False) w6).alloc (.cells #[.int .i64 qo.c, .int .i64 qo.s, .int .i64 qo.n, .int .i64 qo.x, .int .i64 qo.l, .bool qo.o] 33)) (fun _ _ _ f => f))
          have HF6 := Lib.hid ((HF5.out.trans' hF6).alloc (.cells #[.int .i64 qo.c, .int .i64 qo.s, .int .i64 qo.n, .int .i64 qo.x, .int .i64 qo.l, .bool qo.o] 33))
          have HB6 := Lib.hid (Bx.new 33 w6 qo)
          have hq := HQ.out _ HP6.out
          clear hF6 HP5 HF5
          go_wp2_with fail
          refine hq.mono ?_
          clear hq
          rintro e w7 ⟨rfl, hF7⟩
          have HP7 := Lib.hid ((HP6.out.fr hF7 (fun _ _ _ f => f)).fr ((Fr.refl (fun _ => False) w7).alloc (.cells #[.int .i64 qo.c, .int .i64 qo.s, .int .i64 qo.n, .int .i64 qo.x, .int .i64 qo.l, .bool qo.o] 33)) (fun _ _ _ f => f))
          have HF7 := Lib.hid ((HF6.out.trans' hF7).alloc (.cells #[.int .i64 qo.c, .int .i64 qo.s, .int .i64 qo.n, .int .i64 qo.x, .int .i64 qo.l, .bool qo.o] 33))
          have HB7 := Lib.hid (Bx.new 33 w7 qo)
          have HB67 := Lib.hid ((HB6.out.fr0 hF7).fr0 ((Fr.refl (fun _ => False) w7).alloc (.cells #[.int .i64 qo.c, .int .i64 qo.s, .int .i64 qo.n, .int .i64 qo.x, .int .i64 qo.l, .bool qo.o] 33)))
          have hs := HS.out _ HP7.out
          clear hF7 HP6 HF6 HB6
          go_wp2_with fail
          generalize hx : w6.heap.size = gx at *
          generalize hy : w7.heap.size = gy at *
          clear hx hy
          refine hs.mono ?_
          clear hs
          rintro e w8 ⟨v8, rfl, hpr, hF8⟩
          have HF8 := Lib.hid (HF7.out.trans' hF8)
          have HP8 := Lib.hid (HP7.out.fr hF8 (fun _ _ _ f => f))
          have HX8 := Lib.hid (HB67.out.fr0 hF8)
          have HY8 := Lib.hid (HB7.out.fr0 hF8)
          have hr := HR.out v8 w8 hpr
          clear hF8 HF7 HP7 HB67 HB7 hpr
          go_wp2_with fail
          refine hr.mono ?_
          clear hr
          rintro e w9 ⟨v9, rfl, hpr, hF9⟩
          have HF9 := Lib.hid (HF8.out.trans' hF9)
          have HP9 := Lib.hid (HP8.out.fr hF9 (fun _ _ _ f => f))
          have HX9 := Lib.hid (HX8.out.fr0 hF9)
          have HY9 := Lib.hid (HY8.out.fr0 hF9)
          obtain ⟨A9, C9, rfl⟩ := pairs_form hpr
          obtain ⟨x0, -⟩ := HX9.out.cells
          have heq := fun w => eq_go qo w
          have hl9 := HLE.out w9 HP9.out
          clear hF9 HF8 HP8 HX8 HY8 hpr HQ HS HR HLE HP9
          go_wp2_with (first
            | (refine wpList_load_row_g rfl 33 (.tmp 17) rfl gx rfl 33 _ (0, 0) _ HX9.out.heap Try.underlying33 rfl infoG ?_)
            | (refine wpList_load_row_g rfl 33 (.tmp 19) rfl gy rfl 33 _ (0, 0) _ HY9.out.heap Try.underlying33 rfl infoG ?_))
          refine hl9.mono ?_
          clear hl9
          rintro e w10 ⟨rfl, hF10⟩
          have x1 := (hF10.cell (World.block_lt_of_cell? w9 _ x0) (fun f => f)).trans x0
          have HF10 := Lib.hid (HF9.out.trans' hF10)
          have hln : ((ln : Int) == (ln : Int)) = true := beq_self_eq_true _
          clear hF10 HF9 HX9 HY9 x0 heq
          generalize rg.length = m at *
          rcases HQC.out with ⟨h1, h2⟩ | ⟨h1, h2, h3⟩
          · rw [h2] at x1
            subst h1
            have hmm : ((m : Int) == (m : Int)) = true := beq_self_eq_true _
            clear HQC h2
            go_wp2
            go_ret
            exact ⟨rfl, HF10.out⟩
          · rw [h2] at x1
            subst h1 h3
            clear HQC h2
            go_wp2
            go_ret
            exact ⟨rfl, HF10.out⟩
  · have hnew := HBAD.out w1 hgood
    clear HOK HBAD hgood
    go_wp2_with fail
    refine hnew.mono ?_
    clear hnew
    rintro e w2 ⟨rfl, hF2⟩
    have HF2 := Lib.hid (HF1.out.trans' hF2)
    clear hF2
    go_wp2
    go_ret
    exact ⟨rfl, HF2.out⟩
end Go.Proofs.Ytbbmjkligiglmaa.StoreL
