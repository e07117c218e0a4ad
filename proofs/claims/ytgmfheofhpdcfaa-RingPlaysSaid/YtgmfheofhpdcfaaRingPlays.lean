/-
  RingPlays: any puts, any takes: who waits, who comes, is as the document says: the walk (made by wip/tools/ringplays.py).
-/
import Derived.Test.YtgmfheofhpdcfaaRingAwake
import Derived.Test.YtgmfheofhpdcfaaQueue
import Derived.Test.YtgmfheofhpdcfaaHeld
import Derived.Deep.Cut
import Derived.Deep.DeepCutAuto
namespace Go.Proofs.Ytgmfheofhpdcfaa.Ring
open Go.RowKit Go.Conc Base

theorem own_row {w : World} {base b n : Nat} {e : TypeId} {xs : List Value} (h : w.ownsRow base e 1 (.slice (some ⟨b, 0, none⟩) n n) n xs) : w.rowIs b e n (fun j => xs.getD j undef) := by
  rcases h.2 with ⟨hv, _⟩ | ⟨g, cap, cur, hv, hb, hg, hnc, hcm, hcs, ht⟩
  · cases hv
  · cases hv
    rw [Nat.mul_one] at hcs ht
    have hcur : cur.toList = xs := by rw [← ht, List.take_of_length_le (by simp; omega)]
    refine ⟨cur, hg, hcs, fun i hi => ?_⟩
    rw [← hcur]
    simp [show i < cur.size from by omega]
theorem ints_int (l : List Int) : ∀ x ∈ l.map (Value.int .i64), IsInt x := fun x hx => by
  simp only [List.mem_map] at hx
  obtain ⟨n, _, rfl⟩ := hx
  exact ⟨n, rfl⟩
theorem wpList_append_run' {P : Program} {w : World} {ops : Array Oper} {rest : List Oper} {o : Oper} {a : Act} {Q : Exit → Act → World → Prop} (hgd : o.guard = none) (s x : Operand) (t : TypeId)
    (ho : o.op = .call { callee := .builtin .append, args := #[s, x], argTypes := #[t, t] }) (v v2 v' : Value) (w' : World) (hs : a.eval s = v) (hx : a.eval x = v2) (hr : (Builtin.append_ #[t, t] o.type #[v, v2]).run P w = .ok v' w')
    (h : wpList P ops Q rest (a.put o.dst v') w') : wpList P ops Q (o :: rest) a w :=
  wpList_plain hgd fun K hK => by
    unfold Oper.wp execOp
    simp only [ho, resolve, invoke, builtin, Sem.run_bind, Sem.run_pure, Result.andThen_ok, List.map_toArray, List.map_cons, List.map_nil, hs, hx, hr]
    exact hK _ _ h
set_option maxHeartbeats 8000000 in
set_option maxRecDepth 100000 in
theorem ringPlays_walk (m : Int) (v1 : Value) (L : List Int) (hL : L.length ≤ 9223372036854775807) (hbd : ∀ x ∈ L, -9223372036854775808 ≤ x ∧ x ≤ 9223372036854775807) (w : World) (hI : IntsIs w v1 L) :
    Calls Try.prog 4 #[.int .i64 m, v1] w fun e w' => e = .returned (.bool true) ∧ Fr0 w w' := by
  obtain ⟨a1, c1, pb, po, rfl, hcap, ha1, hc1⟩ := hI
  have HA := Lib.hid ha1
  have HC := Lib.hid hc1
  clear hbd ha1 hc1
  by_cases h200 : 200 < L.length
  · go_enter Try.func4, Try.ntmps4
    go_wp2_with fail
    refine (awake_any w).mono ?_
    rintro e w1 ⟨rfl, hF1⟩
    have HF1 := Lib.hid hF1
    clear hF1
    go_wp2
    go_ret
    exact ⟨rfl, HF1.out⟩
  · go_enter Try.func4, Try.ntmps4
    go_wp2_with fail
    refine (awake_any w).mono ?_
    rintro e w1 ⟨rfl, hF1⟩
    have HF1 := Lib.hid hF1
    clear hF1
    go_wp2_with fail
    refine (new_int m w1).mono ?_
    rintro e w2 ⟨g, rfl, hg, c, hc, hR2, hF2⟩
    have HCH : Hid (w.heap.size ≤ c) := Lib.hid (Nat.le_trans HF1.out.size hc)
    have HF2 := Lib.hid (HF1.out.trans' hF2)
    have HR2 := Lib.hid hR2
    clear hR2 hF2 hg hc HF1
    generalize hH : held m = H at *
    have hH1 : 1 ≤ H := by rw [← hH]; exact held_pos m
    have hH2 : H ≤ 4096 := by rw [← hH]; exact held_le m
    have HHE : Hid ((H : Int) = min (max m 1) 4096) := Lib.hid (by rw [← hH]; exact held_int m)
    clear hH
    go_upto_if 23 with fail
    go_cut [6] (fun s6 wx => s6 = .int .i64 (max m 1) ∧ wx = w2)
    case first =>
      by_cases hm1 : m < 1
      · go_wp2
        go_meet
        exact ⟨by rw [show max m 1 = 1 by omega], rfl⟩
      · go_wp2
        go_meet
        exact ⟨by rw [show max m 1 = m by omega], rfl⟩
    case rest =>
      obtain ⟨rfl, rfl⟩ := hcut
      go_upto_if 25 with fail
      go_cut [6] (fun s6 wx => s6 = .int .i64 (H : Int) ∧ wx = wc)
      case first =>
        by_cases hm1 : 4096 < max m 1
        · go_wp2
          go_meet
          exact ⟨by rw [HHE.out, show min (max m 1) 4096 = 4096 by omega], rfl⟩
        · go_wp2
          go_meet
          exact ⟨by rw [HHE.out, show min (max m 1) 4096 = max m 1 by omega], rfl⟩
      case rest =>
        obtain ⟨rfl, rfl⟩ := hcut
        clear HHE
        go_wp2
        go_loopw [7, 8] (fun q i wr => ∃ (k : Nat) (ps : List Nat) (ls : List Int), k ≤ L.length ∧ i = .int .i64 k ∧ ls.length ≤ k ∧ QueueIs wr w.heap.size 3 q ls ∧ RowAt wr g c 65 3 H ps (ls.map (Value.int .i64)) ∧ (∀ b, q.ownBlock = some b → b ∉ ps ∧ b ≠ g) ∧ Fr0 w wr) (fun _ i _ => L.length - (intOf i).toNat)
        case atStart => exact ⟨0, [], [], Nat.zero_le _, rfl, Nat.le_refl _, QueueIs.nil _ _ _, HR2.out, fun b hb => (by cases hb), HF2.out⟩
        case round =>
          clear HR2 HF2
          obtain ⟨k, ps, ls, hk, rfl, hlk, hQ, hR, hD, hF⟩ := hrel
          obtain ⟨A, C, rfl⟩ := hQ.form
          have HQ := Lib.hid hQ
          have HR := Lib.hid hR
          have HD := Lib.hid hD
          have HF := Lib.hid hF
          clear hQ hR hD hF
          by_cases hlt : k < L.length
          · obtain rfl := HA.out (by omega)
            have k0 := HC.out k hlt
            have c00 : wr.cell? ⟨pb, po + k, none⟩ = some (.int .i64 (L.getD k 0)) := (HF.out.cell (p := ⟨pb, po + k, none⟩) (World.block_lt_of_cell? w _ k0) (fun f => f)).trans k0
            generalize L.getD k 0 = x at *
            have HX := Lib.hid k0
            clear k0
            have hi1 : (k : Int) < (L.length : Int) := by omega
            have hi2 : 0 ≤ (k : Int) := by omega
            by_cases hx : 0 ≤ x
            · by_cases hroom : ls.length < H
              · have hroom' : (ls.length : Int) < (H : Int) := by omega
                go_wp2_with fail
                refine (put_int_room g c x _ _ _ wr HR.out (by rw [List.length_map]; exact hroom)).mono ?_
                rintro e w3 ⟨rfl, hR3, hF3⟩
                have hqc : ∀ q, (Value.slice A ls.length C).ownBlock = some q → q ≠ c := fun q hq e => by
                  obtain ⟨_, _, cs, tt, fr, hxx⟩ := HQ.out.block q hq
                  obtain ⟨cap', buf, cl, s, r, tm, hy⟩ := HR.out.chan
                  subst e
                  rw [hxx] at hy
                  cases hy
                have HQC := Lib.hid hqc
                have HQ3 := Lib.hid (HQ.out.fr hF3 (fun q hq e => hqc q hq e))
                have HR3 := Lib.hid hR3
                have HF3 := Lib.hid (fr0_of_fr1 HF.out hF3 HCH.out)
                have c03 : w3.cell? ⟨pb, po + k, none⟩ = some (.int .i64 x) := (HF3.out.cell (p := ⟨pb, po + k, none⟩) (World.block_lt_of_cell? w _ HX.out) (fun f => f)).trans HX.out
                have HW3 : Hid (wr.heap.size ≤ w3.heap.size) := Lib.hid hF3.size
                clear hR3 hF3 c00 hqc
                obtain ⟨v', w5, hrun, hQ5, hg5, hb5⟩ := QueueIs.push (P := Try.prog) 41 41 Try.underlying41 info_int (HQ3.out.fr0 ((Fr.refl _ _).alloc (.cells #[.int .i64 x] 3))) ((HF3.out.alloc (.cells #[.int .i64 x] 3)).size) (by omega) x w3.heap.size (by rw [cell_of_row _ _ _ _ _ _ (heap_alloc_new w3 _)]; rfl)
                obtain ⟨A', C', rfl⟩ := hQ5.form
                have HQ' := Lib.hid hQ5
                have hR5 := (HR3.out.fr0 ((Fr.refl _ _).alloc (.cells #[.int .i64 x] 3))).fr (S := fun q => (Value.slice A ls.length C).ownBlock = some q) (w' := w5) ((Fr.refl _ _).grown hg5 (fun q _ e => e)) (fun e => (HD.out g e).2 rfl) (fun e => HQC.out c e rfl) (fun p hp e => by
                  rcases List.mem_append.1 hp with hp | hp
                  · exact (HD.out p e).1 hp
                  · have := (HQ.out.block p e).2.1
                    simp at hp
                    omega)
                have HR' : Hid (RowAt w5 g c 65 3 H (ps ++ [wr.heap.size]) ((ls ++ [x]).map (Value.int .i64))) := Lib.hid (by rw [List.map_append]; exact hR5)
                have HF' : Hid (Fr0 w w5) := Lib.hid ((HF3.out.alloc (.cells #[.int .i64 x] 3)).grown hg5 (fun q hq e => by have := (HQ3.out.block q e).1; omega))
                have HD' : Hid (∀ q, (Value.slice A' (ls ++ [x]).length C').ownBlock = some q → q ∉ ps ++ [wr.heap.size] ∧ q ≠ g) := Lib.hid (fun q hq => by
                  rcases hb5 with h5 | h5
                  · rw [h5] at hq
                    refine ⟨fun hm => ?_, (HD.out q hq).2⟩
                    rcases List.mem_append.1 hm with hm | hm
                    · exact (HD.out q hq).1 hm
                    · have := (HQ.out.block q hq).2.1
                      simp at hm
                      omega
                  · rw [h5] at hq
                    have hq' : q = w3.heap.size + 1 := by simpa using hq.symm
                    have := HW3.out
                    refine ⟨fun hm => ?_, fun e => ?_⟩
                    · rcases List.mem_append.1 hm with hm | hm
                      · have := HR.out.lie.lt q hm; omega
                      · simp at hm; omega
                    · have := lt_of_heap HR.out.obj; omega)
                have hlen' : (ls ++ [x]).length ≤ k + 1 := by simp; omega
                clear hQ5 hg5 hb5 hR5 HQ HR HD HF HQ3 HF3 HQC
                generalize hls : ls ++ [x] = ls2 at *
                clear hls
                go_wp2_with (at_builtin; refine wpList_append_run' rfl _ _ 41 rfl _ _ _ _ rfl rfl hrun ?_)
                clear hrun c03 HR3 HW3
                go_wp2_with fail
                refine (list_int g c _ _ _ (ints_int ls2) w5 HR'.out).mono ?_
                rintro e w8 ⟨b8, ps8, rfl, hO8, hR8, hps8, hF8⟩
                rw [List.length_map] at hO8 ⊢
                have hb8 := hO8.lt b8 rfl
                have hrow8 : w8.rowIs b8 3 ls2.length (fun j => .int .i64 (ls2.getD j 0)) := (own_row hO8).congr (fun j hj => by first | (simp [hj]; done) | exact absurd hj (Nat.not_lt_zero _))
                have HROW := Lib.hid hrow8
                have HRR := Lib.hid hR8
                have HQQ := Lib.hid (HQ'.out.fr hF8 (fun q hq e => by
                  obtain ⟨_, _, cs, tt, fr, hx⟩ := HQ'.out.block q hq
                  obtain ⟨cap', buf, cl, s, r, tm, hy⟩ := HR'.out.chan
                  have e' : q = c := e
                  subst e'
                  rw [hx] at hy
                  cases hy))
                have HDD : Hid (∀ q, (Value.slice A' ls2.length C').ownBlock = some q → q ∉ ps8 ∧ q ≠ g) := Lib.hid (fun q hq => ⟨fun hm => by
                  rcases hps8 q hm with h1 | h1
                  · exact (HD'.out q hq).1 h1
                  · have := (HQ'.out.block q hq).2.1
                    omega, (HD'.out q hq).2⟩)
                have HFF := Lib.hid (fr0_of_fr1 HF'.out hF8 HCH.out)
                clear hO8 hR8 hps8 hF8 hb8 hrow8 HR' HQ' HD' HF'
                go_wp2_with fail
                refine (len_int g c _ _ _ w8 HRR.out).mono ?_
                rintro e w9 ⟨rfl, rfl⟩
                rw [List.length_map]
                go_wp2_with fail
                refine (most_int g c _ _ _ w8 HRR.out).mono ?_
                rintro e w9 ⟨rfl, rfl⟩
                go_wp2
                go_loopw [13] (fun i wr => ∃ j : Nat, j ≤ ls2.length ∧ i = .int .i64 j ∧ Fr0 w8 wr) (fun i _ => ls2.length - (intOf i).toNat)
                case atStart => exact ⟨0, Nat.zero_le _, rfl, Fr.refl _ _⟩
                case round =>
                  obtain ⟨j, hj, rfl, hF9⟩ := hrel
                  have HF9 := Lib.hid hF9
                  clear hF9
                  by_cases hjl : j < ls2.length
                  · obtain ⟨bq, oq, cq, hv, hcq, hcell⟩ := HQQ.out.cells (by omega)
                    cases hv
                    have y0 : wr.cell? ⟨bq, oq + j, none⟩ = some (.int .i64 (ls2.getD j 0)) := (HF9.out.cell (p := ⟨bq, oq + j, none⟩) (World.block_lt_of_cell? w8 _ (hcell j hjl)) (fun f => f)).trans (hcell j hjl)
                    have y1 : wr.cell? ⟨b8, j, none⟩ = some (.int .i64 (ls2.getD j 0)) := (HF9.out.row HROW.out (fun f => f)).cell hjl
                    have hj1 : (j : Int) < (ls2.length : Int) := by omega
                    have hj2 : 0 ≤ (j : Int) := by omega
                    clear hcell
                    generalize ls2.getD j 0 = y at *
                    go_wp2
                    go_quiet (fail)
                    clear y0 y1
                    go_wp2
                    go_roundw
                    case rel => exact ⟨j + 1, by omega, by go_num, HF9.out.drewN _⟩
                    case measure => simp only [intOf]; omega
                  · go_wp2
                    go_roundw
                    case rel => exact ⟨k + 1, ps8, ls2, by omega, by go_num, hlen', HQQ.out.fr0 HF9.out, HRR.out.fr0 HF9.out, HDD.out, HFF.out.trans' HF9.out⟩
                    case measure => simp only [intOf]; omega
              · have hroom' : ¬ (ls.length : Int) < (H : Int) := by omega
                go_wp2_with fail
                refine (put_int_full g c x _ _ _ wr HR.out (by rw [List.length_map]; exact hroom)).mono ?_
                rintro e w3 ⟨rfl, hR3, hF3⟩
                have HR' := Lib.hid hR3
                have HQ' := Lib.hid (HQ.out.fr0 hF3)
                have HF' := Lib.hid (HF.out.trans' hF3)
                have HD' := Lib.hid HD.out
                have hlen' : ls.length ≤ k + 1 := by omega
                clear hR3 hF3 c00 HQ HR HD HF
                go_wp2_with fail
                refine (list_int g c _ _ _ (ints_int ls) w3 HR'.out).mono ?_
                rintro e w8 ⟨b8, ps8, rfl, hO8, hR8, hps8, hF8⟩
                rw [List.length_map] at hO8 ⊢
                have hb8 := hO8.lt b8 rfl
                have hrow8 : w8.rowIs b8 3 ls.length (fun j => .int .i64 (ls.getD j 0)) := (own_row hO8).congr (fun j hj => by first | (simp [hj]; done) | exact absurd hj (Nat.not_lt_zero _))
                have HROW := Lib.hid hrow8
                have HRR := Lib.hid hR8
                have HQQ := Lib.hid (HQ'.out.fr hF8 (fun q hq e => by
                  obtain ⟨_, _, cs, tt, fr, hx⟩ := HQ'.out.block q hq
                  obtain ⟨cap', buf, cl, s, r, tm, hy⟩ := HR'.out.chan
                  have e' : q = c := e
                  subst e'
                  rw [hx] at hy
                  cases hy))
                have HDD : Hid (∀ q, (Value.slice A ls.length C).ownBlock = some q → q ∉ ps8 ∧ q ≠ g) := Lib.hid (fun q hq => ⟨fun hm => by
                  rcases hps8 q hm with h1 | h1
                  · exact (HD'.out q hq).1 h1
                  · have := (HQ'.out.block q hq).2.1
                    omega, (HD'.out q hq).2⟩)
                have HFF := Lib.hid (fr0_of_fr1 HF'.out hF8 HCH.out)
                clear hO8 hR8 hps8 hF8 hb8 hrow8 HR' HQ' HD' HF'
                go_wp2_with fail
                refine (len_int g c _ _ _ w8 HRR.out).mono ?_
                rintro e w9 ⟨rfl, rfl⟩
                rw [List.length_map]
                go_wp2_with fail
                refine (most_int g c _ _ _ w8 HRR.out).mono ?_
                rintro e w9 ⟨rfl, rfl⟩
                go_wp2
                go_loopw [13] (fun i wr => ∃ j : Nat, j ≤ ls.length ∧ i = .int .i64 j ∧ Fr0 w8 wr) (fun i _ => ls.length - (intOf i).toNat)
                case atStart => exact ⟨0, Nat.zero_le _, rfl, Fr.refl _ _⟩
                case round =>
                  obtain ⟨j, hj, rfl, hF9⟩ := hrel
                  have HF9 := Lib.hid hF9
                  clear hF9
                  by_cases hjl : j < ls.length
                  · obtain ⟨bq, oq, cq, hv, hcq, hcell⟩ := HQQ.out.cells (by omega)
                    cases hv
                    have y0 : wr.cell? ⟨bq, oq + j, none⟩ = some (.int .i64 (ls.getD j 0)) := (HF9.out.cell (p := ⟨bq, oq + j, none⟩) (World.block_lt_of_cell? w8 _ (hcell j hjl)) (fun f => f)).trans (hcell j hjl)
                    have y1 : wr.cell? ⟨b8, j, none⟩ = some (.int .i64 (ls.getD j 0)) := (HF9.out.row HROW.out (fun f => f)).cell hjl
                    have hj1 : (j : Int) < (ls.length : Int) := by omega
                    have hj2 : 0 ≤ (j : Int) := by omega
                    clear hcell
                    generalize ls.getD j 0 = y at *
                    go_wp2
                    go_quiet (fail)
                    clear y0 y1
                    go_wp2
                    go_roundw
                    case rel => exact ⟨j + 1, by omega, by go_num, HF9.out.drewN _⟩
                    case measure => simp only [intOf]; omega
                  · go_wp2
                    go_roundw
                    case rel => exact ⟨k + 1, ps8, ls, by omega, by go_num, hlen', HQQ.out.fr0 HF9.out, HRR.out.fr0 HF9.out, HDD.out, HFF.out.trans' HF9.out⟩
                    case measure => simp only [intOf]; omega
            · cases ls with
              | nil =>
                go_wp2_with fail
                refine (take_int_none g c _ _ wr HR.out).mono ?_
                rintro e w3 ⟨rfl, rfl⟩
                have HR' := Lib.hid HR.out
                have HQ' := Lib.hid HQ.out
                have HF' := Lib.hid HF.out
                have HD' := Lib.hid HD.out
                have hlen' : ([] : List Int).length ≤ k + 1 := by simp
                clear c00 HQ HR HD HF
                go_wp2_with fail
                refine (list_int g c _ _ _ (ints_int ([] : List Int)) w3 HR'.out).mono ?_
                rintro e w8 ⟨b8, ps8, rfl, hO8, hR8, hps8, hF8⟩
                rw [List.length_map] at hO8 ⊢
                have hb8 := hO8.lt b8 rfl
                have hrow8 : w8.rowIs b8 3 ([] : List Int).length (fun j => .int .i64 (([] : List Int).getD j 0)) := (own_row hO8).congr (fun j hj => by first | (simp [hj]; done) | exact absurd hj (Nat.not_lt_zero _))
                have HROW := Lib.hid hrow8
                have HRR := Lib.hid hR8
                have HQQ := Lib.hid (HQ'.out.fr hF8 (fun q hq e => by
                  obtain ⟨_, _, cs, tt, fr, hx⟩ := HQ'.out.block q hq
                  obtain ⟨cap', buf, cl, s, r, tm, hy⟩ := HR'.out.chan
                  have e' : q = c := e
                  subst e'
                  rw [hx] at hy
                  cases hy))
                have HDD : Hid (∀ q, (Value.slice A 0 C).ownBlock = some q → q ∉ ps8 ∧ q ≠ g) := Lib.hid (fun q hq => ⟨fun hm => by
                  rcases hps8 q hm with h1 | h1
                  · exact (HD'.out q hq).1 h1
                  · have := (HQ'.out.block q hq).2.1
                    omega, (HD'.out q hq).2⟩)
                have HFF := Lib.hid (fr0_of_fr1 HF'.out hF8 HCH.out)
                clear hO8 hR8 hps8 hF8 hb8 hrow8 HR' HQ' HD' HF'
                go_wp2_with fail
                refine (len_int g c _ _ _ w8 HRR.out).mono ?_
                rintro e w9 ⟨rfl, rfl⟩
                rw [List.length_map]
                go_wp2_with fail
                refine (most_int g c _ _ _ w8 HRR.out).mono ?_
                rintro e w9 ⟨rfl, rfl⟩
                go_wp2
                go_loopw [13] (fun i wr => ∃ j : Nat, j ≤ ([] : List Int).length ∧ i = .int .i64 j ∧ Fr0 w8 wr) (fun i _ => ([] : List Int).length - (intOf i).toNat)
                case atStart => exact ⟨0, Nat.zero_le _, rfl, Fr.refl _ _⟩
                case round =>
                  obtain ⟨j, hj, rfl, hF9⟩ := hrel
                  have HF9 := Lib.hid hF9
                  clear hF9
                  by_cases hjl : j < ([] : List Int).length
                  · exact absurd hjl (Nat.not_lt_zero _)
                  · go_wp2
                    go_roundw
                    case rel => exact ⟨k + 1, ps8, ([] : List Int), by omega, by go_num, hlen', HQQ.out.fr0 HF9.out, HRR.out.fr0 HF9.out, HDD.out, HFF.out.trans' HF9.out⟩
                    case measure => simp only [intOf]; omega
              | cons y ls' =>
                obtain ⟨b0, o0, C0, hv0, hC0, hcell0⟩ := HQ.out.cells (by simp)
                cases hv0
                have y0 := hcell0 0 (by simp)
                simp only [Nat.add_zero, List.getD_cons_zero] at y0
                have HY := Lib.hid y0
                clear hcell0 y0
                go_wp2_with fail
                refine (take_int_some g c y _ _ _ wr HR.out).mono ?_
                rintro e w3 ⟨rfl, hR3, hF3⟩
                have hqc : ∀ q, (Value.slice (some ⟨b0, o0, none⟩) (y :: ls').length C).ownBlock = some q → q ≠ c := fun q hq e => by
                  obtain ⟨_, _, cs, tt, fr, hxx⟩ := HQ.out.block q hq
                  obtain ⟨cap', buf, cl, s, r, tm, hy⟩ := HR.out.chan
                  subst e
                  rw [hxx] at hy
                  cases hy
                have hQ3 := HQ.out.fr hF3 (fun q hq e => hqc q hq e)
                obtain ⟨v', hQ5, hob, hsl⟩ := hQ3.cut (P := Try.prog) 41 Try.underlying41 (by kernel_rfl)
                obtain ⟨A', C', rfl⟩ := hQ5.form
                simp only [List.length_cons] at hsl
                have y3 : w3.cell? ⟨b0, o0, none⟩ = some (.int .i64 y) := (hF3.cell (p := ⟨b0, o0, none⟩) (World.block_lt_of_cell? wr _ HY.out) (fun e => hqc b0 rfl e)).trans HY.out
                have HR' := Lib.hid hR3
                have HQ' := Lib.hid hQ5
                have HF' := Lib.hid (fr0_of_fr1 HF.out hF3 HCH.out)
                have HD' : Hid (∀ q, (Value.slice A' ls'.length C').ownBlock = some q → q ∉ ps.tail ∧ q ≠ g) := Lib.hid (fun q hq => by
                  rw [hob] at hq
                  exact ⟨fun hm => (HD.out q hq).1 (List.mem_of_mem_tail hm), (HD.out q hq).2⟩)
                have hlen' : ls'.length ≤ k + 1 := by simp at hlk; omega
                clear hR3 hF3 c00 HQ HR HD HF hqc hQ3 hQ5 hob HY
                go_wp2_with fail
                clear hsl y3
                refine (list_int g c _ _ _ (ints_int ls') w3 HR'.out).mono ?_
                rintro e w8 ⟨b8, ps8, rfl, hO8, hR8, hps8, hF8⟩
                rw [List.length_map] at hO8 ⊢
                have hb8 := hO8.lt b8 rfl
                have hrow8 : w8.rowIs b8 3 ls'.length (fun j => .int .i64 (ls'.getD j 0)) := (own_row hO8).congr (fun j hj => by first | (simp [hj]; done) | exact absurd hj (Nat.not_lt_zero _))
                have HROW := Lib.hid hrow8
                have HRR := Lib.hid hR8
                have HQQ := Lib.hid (HQ'.out.fr hF8 (fun q hq e => by
                  obtain ⟨_, _, cs, tt, fr, hx⟩ := HQ'.out.block q hq
                  obtain ⟨cap', buf, cl, s, r, tm, hy⟩ := HR'.out.chan
                  have e' : q = c := e
                  subst e'
                  rw [hx] at hy
                  cases hy))
                have HDD : Hid (∀ q, (Value.slice A' ls'.length C').ownBlock = some q → q ∉ ps8 ∧ q ≠ g) := Lib.hid (fun q hq => ⟨fun hm => by
                  rcases hps8 q hm with h1 | h1
                  · exact (HD'.out q hq).1 h1
                  · have := (HQ'.out.block q hq).2.1
                    omega, (HD'.out q hq).2⟩)
                have HFF := Lib.hid (fr0_of_fr1 HF'.out hF8 HCH.out)
                clear hO8 hR8 hps8 hF8 hb8 hrow8 HR' HQ' HD' HF'
                go_wp2_with fail
                refine (len_int g c _ _ _ w8 HRR.out).mono ?_
                rintro e w9 ⟨rfl, rfl⟩
                rw [List.length_map]
                go_wp2_with fail
                refine (most_int g c _ _ _ w8 HRR.out).mono ?_
                rintro e w9 ⟨rfl, rfl⟩
                go_wp2
                go_loopw [13] (fun i wr => ∃ j : Nat, j ≤ ls'.length ∧ i = .int .i64 j ∧ Fr0 w8 wr) (fun i _ => ls'.length - (intOf i).toNat)
                case atStart => exact ⟨0, Nat.zero_le _, rfl, Fr.refl _ _⟩
                case round =>
                  obtain ⟨j, hj, rfl, hF9⟩ := hrel
                  have HF9 := Lib.hid hF9
                  clear hF9
                  by_cases hjl : j < ls'.length
                  · obtain ⟨bq, oq, cq, hv, hcq, hcell⟩ := HQQ.out.cells (by omega)
                    cases hv
                    have y0 : wr.cell? ⟨bq, oq + j, none⟩ = some (.int .i64 (ls'.getD j 0)) := (HF9.out.cell (p := ⟨bq, oq + j, none⟩) (World.block_lt_of_cell? w8 _ (hcell j hjl)) (fun f => f)).trans (hcell j hjl)
                    have y1 : wr.cell? ⟨b8, j, none⟩ = some (.int .i64 (ls'.getD j 0)) := (HF9.out.row HROW.out (fun f => f)).cell hjl
                    have hj1 : (j : Int) < (ls'.length : Int) := by omega
                    have hj2 : 0 ≤ (j : Int) := by omega
                    clear hcell
                    generalize ls'.getD j 0 = y at *
                    go_wp2
                    go_quiet (fail)
                    clear y0 y1
                    go_wp2
                    go_roundw
                    case rel => exact ⟨j + 1, by omega, by go_num, HF9.out.drewN _⟩
                    case measure => simp only [intOf]; omega
                  · go_wp2
                    go_roundw
                    case rel => exact ⟨k + 1, ps8, ls', by omega, by go_num, hlen', HQQ.out.fr0 HF9.out, HRR.out.fr0 HF9.out, HDD.out, HFF.out.trans' HF9.out⟩
                    case measure => simp only [intOf]; omega
          · obtain rfl : k = L.length := by omega
            go_wp2
            go_ret
            exact ⟨rfl, HF.out⟩
end Go.Proofs.Ytgmfheofhpdcfaa.Ring
