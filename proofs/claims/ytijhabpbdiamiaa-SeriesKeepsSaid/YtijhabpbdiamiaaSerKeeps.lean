/-
  SeriesKeeps walked.
-/
import Derived.Test.YtijhabpbdiamiaaSerAwake
namespace Go.Proofs.Ytijhabpbdiamiaa.SeriesL
open Go.RowKit Base _root_.Go.Proofs.Ytijhabpbdiamiaa.Series

theorem eq_sp (a b c d : Int) (wx : World) : (Op.equalIn 10000 24 (.agg #[.int .i64 a, .int .i64 b]) (.agg #[.int .i64 c, .int .i64 d])).run Try.prog wx = .ok (a == c && b == d) wx := by
  have hu : Try.prog.underlying 24 = some (.struct (Try.prog.fieldsOf 24)) := by simp [Program.fieldsOf, Try.underlying24]
  rw [run_equalIn_struct wx 9999 24 _ _ hu (by kernel_rfl)]
  simp only [Program.fieldsOf, Try.underlying24]
  have p0 := fun x y => part_cell (P := Try.prog) 2 _ Try.underlying2 rfl #[.int .i64 x, .int .i64 y] 0 _ rfl wx
  have p1 := fun x y => part_cell (P := Try.prog) 2 _ Try.underlying2 rfl #[.int .i64 x, .int .i64 y] 1 _ rfl wx
  have q0 := fun x y => run_equalIn_int (P := Try.prog) wx 9998 2 .i64 .i64 x y Try.underlying2
  simp [Op.eqFields, p0, p1, q0]
  by_cases h1 : a = c <;> by_cases h2 : b = d <;> simp [h1, h2]
theorem eq_sp_yes (a b : Int) (wx : World) : (Op.equalIn 10000 24 (.agg #[.int .i64 a, .int .i64 b]) (.agg #[.int .i64 a, .int .i64 b])).run Try.prog wx = .ok true wx := by
  rw [eq_sp]; simp
/-- where slice i of a slice of slices lies -/
theorem rows_at {w : World} {a : Option Addr} {n cap : Nat} {ls : List (List Sm)} (h : RowsIs w (.slice a n cap) ls) (i : Nat) (hi : i < ls.length) : ∃ qb qo B D, a = some ⟨qb, qo, none⟩ ∧ (∀ wr, Fr0 w wr → wr.cell? ⟨qb, qo + i, none⟩ = some (.slice B (ls.getD i []).length D)) ∧ PairsIs w (.slice B (ls.getD i []).length D) (ls.getD i []) := by
  obtain ⟨a1, c1, qb, qo, hv, _, ha, hc⟩ := h
  simp only [Value.slice.injEq] at hv
  obtain ⟨rfl, _, _⟩ := hv
  obtain ⟨pv, h1, h2⟩ := hc i hi
  obtain ⟨B, D, rfl⟩ := pairs_form h2
  exact ⟨qb, qo, B, D, ha (by omega), fun wr hf => (hf.cell (p := ⟨qb, qo + i, none⟩) (World.block_lt_of_cell? w _ h1) (fun f => f)).trans h1, h2⟩
/-- what is kept and all that came, in their places -/
structure Both (W0 : Nat) (wr : World) (r : Int) (A5 : Option Addr) (n5 C5 : Nat) (A6 : Option Addr) (n6 C6 : Nat) (nw al : List Sm) : Prop where
  kept : Kept r nw al
  l5 : nw.length = n5
  l6 : al.length = n6
  now : PairsIs wr (.slice A5 n5 C5) nw
  all : wr.ownsRow W0 24 2 (.slice A6 n6 C6) n6 (pcells al)
  sized : SizedS nw
  apart : ∀ a, A5 = some a → 0 < n5 → ∀ j, (Value.slice A6 n6 C6).ownBlock = some j → a.block ≠ j
theorem Both.fr0 {W0 : Nat} {wr wx : World} {r : Int} {A5 : Option Addr} {n5 C5 : Nat} {A6 : Option Addr} {n6 C6 : Nat} {nw al : List Sm} (h : Both W0 wr r A5 n5 C5 A6 n6 C6 nw al) (hf : Fr0 wr wx) : Both W0 wx r A5 n5 C5 A6 n6 C6 nw al :=
  ⟨h.kept, h.l5, h.l6, h.now.fr0 hf, ownsFr hf h.all (fun _ _ f => f), h.sized, h.apart⟩
set_option maxRecDepth 100000 in
set_option maxHeartbeats 8000000 in
theorem seriesKeeps_walk (v0 : Value) (ls : List (List Sm)) (r : Int) (hll : ls.length ≤ 9223372036854775807) (hls : ∀ l ∈ ls, l.length ≤ 9223372036854775807 ∧ SizedS l) (hr : -9223372036854775808 ≤ r ∧ r ≤ 9223372036854775807) (w : World) (hP : RowsIs w v0 ls) :
    Calls Try.prog 6 #[v0, .int .i64 r] w fun e w' => e = .returned (.bool true) ∧ Fr0 w w' := by
  obtain ⟨A, C, rfl⟩ : ∃ A C, v0 = .slice A ls.length C := by obtain ⟨a, c, _, _, hv, _⟩ := hP; exact ⟨a, c, hv⟩
  have HP := Lib.hid hP
  have HLS : Hid (∀ i, i < ls.length → (ls.getD i []).length ≤ 9223372036854775807 ∧ SizedS (ls.getD i [])) := Lib.hid (fun i hi => hls _ (by rw [List.getD_eq_getElem?_getD, List.getElem?_eq_getElem hi]; exact List.getElem_mem hi))
  clear hP hls
  generalize hN : ls.length = N at *
  have HN := Lib.hid hN
  clear hN
  go_enter Try.func6, Try.ntmps6
  go_wp2_with fail
  refine (awake_any _).mono ?_
  rintro e w1 ⟨rfl, hF1⟩
  have HF1 := Lib.hid hF1
  clear hF1
  by_cases h1 : 20 < (N : Int)
  · go_wp2
    go_ret
    exact ⟨rfl, HF1.out⟩
  · by_cases h2 : r < 1
    · go_wp2
      go_ret
      exact ⟨rfl, HF1.out⟩
    · by_cases h3 : 64 < r
      · go_wp2
        go_ret
        exact ⟨rfl, HF1.out⟩
      · go_wp2_with fail
        go_loopg [5, 6, 7] N (fun kx v5 v6 vi wr => ∃ (i : Nat) (A5 : Option Addr) (n5 C5 : Nat) (A6 : Option Addr) (n6 C6 : Nat) (nw al : List Sm), vi = .int .i64 (i : Int) ∧ v5 = .slice A5 n5 C5 ∧ v6 = .slice A6 n6 C6 ∧ i ≤ N ∧ N - i ≤ kx ∧ n5 ≤ 64 ∧ n6 ≤ 30 * i ∧ Hid (Both w.heap.size wr r A5 n5 C5 A6 n6 C6 nw al) ∧ Hid (Fr0 w wr))
        case atStart => exact ⟨0, none, 0, 0, none, 0, 0, [], [], rfl, rfl, rfl, Nat.zero_le _, by omega, by omega, by omega, Lib.hid ⟨Kept.start r, rfl, rfl, pairs_nil _, World.ownsRow_nil _ _ _ _, sized_nil, fun a h => by cases h⟩, HF1⟩
        case round =>
          clear HF1
          obtain ⟨i, A5, n5, C5, A6, n6, C6, nw, al, rfl, rfl, rfl, hi, hk, hn5, hn6, HB, HF⟩ := hrel
          by_cases hlt : i < N
          · obtain ⟨qb, qo, B, D, rfl, hc, hp⟩ := rows_at HP.out i (by have := HN.out; omega)
            have HC := Lib.hid hc
            have HL := Lib.hid hp
            obtain ⟨z1, z2⟩ := HLS.out i hlt
            have HSL := Lib.hid z2
            have c0 := hc wr HF.out
            have i1 : (i : Int) < (N : Int) := by omega
            have i2 : 0 ≤ (i : Int) := by omega
            clear hc hp z2
            generalize ls.getD i [] = li at *
            generalize hM : li.length = M at *
            have HM := Lib.hid hM
            clear hM
            by_cases h4 : 30 < (M : Int)
            · go_wp2
              go_ret
              exact ⟨rfl, HF.out⟩
            · have hk1 := padd_new (.slice A5 n5 C5) (.slice B M D) nw li r (by have := HB.out.l5; omega) (by have := HM.out; omega) HB.out.sized HSL.out hr wr HB.out.now (HL.out.fr0 HF.out)
              have HNX := Lib.hid (fun h => HB.out.kept.next li h)
              have HNO := Lib.hid (fun h => HB.out.kept.no (by omega) li h)
              have HOL := Lib.hid (add_length nw li r)
              have HSO := Lib.hid (sized_sub (sized_app HB.out.sized HSL.out) (fun q h => add_mem (l := nw) (m := li) (r := r) h))
              unfold AddNew at hk1
              generalize addErr nw li r = er at *
              generalize addOut nw li r = out at *
              go_wp2_with fail
              refine hk1.mono ?_
              clear hk1
              rintro e w2 ⟨x, rfl, hX, hF2, hNew⟩
              have HF2 := Lib.hid (HF.out.trans' hF2)
              have HX := Lib.hid hX
              have HB2 := Lib.hid (HB.out.fr0 hF2)
              have c0 := HC.out w2 HF2.out
              obtain ⟨Ax, Cx, rfl⟩ := pairs_form hX
              have HNEW : Hid (∀ a, Ax = some a → 0 < out.length → wr.heap.size ≤ a.block) := Lib.hid (fun a h => hNew a _ _ (by rw [h]))
              have HWS := Lib.hid hF2.size
              clear hF2 hX hNew
              by_cases he : er = 0
              · subst he
                have HK := Lib.hid (HNX.out (by trivial))
                clear HNX HNO
                generalize hO : out.length = O at *
                have HO := Lib.hid hO
                clear hO
                have hol := HOL.out
                have HLV := Lib.hid (pairs_vals ((HL.out.fr0 HF2.out)))
                rw [HM.out] at HLV
                have HPL : Hid ((pcells li).length = M * 2) := Lib.hid (by rw [pcells_length, HM.out])
                have HL1 := Lib.hid (pcells_one li)
                have HBS : Hid (w.heap.size ≤ w2.heap.size) := Lib.hid HF2.out.size
                have HALL := Lib.hid HB2.out.all
                go_wp2_with ((refine wpList_append_valsM rfl (.tmp 56) (.tmp 60) 25 rfl (w.heap.size) 24 Try.underlying25 (.agg #[.int .i64 0, .int .i64 0]) 2 16 infoP rfl (by decide) _ _ n6 M (pcells al) (pcells li) rfl rfl HALL.out HLV.out (by exact HPL.out) (HL1.out) (by unfold maxLen; omega) (by omega) (by exact HBS.out) ?_); intro v9 w3 hO9 hG9 hN9; obtain ⟨A9, C9, hv9, _⟩ := owns_form hO9; subst hv9; have HO9 := Lib.hid hO9; have HN9 := Lib.hid hN9; have HG9 := Lib.hid (Fr.of_grown (S := fun j => (Value.slice A6 n6 C6).ownBlock = some j) hG9 (fun k hk e => e)); clear hO9 hG9 hN9)
                have HB9 : Hid (Both w.heap.size w3 r Ax O Cx A9 (n6 + M) C9 out (al ++ li)) := Lib.hid (by
                  refine ⟨HK.out, HO.out, by rw [List.length_append, HB.out.l6, HM.out], ?_, by rw [pcells_append]; exact HO9.out, HSO.out, fun a ha h0 j hj e => ?_⟩
                  · refine pairs_fr HX.out HG9.out (fun a n c hv h0 e => ?_)
                    simp only [Value.slice.injEq] at hv
                    have h5 := HNEW.out a hv.1 (by rw [← HO.out]; exact h0)
                    have h6 := (HB.out.all.lt _ e).2
                    omega
                  · have h5 := HNEW.out a ha h0
                    have h7 : a.block < w2.heap.size := by
                      obtain ⟨a8, c8, pb, po, hv, _, hpa, hpc⟩ := HX.out
                      simp only [Value.slice.injEq] at hv
                      have h8 := (hpc 0 (by rw [HO.out]; exact h0)).1
                      have h9 := World.block_lt_of_cell? w2 _ h8
                      rw [ha] at hv
                      have h10 := hpa (by rw [HO.out]; exact h0)
                      rw [← hv.1] at h10
                      cases h10
                      exact h9
                    rcases HN9.out with h8 | h8
                    · rw [h8] at hj
                      have := (HB.out.all.lt _ hj).2
                      omega
                    · have := h8 j hj
                      omega)
                have HF3 : Hid (Fr0 w w3) := Lib.hid (HF2.out.trans HG9.out (fun j hj e => by have := (HALL.out.lt j e).1; omega))
                clear HB HB2 HK HO HX HNEW HO9 HN9 HG9 HALL HLV c0
                generalize al ++ li = al2 at *
                go_roundg (N - (i + 1))
                case measure => omega
                case rel => exact ⟨i + 1, Ax, O, Cx, A9, n6 + M, C9, out, al2, by simp, rfl, rfl, by omega, by omega, by omega, by omega, HB9, HF3⟩
              · obtain ⟨y1, y2⟩ := HNO.out he
                subst y1 y2
                clear HNX HNO he
                go_wp2
                go_roundg (N - (i + 1))
                case measure => omega
                case rel => exact ⟨i + 1, A5, n5, C5, A6, n6, C6, nw, al, by simp, rfl, rfl, by omega, by omega, by omega, by omega, HB2, HF2⟩
          · have hmin := HB.out.kept.length
            rw [HB.out.l5, HB.out.l6] at hmin
            have HAT := Lib.hid (fun i => HB.out.kept.at i)
            have HRIS : Hid (rising nw = true) := Lib.hid ((rising_iff _).2 HB.out.kept.2)
            have HNW := Lib.hid HB.out.now
            have HAL := Lib.hid (pairs_own HB.out.all HB.out.l6.symm)
            have HN5 := Lib.hid HB.out.l5
            have HN6 := Lib.hid HB.out.l6
            have HSN := Lib.hid HB.out.sized
            rw [HN5.out, HN6.out] at HAT
            have hle : n5 ≤ n6 := by omega
            clear HB
            have hmm : (n5 : Int) = if (n6 : Int) < r then (n6 : Int) else r := by split <;> omega
            have zz : ((n5 : Int) != (n5 : Int)) = false := bne_self_eq_false _
            by_cases hm6 : (n6 : Int) < r
            · obtain rfl : n5 = n6 := by rw [if_pos hm6] at hmm; omega
              clear hmm hmin
              go_wp2_with fail
              generalize wr = w5 at *
              go_loopg [10] n5 (fun kx vj wr => ∃ (j : Nat), vj = .int .i64 (j : Int) ∧ j ≤ n5 ∧ n5 - j ≤ kx ∧ Hid (Fr0 w5 wr))
              case atStart => exact ⟨0, rfl, Nat.zero_le _, by omega, Lib.hid (Fr.refl _ _)⟩
              case round =>
                obtain ⟨j, rfl, hj, hkj, HFX⟩ := hrel
                by_cases hjl : j < n5
                · obtain ⟨pb, po, rfl, hpc⟩ := pairs_at HNW.out j (by rw [HN5.out]; exact hjl)
                  obtain ⟨qb, qo, rfl, hqc⟩ := pairs_at HAL.out (j) (by rw [HN6.out]; omega)
                  obtain ⟨p0, p1⟩ := hpc wr HFX.out
                  obtain ⟨q0, q1⟩ := hqc wr HFX.out
                  have hat := HAT.out j
                  rw [Nat.sub_self, Nat.zero_add] at hat
                  rw [← hat] at q0 q1
                  have j1 : (j : Int) < (n5 : Int) := by omega
                  have j2 : 0 ≤ (j : Int) := by omega
                  skip
                  clear hpc hqc hat
                  generalize (nw.getD j (0, 0)).1 = x at *
                  generalize (nw.getD j (0, 0)).2 = y at *
                  have heq := eq_sp_yes x y
                  go_wp2
                  go_quiet (fail)
                  have HF4 := Lib.hid (HFX.out.trans' ((Fr.refl (fun _ => False) wr).drewN nq))
                  generalize wr.drewN nq = w4 at *
                  clear p0 p1 q0 q1 heq
                  go_wp2
                  go_roundg (n5 - (j + 1))
                  case measure => omega
                  case rel => exact ⟨j + 1, by simp, by omega, by omega, HF4⟩
                · have hk := pgood_any _ nw (by have := HN5.out; omega) HSN.out wr (HNW.out.fr0 HFX.out)
                  rw [HRIS.out] at hk
                  go_wp2_with fail
                  refine hk.mono ?_
                  clear hk
                  rintro e w9 ⟨rfl, hF⟩
                  have HF9 := Lib.hid ((HF.out.trans' HFX.out).trans' hF)
                  clear hF
                  go_wp2
                  go_ret
                  exact ⟨rfl, HF9.out⟩
            · obtain rfl : r = (n5 : Int) := by rw [if_neg hm6] at hmm; omega
              clear hmm hmin
              go_wp2_with fail
              generalize wr = w5 at *
              go_loopg [10] n5 (fun kx vj wr => ∃ (j : Nat), vj = .int .i64 (j : Int) ∧ j ≤ n5 ∧ n5 - j ≤ kx ∧ Hid (Fr0 w5 wr))
              case atStart => exact ⟨0, rfl, Nat.zero_le _, by omega, Lib.hid (Fr.refl _ _)⟩
              case round =>
                obtain ⟨j, rfl, hj, hkj, HFX⟩ := hrel
                by_cases hjl : j < n5
                · obtain ⟨pb, po, rfl, hpc⟩ := pairs_at HNW.out j (by rw [HN5.out]; exact hjl)
                  obtain ⟨qb, qo, rfl, hqc⟩ := pairs_at HAL.out (n6 - n5 + j) (by rw [HN6.out]; omega)
                  obtain ⟨p0, p1⟩ := hpc wr HFX.out
                  obtain ⟨q0, q1⟩ := hqc wr HFX.out
                  have hat := HAT.out j
                  skip
                  rw [← hat] at q0 q1
                  have j1 : (j : Int) < (n5 : Int) := by omega
                  have j2 : 0 ≤ (j : Int) := by omega
                  obtain ⟨m, hm⟩ : ∃ m, n6 - n5 + j = m := ⟨_, rfl⟩
                  rw [hm] at q0 q1
                  have j3 : (n6 : Int) - (n5 : Int) + (j : Int) = (m : Int) := by omega
                  have j4 : (m : Int) < (n6 : Int) := by omega
                  have j5 : 0 ≤ (m : Int) := by omega
                  have j6 : (n5 : Int) ≤ (n6 : Int) := by omega
                  clear hm
                  clear hpc hqc hat
                  generalize (nw.getD j (0, 0)).1 = x at *
                  generalize (nw.getD j (0, 0)).2 = y at *
                  have heq := eq_sp_yes x y
                  go_wp2
                  go_quiet (fail)
                  have HF4 := Lib.hid (HFX.out.trans' ((Fr.refl (fun _ => False) wr).drewN nq))
                  generalize wr.drewN nq = w4 at *
                  clear p0 p1 q0 q1 heq
                  go_wp2
                  go_roundg (n5 - (j + 1))
                  case measure => omega
                  case rel => exact ⟨j + 1, by simp, by omega, by omega, HF4⟩
                · have hk := pgood_any _ nw (by have := HN5.out; omega) HSN.out wr (HNW.out.fr0 HFX.out)
                  rw [HRIS.out] at hk
                  go_wp2_with fail
                  refine hk.mono ?_
                  clear hk
                  rintro e w9 ⟨rfl, hF⟩
                  have HF9 := Lib.hid ((HF.out.trans' HFX.out).trans' hF)
                  clear hF
                  go_wp2
                  go_ret
                  exact ⟨rfl, HF9.out⟩
end Go.Proofs.Ytijhabpbdiamiaa.SeriesL
