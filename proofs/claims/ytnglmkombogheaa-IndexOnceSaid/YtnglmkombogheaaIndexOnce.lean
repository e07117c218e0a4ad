/-
  Each key stands in one row; rows of all series together are all that are there; live bytes are their sizes.
-/
import Derived.Test.YtnglmkombogheaaIndexAwake
import Derived.Test.YtnglmkombogheaaIndexActs
import Derived.Test.YtnglmkombogheaaStrMap
import Derived.Test.YtnglmkombogheaaMixS
namespace Go.Proofs.Ytnglmkombogheaa.Index
open Go.RowKit Base
open _root_.Go.Proofs.Ytnglmkombogheaa.Ord (Grown ptr)

theorem zeroB (w : World) : (zeroValue 4).run Try.prog w = .ok (.bool false) w := by kernel_rfl
theorem zeroI (w : World) : (zeroValue 3).run Try.prog w = .ok (.int .i64 0) w := by kernel_rfl
abbrev SeenM (w : World) (b n : Nat) (f : ByteArray → Bool) : Prop := BoolMap Try.prog w 9 4 b n f
abbrev ByM (w : World) (b n : Nat) (f : ByteArray → Int) : Prop := IntMap Try.prog w 9 3 b n f
set_option maxRecDepth 100000 in
set_option maxHeartbeats 16000000 in
theorem indexOnce_walk (v0 : Value) (l : List Ac20) (hl : l.length ≤ 9223372036854775807) (hs : ∀ q ∈ l, SizedAc20 q) (w : World) (hI : Ac20sIs w v0 l) :
    Calls Try.prog 4 #[v0] w fun e w' => e = .returned (.bool true) ∧ Fr0 w w' := by
  obtain ⟨A, cap, pb, po, rfl, _, hA, hC⟩ := hI
  have HC : Hid (∀ w', Fr0 w w' → ∀ (j : Nat) (q : Ac20), l[j]? = some q → Ac20At w' pb (po + j * 7) q) := Lib.hid (fun w' hf j q hq => (hC j q hq).fr hf (fun f => f))
  have HA := Lib.hid hA
  have HPB : Hid (∀ i, i < l.length → pb < w.heap.size) := Lib.hid (fun i hi => World.block_lt_of_cell? w _ (hC i _ (List.getElem?_eq_getElem hi)).h_op)
  have HGET : Hid (∀ i, i < l.length → ∃ q, l[i]? = some q ∧ SizedAc20 q) := Lib.hid (fun i hi => ⟨_, List.getElem?_eq_getElem hi, hs _ (List.getElem_mem hi)⟩)
  have HNX : Hid (∀ i q, l[i]? = some q → runSt (l.take (i + 1)) = actSt (runSt (l.take i)) q) := Lib.hid (fun i q h => run_next l i q h)
  have HR0 : Hid (runSt (l.take 0) = []) := Lib.hid rfl
  have HRE : Hid (runSt (l.take l.length) = runSt l) := Lib.hid (by rw [List.take_length])
  have HRL : Hid ((runSt l).length ≤ l.length) := Lib.hid (run_length l)
  have HROK : Hid (OkX (runSt l)) := Lib.hid (okX_run l)
  clear hA hC hs
  generalize hn : l.length = n at *
  clear hn
  by_cases hbig : 100 < n
  · have b1 : (100 : Int) < (n : Int) := by omega
    go_enter Try.func4, Try.ntmps4
    go_wp2_with fail
    refine (awake_any _).mono ?_
    rintro e w1 ⟨rfl, hF⟩
    have HF := Lib.hid hF
    clear hF
    go_wp2
    go_ret
    exact ⟨rfl, HF.out⟩
  · have b1 : ¬ (100 : Int) < (n : Int) := by omega
    have hmm := @run_makeMap Try.prog
    go_enter Try.func4, Try.ntmps4
    go_wp2_with fail
    refine (awake_any w).mono ?_
    rintro e w1 ⟨rfl, hF⟩
    have HF1 := Lib.hid hF
    clear hF
    go_wp2_with fail
    refine (new_B w1.heap.size w1 w1 (Fr.refl _ _) rfl).mono ?_
    rintro e w2 ⟨g, rfl, hI, hF⟩
    have HI2 := Lib.hid hI
    have HF2 := Lib.hid hF
    clear hI hF
    go_wp2_with fail
    go_loopg [4] n (fun kx vi wr => ∃ i : Nat, vi = .int .i64 (i : Int) ∧ i ≤ n ∧ n - i ≤ kx ∧ Hid (IxB w1.heap.size wr g (runSt (l.take i))) ∧ Hid (Fr0 w1 wr) ∧ Hid (Small (runSt (l.take i))))
    case atStart => exact ⟨0, rfl, Nat.zero_le _, by omega, Lib.hid (by rw [HR0.out]; exact HI2.out), HF2, Lib.hid (by rw [HR0.out]; exact small_nil)⟩
    case round =>
      obtain ⟨i, rfl, hi, hkx, HI, HF, HSM⟩ := hrel
      by_cases hlt : i < n
      · obtain rfl := HA.out (by omega)
        obtain ⟨q, hq, hqs⟩ := HGET.out i hlt
        have hc := HC.out wr (HF1.out.trans' HF.out) i q hq
        obtain ⟨c0, c1, c2, c3, c4, c5, c6⟩ := hc
        have HN := Lib.hid (HNX.out i q hq)
        have hqk := hqs.s_k
        have hqz := hqs.s_s
        have hqn := hqs.s_n
        have i1 : (i : Int) < (n : Int) := by omega
        have i2 : 0 ≤ (i : Int) := by omega
        have HFE := Lib.hid (HF1.out.trans' HF.out)
        clear hq hqs
        by_cases hk5 : 50 < q.k.size
        · have b3 : (50 : Int) < (q.k.size : Int) := by omega
          clear HN HI HF
          go_wp2
          go_ret
          exact ⟨rfl, HFE.out⟩
        · have b3 : ¬ (50 : Int) < (q.k.size : Int) := by omega
          by_cases hk6 : 50 < q.s.size
          · have b4 : (50 : Int) < (q.s.size : Int) := by omega
            clear HN HI HF
            go_wp2
            go_ret
            exact ⟨rfl, HFE.out⟩
          · have b4 : ¬ (50 : Int) < (q.s.size : Int) := by omega
            by_cases hz1 : q.sz < 0
            · clear HN HI HF
              go_wp2
              go_ret
              exact ⟨rfl, HFE.out⟩
            · by_cases hz2 : 1048576 < q.sz
              · clear HN HI HF
                go_wp2
                go_ret
                exact ⟨rfl, HFE.out⟩
              · have HZ : Hid (0 ≤ q.en.sz ∧ q.en.sz ≤ 1048576 ∧ q.en.k.size ≤ 50 ∧ q.en.s.size ≤ 50) := Lib.hid ⟨by show 0 ≤ q.sz; omega, by show q.sz ≤ 1048576; omega, by show q.k.size ≤ 50; omega, by show q.s.size ≤ 50; omega⟩
                by_cases ho : q.op = 0
                · have HADD := Lib.hid (add_B q.en HI.out HF.out rfl hqk hqz)
                  have HACT : Hid (actSt (runSt (l.take i)) q = addSt (runSt (l.take i)) q.en) := Lib.hid (by unfold actSt; rw [if_pos ho])
                  have HSM2 : Hid (Small (runSt (l.take (i + 1)))) := Lib.hid (by rw [HN.out, HACT.out]; exact HSM.out.add HZ.out)
                  rw [show e5 q.en = #[.string q.k, .string q.s, .int .i64 q.id, .int .i64 q.sz, .bool q.u] from rfl] at HADD
                  have o1 : (q.op == 0) = true := by simpa using ho
                  clear ho HI HF HZ HSM
                  go_wp2_with fail
                  refine HADD.out.mono ?_
                  rintro e w3 ⟨rfl, hI, hF⟩
                  have HI3 : Hid (IxB w1.heap.size w3 g (runSt (l.take (i + 1)))) := Lib.hid (by rw [HN.out, HACT.out]; exact hI)
                  have HF3 := Lib.hid hF
                  clear hI hF HADD
                  go_wp2
                  go_roundg (n - (i + 1))
                  case measure => omega
                  case rel => exact ⟨i + 1, by simp, by omega, by omega, HI3, HF3, HSM2⟩
                · have HDR := Lib.hid (drop_B q.n hqn HI.out HF.out rfl)
                  have HACT : Hid (actSt (runSt (l.take i)) q = dropSt (runSt (l.take i)) q.n) := Lib.hid (by unfold actSt; rw [if_neg ho])
                  have HSM2 : Hid (Small (runSt (l.take (i + 1)))) := Lib.hid (by rw [HN.out, HACT.out]; exact HSM.out.drop _)
                  have o1 : (q.op == 0) = false := by simpa using ho
                  clear ho HI HF HZ HSM
                  go_wp2_with fail
                  refine HDR.out.mono ?_
                  rintro e w3 ⟨rfl, hI, hF⟩
                  have HI3 : Hid (IxB w1.heap.size w3 g (runSt (l.take (i + 1)))) := Lib.hid (by rw [HN.out, HACT.out]; exact hI)
                  have HF3 := Lib.hid hF
                  clear hI hF HDR
                  go_wp2
                  go_roundg (n - (i + 1))
                  case measure => omega
                  case rel => exact ⟨i + 1, by simp, by omega, by omega, HI3, HF3, HSM2⟩
      · obtain rfl : i = n := by omega
        rw [HRE.out] at HI HSM
        clear HNX HR0 HRE HI2 HF2
        have hrl := HRL.out
        generalize runSt l = L at *
        have HRW := Lib.hid (fun w' (hI : IxE w1.heap.size wr.heap.size w' g L) => rows_E hI)
        obtain ⟨m, hm⟩ : ∃ m, L.length = m := ⟨_, rfl⟩
        have HM := Lib.hid hm
        rw [hm] at HRW hrl
        have HLT : Hid (∀ j, 0 ≤ liveTo L j ∧ liveTo L j ≤ 104857600) := Lib.hid (fun j => liveTo_le HSM.out j (by omega))
        have HLV := Lib.hid (fun w' (hI : IxE w1.heap.size wr.heap.size w' g L) => live_E (fun x hx => ⟨(HSM.out x hx).1, by have := (HSM.out x hx).2.1; omega⟩) hI)
        have HLA : Hid (liveTo L m = liveX L) := Lib.hid (by rw [← hm]; exact live_all L)
        have HBA : Hid (∀ s, byTo L m s = (((ofX s L).length : Nat) : Int)) := Lib.hid (fun s => by rw [← hm]; exact by_all L s)
        have HROW : Hid (∀ j, j < m → gap (L.getD j zeroE) = false → seenTo L j (L.getD j zeroE).k = false ∧ findX (L.getD j zeroE).k L = j ∧ hasX (L.getD j zeroE).k L = true) := Lib.hid (fun j hj hg => by
          rw [← hm] at hj
          obtain ⟨h1, h2⟩ := HROK.out.find_row hj hg
          exact ⟨seen_new HROK.out hj hg, h1, h2⟩)
        have HISR : Hid (∀ j, j < m → isRow L (j : Int) = !gap (L.getD j zeroE)) := Lib.hid (fun j hj => isRow_nat (by omega))
        have HATN : Hid (∀ j, j < m → gap (L.getD j zeroE) = false → atX L (j : Int) = L.getD j zeroE) := Lib.hid (fun j hj hg => atX_nat (by omega) hg)
        have HLAST : Hid (∀ j, j + 1 = m → gap (L.getD j zeroE) = false) := Lib.hid (fun j hj => HROK.out.last j (by omega))
        have HGZ : Hid (∀ j, gap (L.getD j zeroE) = true → L.getD j zeroE = zeroE) := Lib.hid (fun j hj => HROK.out.zero j hj)
        have HLN : Hid (∀ j, j < m → liveTo L (j + 1) = liveTo L j + (L.getD j zeroE).sz) := Lib.hid (fun j hj => live_next (by omega))
        have HKS : Hid (∀ j, j < m → (L.getD j zeroE).k.size ≤ maxLen ∧ (L.getD j zeroE).s.size ≤ maxLen) := Lib.hid (fun j hj => by
          have h := HSM.out (L.getD j zeroE) (by rw [List.getD_eq_getElem?_getD, List.getElem?_eq_getElem (by omega)]; exact List.getElem_mem _)
          unfold maxLen
          omega)
        clear hm HSM HROK
        have HIm : Hid (IxE w1.heap.size wr.heap.size ((wr.alloc (.map #[] 0)).alloc (.map #[] 0)) g L) := Lib.hid (IxE.fr0 HI.out (((Fr.refl (fun _ => False) wr).alloc _).alloc _))
        have HFm : Hid (Fr0 w1 ((wr.alloc (.map #[] 0)).alloc (.map #[] 0))) := Lib.hid ((HF.out.alloc _).alloc _)
        have HM0 : Hid (SeenM ((wr.alloc (.map #[] 0)).alloc (.map #[] 0)) wr.heap.size 0 (seenTo L 0)) := Lib.hid (by
          have h : SeenM (wr.alloc (.map #[] 0)) wr.heap.size 0 (seenTo L 0) := by rw [seen_zero]; exact FnMap.made wr _ _ _ _
          exact h.fr0 ((Fr.refl (fun _ => False) _).alloc _))
        have HM1 : Hid (ByM ((wr.alloc (.map #[] 0)).alloc (.map #[] 0)) (wr.heap.size + 1) 0 (byTo L 0)) := Lib.hid (by rw [by_zero]; have h := FnMap.made (enc := encI) (wr.alloc (.map #[] 0)) Try.prog 9 3 0; rw [World.size_alloc] at h; exact h)
        have HWS : Hid (w1.heap.size ≤ wr.heap.size) := Lib.hid HF.out.size
        clear HI HF
        go_wp2_with fail
        obtain ⟨eb, heb⟩ : ∃ eb, wr.heap.size = eb := ⟨_, rfl⟩
        rw [heb] at HIm HM0 HM1 HWS HRW HLV ⊢
        generalize (wr.alloc (.map #[] 0)).alloc (.map #[] 0) = w4 at *
        clear heb hmm
        go_loopg [7, 8] m (fun kx vl vi wq => ∃ (r c d : Nat), vi = .int .i64 (r : Int) ∧ vl = .int .i64 (liveTo L r) ∧ r ≤ m ∧ m - r ≤ kx ∧ c ≤ r ∧ d ≤ r ∧ Hid (IxE w1.heap.size eb wq g L) ∧ Hid (Fr0 w1 wq) ∧ Hid (SeenM wq eb c (seenTo L r)) ∧ Hid (ByM wq (eb + 1) d (byTo L r)))
        case atStart => exact ⟨0, 0, 0, rfl, rfl, Nat.zero_le _, by omega, Nat.le_refl _, Nat.le_refl _, HIm, HFm, HM0, HM1⟩
        case round =>
          obtain ⟨r, c, d, rfl, rfl, hr, hrk, hc, hd, HI, HF, HS, HB⟩ := hrel
          have HRR := Lib.hid (HRW.out wr HI.out)
          by_cases hlt2 : r < m
          · have r1 : (r : Int) < (m : Int) := by omega
            have HAT := Lib.hid (at_E (r : Int) (by unfold inI64; omega) HI.out)
            rw [HISR.out r hlt2] at HAT
            obtain ⟨hk1, hk2⟩ := HKS.out r hlt2
            cases hgp : gap (L.getD r zeroE) with
            | true =>
              have hne : ¬ r + 1 = m := fun h => by have := HLAST.out r h; rw [hgp] at this; cases this
              have HLX : Hid (liveTo L (r + 1) = liveTo L r) := Lib.hid (by rw [HLN.out r hlt2, HGZ.out r hgp]; show _ + (0 : Int) = _; omega)
              have HSX : Hid (seenTo L (r + 1) = seenTo L r) := Lib.hid (seen_gap hgp)
              have HBX : Hid (byTo L (r + 1) = byTo L r) := Lib.hid (by_gap hgp)
              rw [hgp, show e5 (atX L (r : Int)) = #[.string (atX L (r : Int)).k, .string (atX L (r : Int)).s, .int .i64 (atX L (r : Int)).id, .int .i64 (atX L (r : Int)).sz, .bool (atX L (r : Int)).u] from rfl] at HAT
              generalize atX L (r : Int) = ex at *
              generalize liveTo L r = lv at *
              have hw1 : wrap64 ((m : Int) - 1) = (m : Int) - 1 := by simp only [wrap64]; omega
              have hne' : ((r : Int) == (m : Int) - 1) = false := by simpa using (show ¬ (r : Int) = (m : Int) - 1 by omega)
              clear hgp hk1 hk2 hne
              go_wp2_with fail
              refine HRR.out.mono ?_
              rintro e w5 ⟨rfl, rfl⟩
              go_wp2_with fail
              refine HAT.out.mono ?_
              rintro e w6 ⟨rfl, hF⟩
              have hFA : Fr0 w5 (w6.alloc (.cells #[.string ex.k, .string ex.s, .int .i64 ex.id, .int .i64 ex.sz, .bool ex.u] 28)) := hF.alloc _
              have HI7 := Lib.hid (IxE.fr0 HI.out hFA)
              have HF7 := Lib.hid (HF.out.trans' hFA)
              have HS7 : Hid (SeenM (w6.alloc (.cells #[.string ex.k, .string ex.s, .int .i64 ex.id, .int .i64 ex.sz, .bool ex.u] 28)) eb c (seenTo L (r + 1))) := Lib.hid (by rw [HSX.out]; exact HS.out.fr0 hFA)
              have HB7 : Hid (ByM (w6.alloc (.cells #[.string ex.k, .string ex.s, .int .i64 ex.id, .int .i64 ex.sz, .bool ex.u] 28)) (eb + 1) d (byTo L (r + 1))) := Lib.hid (by rw [HBX.out]; exact HB.out.fr0 hFA)
              have HRR7 := Lib.hid (HRW.out _ HI7.out)
              clear hF hFA HI HF HS HB HAT HRR
              go_wp2_with fail
              refine HRR7.out.mono ?_
              rintro e w8 ⟨rfl, rfl⟩
              go_wp2
              go_roundg (m - (r + 1))
              case measure => omega
              case rel => exact ⟨r + 1, c, d, by simp, by rw [HLX.out], by omega, by omega, by omega, by omega, HI7, HF7, HS7, HB7⟩
            | false =>
              obtain ⟨hseen, hfx, hhx⟩ := HROW.out r hlt2 hgp
              have HFND := Lib.hid (fun w' (hI : IxE w1.heap.size eb w' g L) => find_E (L.getD r zeroE).k hI)
              have HLX := Lib.hid (HLN.out r hlt2)
              have HSX := Lib.hid (seen_next hgp)
              have HBX := Lib.hid (by_next hgp)
              have hby := by_le L r (L.getD r zeroE).s
              have hl0 := HLT.out r
              have hl1 := HLT.out (r + 1)
              rw [HLX.out] at hl1
              rw [hfx, hhx] at HFND
              rw [hgp, HATN.out r hlt2 hgp] at HAT
              rw [show e5 (L.getD r zeroE) = #[.string (L.getD r zeroE).k, .string (L.getD r zeroE).s, .int .i64 (L.getD r zeroE).id, .int .i64 (L.getD r zeroE).sz, .bool (L.getD r zeroE).u] from rfl] at HAT
              have HSEEN := Lib.hid hseen
              generalize L.getD r zeroE = ex at *
              generalize hLV : liveTo L r = lv at *
              have HLV0 := Lib.hid hLV
              generalize hBY : byTo L r ex.s = by0 at *
              have HBY0 := Lib.hid hBY
              have hw1 : wrap64 (lv + ex.sz) = lv + ex.sz := by simp only [wrap64]; omega
              have hw2 : wrap64 (by0 + 1) = by0 + 1 := by simp only [wrap64]; omega
              clear hgp hseen hfx hhx hLV hBY hl0 hl1
              go_wp2_with fail
              refine HRR.out.mono ?_
              rintro e w5 ⟨rfl, rfl⟩
              go_wp2_with fail
              refine HAT.out.mono ?_
              rintro e w6 ⟨rfl, hF⟩
              have hFA : Fr0 w5 (w6.alloc (.cells #[.string ex.k, .string ex.s, .int .i64 ex.id, .int .i64 ex.sz, .bool ex.u] 28)) := hF.alloc _
              have HI7 := Lib.hid (IxE.fr0 HI.out hFA)
              have HF7 := Lib.hid (HF.out.trans' hFA)
              have HS7 := Lib.hid (HS.out.fr0 hFA)
              have HB7 := Lib.hid (HB.out.fr0 hFA)
              have HX7 : Hid ((w6.alloc (.cells #[.string ex.k, .string ex.s, .int .i64 ex.id, .int .i64 ex.sz, .bool ex.u] 28)).heap[w6.heap.size]? = some (.cells #[.string ex.k, .string ex.s, .int .i64 ex.id, .int .i64 ex.sz, .bool ex.u] 28 (0, 0))) := Lib.hid (heap_alloc_new w6 _)
              clear hF hFA HI HF HS HB HAT HRR
              go_wp2_with fail
              obtain ⟨xb, hxb⟩ : ∃ xb, w6.heap.size = xb := ⟨_, rfl⟩
              rw [hxb] at HX7 ⊢
              generalize w6.alloc (.cells #[.string ex.k, .string ex.s, .int .i64 ex.id, .int .i64 ex.sz, .bool ex.u] 28) = w7 at *
              clear hxb
              refine (HFND.out w7 HI7.out).mono ?_
              rintro e w8 ⟨rfl, hF⟩
              have HI8 := Lib.hid (IxE.fr0 HI7.out hF)
              have HF8 := Lib.hid (HF7.out.trans' hF)
              have HS8 := Lib.hid (HS7.out.fr0 hF)
              have HB8 := Lib.hid (HB7.out.fr0 hF)
              have HX8 := Lib.hid (hF.heap HX7.out (fun f => f))
              have k0 : w8.cell? ⟨xb, 0, none⟩ = some (.string ex.k) := by rw [cell_of_row _ _ _ _ _ _ HX8.out]; rfl
              have hlk := BoolMap.at HS8.out Try.underlying9 Try.underlying40 Try.underlying4 (zeroB _) ex.k hk1
              rw [HSEEN.out] at hlk
              clear hF HI7 HF7 HS7 HB7 HX7 HFND HSEEN
              have HE1 : Hid (eb ≠ eb + 1) := Lib.hid (by omega)
              go_wp2_with (at_mapUpdate; (first
                | (refine wpList_put_fn (enc := encB) rfl _ _ _ 40 rfl 9 4 Try.underlying9 Try.underlying40 false eb c (seenTo L r) rfl HS8.out (by unfold maxLen; omega) ex.k hk1 true (.bool true) rfl rfl (plainElem_bool Try.underlying4 true) ?_; intro w9 hS9 hg9; have HF89 : Hid (Fr (fun q => q = eb) w8 w9) := Lib.hid (Fr.of_grown (S := fun q => q = eb) hg9 (fun q _ e => by cases e; rfl)); have HS9 := Lib.hid hS9; have HX9 := Lib.hid (HF89.out.heap HX8.out (fun e => HS8.out.cells HX8.out e)); have HB9 := Lib.hid (HB8.out.fr HF89.out (fun e => HE1.out e.symm)); have k1 : w9.cell? ⟨xb, 1, none⟩ = some (.string ex.s) := (by rw [cell_of_row _ _ _ _ _ _ HX9.out]; rfl); have hlk2 := IntMap.at HB9.out Try.underlying9 Try.underlying41 Try.underlying3 (zeroI _) ex.s hk2; rw [HBY0.out] at hlk2; clear hS9 hg9 k0 hlk)
                | (refine wpList_put_fn (enc := encI) rfl _ _ _ 41 rfl 9 3 Try.underlying9 Try.underlying41 0 (eb + 1) d (byTo L r) rfl HB9.out (by unfold maxLen; omega) ex.s hk2 (by0 + 1) (.int .i64 (by0 + 1)) rfl rfl (plainElem_int Try.underlying3 (WalkArith.wf_i64 (by omega))) ?_; intro w10 hB10 hg10; have HF90 : Hid (Fr (fun q => q = eb + 1) w9 w10) := Lib.hid (Fr.of_grown (S := fun q => q = eb + 1) hg10 (fun q _ e => by cases e; rfl)); have HB10 := Lib.hid hB10; have HX10 := Lib.hid (HF90.out.heap HX9.out (fun e => HB9.out.cells HX9.out e)); have HS10 := Lib.hid (HS9.out.fr HF90.out HE1.out); have k3 : w10.cell? ⟨xb, 3, none⟩ = some (.int .i64 ex.sz) := (by rw [cell_of_row _ _ _ _ _ _ HX10.out]; rfl); clear hB10 hg10 k1 hlk2)))
              have HI10 : Hid (IxE w1.heap.size eb w10 g L) := Lib.hid (IxE.turn (IxE.turn HI8.out HF89.out (Nat.le_refl _)) HF90.out (Nat.le_succ _))
              have HF10 : Hid (Fr0 w1 w10) := Lib.hid (Fr.trans (Fr.trans HF8.out HF89.out (fun i hi e => by have e' : i = eb := e; have := HWS.out; omega)) HF90.out (fun i hi e => by have e' : i = eb + 1 := e; have := HWS.out; omega))
              have HS11 : Hid (SeenM w10 eb (c + 1) (seenTo L (r + 1))) := Lib.hid (by rw [HSX.out]; exact HS10.out)
              have HB11 : Hid (ByM w10 (eb + 1) (d + 1) (byTo L (r + 1))) := Lib.hid (by rw [HBX.out]; exact HB10.out)
              go_roundg (m - (r + 1))
              case measure => omega
              case rel => exact ⟨r + 1, c + 1, d + 1, by simp, by rw [HLX.out, hw1], by omega, by omega, by omega, by omega, HI10, HF10, HS11, HB11⟩
          · obtain rfl : r = m := by omega
            have r1 : ¬ (r : Int) < (r : Int) := by omega
            have HOF := Lib.hid (fun w' s (hI : IxE w1.heap.size eb w' g L) => of_E s hI)
            have HIL := Lib.hid (HLV.out)
            have HFEND := Lib.hid (HF1.out.trans' HF.out)
            clear HLN HLAST HROW HISR HATN HGZ HKS HLT HM0 HM1 HIm HFm HS
            go_wp2_with fail
            refine HRR.out.mono ?_
            rintro e w5 ⟨rfl, rfl⟩
            clear HRR HRW
            go_wp2_with fail
            go_loopg [13] i (fun kx vi wq => ∃ j : Nat, vi = .int .i64 (j : Int) ∧ j ≤ i ∧ i - j ≤ kx ∧ Hid (IxE w1.heap.size eb wq g L) ∧ Hid (Fr0 w5 wq) ∧ Hid (ByM wq (eb + 1) d (byTo L r)))
            case atStart => exact ⟨0, rfl, Nat.zero_le _, by omega, HI, Lib.hid (Fr.refl _ _), HB⟩
            case round =>
              clear HI HB
              obtain ⟨j, rfl, hj, hjk, HI, HFq, HB⟩ := hrel
              by_cases hlt3 : j < i
              · obtain rfl := HA.out (by omega)
                obtain ⟨q, hq, hqs⟩ := HGET.out j hlt3
                have HCQ := Lib.hid (fun w' (hf : Fr0 w w') => (HC.out w' hf j q hq).h_s)
                have hqk : q.s.size ≤ maxLen := by have := hqs.s_s; unfold maxLen; omega
                have HBS := Lib.hid (HBA.out q.s)
                have i1 : (j : Int) < (i : Int) := by omega
                have i2 : 0 ≤ (j : Int) := by omega
                clear hq hqs
                have HOQ := Lib.hid (fun w' (hI : IxE w1.heap.size eb w' g L) => of_E q.s hI)
                have HBM := Lib.hid (fun w' (h : ByM w' (eb + 1) d (byTo L r)) => IntMap.at h Try.underlying9 Try.underlying41 Try.underlying3 (zeroI _) q.s hqk)
                rw [HBS.out] at HBM
                generalize (ofX q.s L).length = zz at *
                have z1 : ((zz : Int) != (zz : Int)) = false := by simp
                clear HBS hqk
                go_wp2_with fail
                refine Mix.law (fun X => X.cell? ⟨pb, po + j * 7 + 3, none⟩ = some (.string q.s) ∧ (Instr.lookup 41 (.map (some (eb + 1))) (.string q.s) false).run Try.prog X = .ok (.int .i64 (zz : Int)) X) [(.sure, 0), (.sure, 1), (.sure, 2), (.sure, 3), (.sure, 4), (.sure, 5), (.sure, 6), (.sure, 9), (.sure, 10), (.sure, 11), (.sure, 12), (.sure, 13), (.sure, 14), (.sure, 15), (.sure, 16), (.turn, 7), (.sure, 8), (.sure, 17)] (by kernel_rfl) (by kernel_rfl) ⟨HCQ.out _ ((HFEND.out.trans' HFq.out).drew), HBM.out _ (HB.out.fr0 ((Fr.refl _ _).drew))⟩ ?_
                simp only [List.map_cons, List.map_nil, Mix.nth_zero, Mix.nth_succ]
                have HID := Lib.hid (IxE.fr0 HI.out ((Fr.refl (fun _ => False) wr).drew))
                have HFD := Lib.hid (HFq.out.trans' ((Fr.refl (fun _ => False) wr).drew))
                have HBD := Lib.hid (HB.out.fr0 ((Fr.refl (fun _ => False) wr).drew))
                generalize wr.drew = wd at *
                clear HI HFq HB
                repeat (first
                  | ((with_reducible refine Mix.go_skipS ?_ ?_); (focus (first | exact Mix.wanted_no rfl rfl rfl rfl | exact Mix.wanted_void rfl rfl rfl)); go_frame)
                  | ((with_reducible refine Mix.go_skipL ?_ ?_); (focus (first | exact Mix.wanted_no rfl rfl rfl rfl | exact Mix.wanted_void rfl rfl rfl)); go_frame)
                  | (refine Mix.go_move (by first | exact Mix.wanted_none rfl | exact Mix.wanted_yes rfl rfl rfl) _ rfl _ (by first | (go_simp; done) | (go_simp; rfl)) ?_; go_frame)
                  | (refine Mix.go_assign (by first | exact Mix.wanted_none rfl | exact Mix.wanted_yes rfl rfl rfl) _ rfl _ (by first | (go_simp; done) | (go_simp; rfl)) ?_; go_frame)
                  | (refine Mix.go_sureW (by first | exact Mix.wanted_none rfl | exact Mix.wanted_yes rfl rfl rfl) _ (by rfl) (by rfl) _ (fun w' ⟨hC1, hC2⟩ => by go_wp2_with fail; refine Mix.stays ?_; go_frame; rfl) ?_; go_frame)
                  | (refine Mix.go_lookW (by first | exact Mix.wanted_none rfl | exact Mix.wanted_yes rfl rfl rfl) _ (by rfl) (by rfl) _ (by go_wp2_with fail; refine Mix.stays ?_; go_frame; rfl) ?_; go_frame))
                refine Mix.go_turn ?_
                go_wp2_with fail
                refine (HOQ.out wd HID.out).mono ?_
                rintro e we ⟨A2, C2, rfl, hF⟩
                have HIE := Lib.hid (IxE.fr0 HID.out hF)
                have HFE2 := Lib.hid (HFD.out.trans' hF)
                have HBE := Lib.hid (HBD.out.fr0 hF)
                clear hF HID HFD HBD HOQ
                go_wp2
                refine Mix.then_go ⟨HCQ.out _ (HFEND.out.trans' HFE2.out), HBM.out _ HBE.out⟩ ?_
                repeat (first
                  | ((with_reducible refine Mix.go_skipS ?_ ?_); (focus (first | exact Mix.wanted_no rfl rfl rfl rfl | exact Mix.wanted_void rfl rfl rfl)); go_frame)
                  | ((with_reducible refine Mix.go_skipL ?_ ?_); (focus (first | exact Mix.wanted_no rfl rfl rfl rfl | exact Mix.wanted_void rfl rfl rfl)); go_frame)
                  | (refine Mix.go_move (by first | exact Mix.wanted_none rfl | exact Mix.wanted_yes rfl rfl rfl) _ rfl _ (by first | (go_simp; done) | (go_simp; rfl)) ?_; go_frame)
                  | (refine Mix.go_assign (by first | exact Mix.wanted_none rfl | exact Mix.wanted_yes rfl rfl rfl) _ rfl _ (by first | (go_simp; done) | (go_simp; rfl)) ?_; go_frame)
                  | (refine Mix.go_sureW (by first | exact Mix.wanted_none rfl | exact Mix.wanted_yes rfl rfl rfl) _ (by rfl) (by rfl) _ (fun w' ⟨hC1, hC2⟩ => by go_wp2_with fail; refine Mix.stays ?_; go_frame; rfl) ?_; go_frame)
                  | (refine Mix.go_lookW (by first | exact Mix.wanted_none rfl | exact Mix.wanted_yes rfl rfl rfl) _ (by rfl) (by rfl) _ (by go_wp2_with fail; refine Mix.stays ?_; go_frame; rfl) ?_; go_frame))
                refine Mix.go_end ?_
                go_wp2
                go_roundg (i - (j + 1))
                case measure => omega
                case rel => exact ⟨j + 1, by simp, by omega, by omega, HIE, HFE2, HBE⟩
              · obtain rfl : j = i := by omega
                have HLL := Lib.hid (HIL.out wr HI.out)
                go_wp2_with fail
                refine HLL.out.mono ?_
                rintro e w9 ⟨rfl, hF⟩
                have HFE := Lib.hid ((HFEND.out.trans' HFq.out).trans' hF)
                clear hF HLL
                have heq : (liveX L == liveTo L r) = true := by rw [HLA.out]; simp
                go_wp2
                go_ret
                exact ⟨rfl, HFE.out⟩
end Go.Proofs.Ytnglmkombogheaa.Index
