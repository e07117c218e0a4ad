/-
  The program's store: an ord of lists of samples; its blocks told, so that two may stand side by side.
-/
import Derived.Test.YtbbmjkligiglmaaStoreBase
import Derived.Test.YtbbmjkligiglmaaStoreRef
import Derived.Test.YtbbmjkligiglmaaStorePush
import Derived.Test.YtbbmjkligiglmaaStoreLawK
import Derived.Test.YtbbmjkligiglmaaLawS
import Derived.Test.YtbbmjkligiglmaaAggGo
import Derived.Test.YtbbmjkligiglmaaSerGo
import Derived.Test.YtbbmjkligiglmaaOrdInSer
namespace Go.Proofs.Ytbbmjkligiglmaa.Store
open Go.RowKit Base _root_.Go.Proofs.Ytbbmjkligiglmaa.Tenant _root_.Go.Proofs.Ytbbmjkligiglmaa.Series _root_.Go.Proofs.Ytbbmjkligiglmaa.Agg
open _root_.Go.Proofs.Ytbbmjkligiglmaa.Ord (Ent place has put Sorted ptr FrO Mine Grown OrdIn held find_ser get_ser_none get_ser_some len_ser at_ser_some names_ser new_ser_in put_ser_there_in put_ser_new_in)

/-- the program's store lies at g, its ord at o; all its blocks are in O -/
structure PIn (O : Nat → Prop) (w : World) (g o : Nat) (most retain : Int) (es : List Ent) (ss : List SE) : Prop where
  row : w.heap[g]? = some (.cells #[.int .i64 most, .int .i64 retain, ptr o] 64 (0, 0))
  hg : O g
  ord : OrdIn O w 83 88 87 o (held most) es
  kept : Kept w 30 es ss
  lies : Lies O es
section
variable {O : Nat → Prop} {w : World} {g o : Nat} {most retain : Int} {es : List Ent} {ss : List SE}
theorem PIn.lt (h : PIn O w g o most retain es ss) : g < w.heap.size := (Array.getElem?_eq_some_iff.1 h.row).1
theorem PIn.mono {O' : Nat → Prop} (h : PIn O w g o most retain es ss) (ho : ∀ k, O k → O' k) : PIn O' w g o most retain es ss :=
  ⟨h.row, ho _ h.hg, h.ord.mono ho, h.kept, fun e he a n c hv h0 => ho _ (h.lies e he a n c hv h0)⟩
theorem PIn.fr {S : Nat → Prop} {w' : World} (h : PIn O w g o most retain es ss) (hf : Fr S w w') (hS : ∀ k, k < w.heap.size → O k → ¬ S k) : PIn O w' g o most retain es ss :=
  ⟨hf.heap h.row (hS g h.lt h.hg), h.hg, h.ord.fr hf hS, h.kept.frB h.lies hf hS, h.lies⟩
theorem PIn.fr0 {w' : World} (h : PIn O w g o most retain es ss) (hf : Fr0 w w') : PIn O w' g o most retain es ss := h.fr hf fun _ _ _ f => f
theorem PIn.c0 (h : PIn O w g o most retain es ss) : w.cell? ⟨g, 0, none⟩ = some (.int .i64 most) := by rw [cell_of_row _ _ _ _ _ _ h.row]; rfl
theorem PIn.c1 (h : PIn O w g o most retain es ss) : w.cell? ⟨g, 1, none⟩ = some (.int .i64 retain) := by rw [cell_of_row _ _ _ _ _ _ h.row]; rfl
theorem PIn.c2 (h : PIn O w g o most retain es ss) : w.cell? ⟨g, 2, none⟩ = some (ptr o) := by rw [cell_of_row _ _ _ _ _ _ h.row]; rfl
/-- a name's list is put in: there or not -/
theorem PIn.put {O4 : Nat → Prop} {w3 w4 : World} {nm : ByteArray} {l : List Sm} {v : Value} (h : PIn O w g o most retain es ss) (hf : Fr0 w w3) (hv : PairsT w3 30 v l) (hn : ∀ a n c, v = .slice (some a) n c → 0 < l.length → w.heap.size ≤ a.block)
    (hO : OrdIn O4 w4 83 88 87 o (held most) (put nm v es)) (hO4 : ∀ k, O4 k → Grown O w w4 k) (hFo : Fr O w3 w4) (hFt : FrO 0 83 88 87 w3 w4) :
    PIn (Grown O w w4) w4 g o most retain (put nm v es) (putS nm l ss) ∧ Fr O w w4 := by
  have hS : ∀ k cs fr, w3.heap[k]? = some (.cells cs 30 fr) → ¬ Mine w3 0 83 88 87 k := fun k cs fr hk ⟨_, cs', t', fr', hx, ht⟩ => by
    rw [hk] at hx
    cases hx
    exact absurd ht (by decide)
  have hv4 := hv.fr hFt hS
  refine ⟨⟨hFt.cells (hf.heap h.row (fun f => f)) ⟨by decide, by decide, by decide⟩, .inl h.hg, hO.mono hO4, ((h.kept.fr0 hf).fr hFt hS).put nm hv4, fun e he a n c hev h0 => ?_⟩, Fr.trans hf.zero hFo (fun _ _ e => e)⟩
  rcases Ord.mem_put he with rfl | he
  · have hev' : v = .slice (some a) n c := hev
    obtain ⟨a', c', hv'⟩ := pairs_form hv.is
    have hl : 0 < l.length := by
      rw [hev'] at hv'
      simp only [Value.slice.injEq] at hv'
      omega
    exact .inr ⟨hn a n c hev' hl, hv4.lt a n c hev' hl⟩
  · exact .inl (h.lies e he a n c hev h0)
end
/-- the program's store lies at g, its blocks in O -/
def PAt (O : Nat → Prop) (w : World) (g : Nat) (most retain : Int) (ss : List SE) : Prop := OkS most retain ss ∧ ∃ o es, PIn O w g o most retain es ss
section
variable {O : Nat → Prop} {w : World} {g : Nat} {most retain : Int} {ss : List SE}
theorem PAt.ok (h : PAt O w g most retain ss) : OkS most retain ss := h.1
theorem PAt.hg (h : PAt O w g most retain ss) : O g ∧ g < w.heap.size := by
  obtain ⟨_, o, es, h⟩ := h
  exact ⟨h.hg, h.lt⟩
theorem PAt.mono {O' : Nat → Prop} (h : PAt O w g most retain ss) (ho : ∀ k, O k → O' k) : PAt O' w g most retain ss := by
  obtain ⟨h1, o, es, h⟩ := h
  exact ⟨h1, o, es, h.mono ho⟩
theorem PAt.fr {S : Nat → Prop} {w' : World} (h : PAt O w g most retain ss) (hf : Fr S w w') (hS : ∀ k, k < w.heap.size → O k → ¬ S k) : PAt O w' g most retain ss := by
  obtain ⟨h1, o, es, h⟩ := h
  exact ⟨h1, o, es, h.fr hf hS⟩
theorem held_of {m : Int} (h : 1 ≤ m ∧ m ≤ 16) : ((held m : Nat) : Int) = m := by rw [Ord.held_int]; omega
theorem pnew_ok (most retain : Int) (w : World) (h1 : 1 ≤ most ∧ most ≤ 16) (h2 : 1 ≤ retain ∧ retain ≤ 64) :
    Calls Try.prog 8 #[.int .i64 most, .int .i64 retain] w fun e w' => ∃ g, e = .returned (.tuple #[ptr g, .int .i64 0]) ∧ PAt (fun k => w.heap.size ≤ k ∧ k < w'.heap.size) w' g most retain [] ∧ Fr0 w w' := by
  have a1 : ¬ most < 1 := by omega
  have a2 : ¬ 16 < most := by omega
  have a3 : ¬ retain < 1 := by omega
  have a4 : ¬ 64 < retain := by omega
  have HNEW := Lib.hid (fun w => new_ser_in most w)
  have HOK := Lib.hid (okS_nil h1 h2)
  generalize hPT : (fun (e : Ending) (w' : World) => ∃ g, e = .returned (.tuple #[ptr g, .int .i64 0]) ∧ PAt (fun k => w.heap.size ≤ k ∧ k < w'.heap.size) w' g most retain [] ∧ Fr0 w w') = post
  have HP : Hid (∀ w1 o, OrdIn (fun k => w.heap.size ≤ k ∧ k < w1.heap.size) w1 83 88 87 o (held most) [] → Fr0 w w1 → post (.returned (.tuple #[.pointer (some ⟨w1.heap.size, 0, none⟩), .int .i64 0])) (w1.alloc (.cells #[.int .i64 most, .int .i64 retain, .pointer (some ⟨o, 0, none⟩)] 64))) := Lib.hid (fun w1 o hO hF => by
    rw [← hPT]
    have hs := hF.size
    have hF1 : Fr0 w1 (w1.alloc (.cells #[.int .i64 most, .int .i64 retain, ptr o] 64)) := (Fr.refl _ _).alloc _
    refine ⟨_, rfl, ⟨HOK.out, o, [], heap_alloc_new w1 _, ⟨hs, by simp⟩, (hO.fr0 hF1).mono (fun k hk => ⟨hk.1, Nat.lt_of_lt_of_le hk.2 hF1.size⟩), Kept.nil _ _, fun e he => by cases he⟩, hF.trans' hF1⟩)
  clear hPT h1 h2
  unfold ptr at HNEW
  go_enter Try.func8, Try.ntmps8
  go_wp2_with fail
  refine (HNEW.out _).mono ?_
  rintro e w1 ⟨o, rfl, -, hO, hF⟩
  have HE := Lib.hid (HP.out w1 o hO hF)
  clear HP HNEW hO hF
  go_wp2
  exact HE.out
theorem pnew_bad (most retain : Int) (w : World) (hm : inI64 most) (hr : inI64 retain) (h : ¬ ((1 ≤ most ∧ most ≤ 16) ∧ (1 ≤ retain ∧ retain ≤ 64))) :
    Calls Try.prog 8 #[.int .i64 most, .int .i64 retain] w fun e w' => e = .returned (.tuple #[.pointer none, .int .i64 1]) ∧ Fr0 w w' := by
  have HF := Lib.hid (Fr.refl (fun _ => False) w)
  by_cases a1 : most < 1
  · clear h hm hr
    go_enter Try.func8, Try.ntmps8
    go_wp2
    go_ret2
    exact ⟨rfl, HF.out⟩
  · by_cases a2 : 16 < most
    · clear h hm hr
      go_enter Try.func8, Try.ntmps8
      go_wp2
      go_ret2
      exact ⟨rfl, HF.out⟩
    · by_cases a3 : retain < 1
      · clear h hm hr
        go_enter Try.func8, Try.ntmps8
        go_wp2
        go_ret2
        exact ⟨rfl, HF.out⟩
      · have a4 : 64 < retain := by omega
        clear h hm hr
        go_enter Try.func8, Try.ntmps8
        go_wp2
        go_ret2
        exact ⟨rfl, HF.out⟩
def PPushPost (O : Nat → Prop) (g : Nat) (most retain : Int) (nm : ByteArray) (l : List Sm) (ss : List SE) (w : World) (e : Ending) (w' : World) : Prop :=
  e = .returned (.int .i64 (pushErr most retain nm l ss)) ∧ Fr O w w' ∧ PAt (Grown O w w') w' g most retain (pushSt most retain nm l ss)
/-- it is refused: nothing has changed -/
theorem PPushPost.no {O : Nat → Prop} {g : Nat} {most retain : Int} {nm : ByteArray} {l : List Sm} {ss : List SE} {w w' : World} {r : Int} (hf : Fr0 w w') (h : PAt O w g most retain ss) (hp : pushErr most retain nm l ss = r ∧ pushSt most retain nm l ss = ss) : PPushPost O g most retain nm l ss w (.returned (.int .i64 r)) w' :=
  ⟨by rw [hp.1], hf.zero, by rw [hp.2]; exact (h.fr hf (fun _ _ _ f => f)).mono (fun _ hk => .inl hk)⟩
set_option maxRecDepth 100000 in
set_option maxHeartbeats 4000000 in
theorem ppush_is (O : Nat → Prop) (g : Nat) (most retain : Int) (ss : List SE) (nm : ByteArray) (l : List Sm) (u : Value) (w : World) (h : PAt O w g most retain ss) (hn : nm.size ≤ 140737488351232) (hl : l.length ≤ 1000000) (hs : SizedS l) (hu : PairsIs w u l) :
    Calls Try.prog 9 #[ptr g, .string nm, u] w (PPushPost O g most retain nm l ss w) := by
  have HPAT := Lib.hid h
  obtain ⟨ho, o, es, hp⟩ := h
  have hk := hp.kept
  have hpl := hk.place nm
  have hph := hk.has nm
  obtain ⟨hw1, hw2, -⟩ := ho.was nm
  have hw3 : (wasS nm ss).length ≤ 64 := by have := ho.hr; omega
  have hrr : -9223372036854775808 ≤ retain ∧ retain ≤ 9223372036854775807 := by have := ho.hr; omega
  have HH := Lib.hid hp
  have c0 := hp.c0
  have c1 := hp.c1
  have c2 := hp.c2
  have HNO := Lib.hid (fun (w' : World) (r : Int) (hf : Fr0 w w') (hq : pushErr most retain nm l ss = r ∧ pushSt most retain nm l ss = ss) => PPushPost.no hf HPAT.out hq)
  have HOKP := Lib.hid (ho.push nm l hs)
  have HHELD : Hid (((held most : Nat) : Int) = most) := Lib.hid (held_of ho.hm)
  cases hh : hasS nm ss with
  | true =>
    obtain ⟨a, c, hv, hpt, hlt⟩ := hk.got hh
    have HGET := Lib.hid (get_ser_some 0 o (held most) es nm _ w hp.ord.at (by rw [hpl]; exact hv))
    have HADD := Lib.hid (fun w' (hf : Fr0 w w') => padd_typ _ u _ l retain (by omega) hl hw2 hs hrr w' (hpt.fr0 hf).is (pairs_fr hu hf (fun _ _ _ _ _ f => f)))
    have HORD := Lib.hid (fun h2 => push_order (most := most) (retain := retain) (nm := nm) (l := l) (ss := ss) (fun h => by rw [hh] at h; cases h.1) h2)
    have HPUT := Lib.hid (fun (w3 : World) (hf : Fr0 w w3) A N C => put_ser_there_in O o (held most) es nm A N C w3 (hp.ord.fr0 hf) (by rw [hph]; exact hh))
    have HYES : Hid (addErr (wasS nm ss) l retain = 0 → ∀ w3 v w4, Fr0 w w3 → PairsT w3 30 v (addOut (wasS nm ss) l retain) → (∀ a n c, v = .slice (some a) n c → 0 < (addOut (wasS nm ss) l retain).length → w.heap.size ≤ a.block) → OrdIn O w4 83 88 87 o (held most) (put nm v es) → Fr O w3 w4 → FrO 0 83 88 87 w3 w4 → PPushPost O g most retain nm l ss w (.returned (.int .i64 0)) w4) := Lib.hid (fun h3 w3 v w4 hf hpv hnv hO hFo hFt => by
      have hq := push_ok (most := most) (retain := retain) (nm := nm) (l := l) (ss := ss) (fun h => by rw [hh] at h; cases h.1) h3
      obtain ⟨h5, h6⟩ := hp.put hf hpv hnv hO (fun k hk => .inl hk) hFo hFt
      exact ⟨by rw [hq.1], h6, HOKP.out, o, _, by rw [hq.2]; exact h5⟩)
    clear hph hpl hw1 hw2 hk hp ho hv hpt hu hrr HOKP HHELD HPAT
    generalize hWA : wasS nm ss = was at *
    clear hWA
    generalize hER : addErr was l retain = er at *
    generalize hOUT : addOut was l retain = out at *
    have HER := Lib.hid hER
    have HOUT := Lib.hid hOUT
    clear hER hOUT
    unfold AddTyp at HADD
    simp only [HER.out, HOUT.out] at HADD
    clear hw3 hl HER HOUT hs hlt
    generalize was.length = wl at *
    unfold ptr at *
    go_enter Try.func9, Try.ntmps9
    go_wp2_with fail
    refine HGET.out.mono ?_
    rintro e w ⟨rfl, rfl⟩
    go_wp2
    go_quiet (fail)
    have HFQ : Hid (Fr0 w (w.drewN nq)) := Lib.hid ((Fr.refl _ _).drewN nq)
    have hgl := World.block_lt_of_cell? w _ c2
    have q1 := (HFQ.out.cell (p := ⟨g, 1, none⟩) hgl (fun f => f)).trans c1
    have HC2 := Lib.hid c2
    clear c0 c1 c2 HGET
    generalize w.drewN nq = wq at *
    go_wp2_with fail
    refine (HADD.out _ HFQ.out).mono ?_
    rintro e w3 ⟨v, rfl, hP3, hF3, hN3, hT3⟩
    have HF3 := Lib.hid (HFQ.out.trans' hF3)
    obtain ⟨NA, NC, rfl⟩ := pairs_form hP3
    have HP3 : Hid (PairsT w3 30 (.slice NA out.length NC) out) := Lib.hid ⟨hP3, hT3⟩
    have c2 := (HF3.out.cell hgl (fun f => f)).trans HC2.out
    have HN3 : Hid (∀ a n c, Value.slice NA out.length NC = .slice (some a) n c → 0 < out.length → w.heap.size ≤ a.block) := Lib.hid (fun a n c hv h0 => Nat.le_trans HFQ.out.size (hN3 a n c hv h0))
    clear q1 hP3 hF3 hT3 hN3 HADD
    by_cases hz : er = 0
    · subst hz
      have HP := Lib.hid (fun w4 => HYES.out rfl w3 _ w4 HF3.out HP3.out HN3.out)
      have HQ := Lib.hid (HPUT.out w3 HF3.out NA out.length NC)
      clear HYES HORD HNO HH HN3 HPUT HP3
      generalize out.length = ol at *
      go_wp2_with fail
      refine HQ.out.mono ?_
      rintro e w4 ⟨rfl, hO4, hFo, hFt⟩
      have HE := Lib.hid (HP.out w4 hO4 hFo hFt)
      clear HP HQ hO4 hFo hFt c2
      go_wp2
      go_ret
      exact HE.out
    · have HE := Lib.hid (HNO.out w3 5 HF3.out (HORD.out hz))
      clear HYES HORD HNO HH HN3 HPUT HP3
      generalize out.length = ol at *
      go_wp2
      go_ret
      exact HE.out
  | false =>
    have hls : (es.length : Int) = (ss.length : Int) := by rw [hk.length]
    have HGET := Lib.hid (get_ser_none 0 o (held most) es nm w hp.ord.at (by rw [hph]; exact hh))
    have HLEN := Lib.hid (fun n => len_ser 0 o (held most) es (w.drewN n) (hp.ord.fr0 ((Fr.refl _ _).drewN n)).at)
    have HADD := Lib.hid (fun w' (hf : Fr0 w w') => padd_typ (.slice none 0 0) u [] l retain (by simp) hl sized_nil hs hrr w' (pairs_nil w') (pairs_fr hu hf (fun _ _ _ _ _ f => f)))
    have HFULL := Lib.hid (fun h2 => push_full (most := most) (retain := retain) (nm := nm) (l := l) (ss := ss) hh h2)
    have HORD := Lib.hid (fun (h1 : ¬ most ≤ (es.length : Int)) h2 => push_order (most := most) (retain := retain) (nm := nm) (l := l) (ss := ss) (fun h => h1 (by rw [hls]; exact h.2)) h2)
    have HPUT := Lib.hid (fun (h1 : ¬ most ≤ (es.length : Int)) (w3 : World) (hf : Fr0 w w3) A N C => put_ser_new_in O o (held most) es nm A N C w3 (hp.ord.fr0 hf) (by rw [hph]; exact hh) (by have := HHELD.out; omega) hn)
    have HYES : Hid (¬ most ≤ (es.length : Int) → addErr [] l retain = 0 → ∀ w3 v w4, Fr0 w w3 → PairsT w3 30 v (addOut [] l retain) → (∀ a n c, v = .slice (some a) n c → 0 < (addOut [] l retain).length → w.heap.size ≤ a.block) → OrdIn (Grown O w3 w4) w4 83 88 87 o (held most) (put nm v es) → Fr O w3 w4 → FrO 0 83 88 87 w3 w4 → PPushPost O g most retain nm l ss w (.returned (.int .i64 0)) w4) := Lib.hid (fun h1 h3 w3 v w4 hf hpv hnv hO hFo hFt => by
      have hq := push_ok (most := most) (retain := retain) (nm := nm) (l := l) (ss := ss) (fun h => h1 (by rw [hls]; exact h.2)) (by rw [was_none hh]; exact h3)
      obtain ⟨h5, h6⟩ := hp.put hf hpv hnv hO (fun k hk => hk.imp_right (fun hk => ⟨Nat.le_trans hf.size hk.1, hk.2⟩)) hFo hFt
      exact ⟨by rw [hq.1], h6, HOKP.out, o, _, by rw [hq.2, was_none hh]; exact h5⟩)
    rw [was_none hh] at HORD
    rw [← hls] at HFULL
    clear hph hpl hw1 hw2 hw3 hk hp ho hu hrr HOKP HHELD HPAT hn hls hh
    generalize hER : addErr [] l retain = er at *
    generalize hOUT : addOut [] l retain = out at *
    have HER := Lib.hid hER
    have HOUT := Lib.hid hOUT
    clear hER hOUT
    unfold AddTyp at HADD
    simp only [HER.out, HOUT.out] at HADD
    clear hl HER HOUT hs
    generalize es.length = n at *
    have mixed : Try.prog.follows .mixedOrders = true := by kernel_rfl
    by_cases hfull : most ≤ (n : Int)
    · have j2 : decide (most ≤ (n : Int)) = true := decide_eq_true hfull
      have HE := Lib.hid (fun w' hf => HNO.out w' 6 hf (HFULL.out hfull))
      clear HADD HYES HORD HNO HH HFULL HPUT
      unfold ptr at *
      go_enter Try.func9, Try.ntmps9
      go_wp2_with fail
      refine HGET.out.mono ?_
      rintro e w ⟨rfl, rfl⟩
      go_wp2
      go_quiet (refine Calls.quiet_of_same (HLEN.out _))
      have HFQ : Hid (Fr0 w (w.drewN nq)) := Lib.hid ((Fr.refl _ _).drewN nq)
      clear c0 c1 c2 HGET HLEN
      generalize w.drewN nq = wq at *
      go_wp2
      go_ret
      exact HE.out _ HFQ.out
    · have j2 : decide (most ≤ (n : Int)) = false := decide_eq_false hfull
      have HE5 := Lib.hid (fun w' hf hz => HNO.out w' 5 hf (HORD.out hfull hz))
      have HY := Lib.hid (HYES.out hfull)
      have HP := Lib.hid (HPUT.out hfull)
      clear HYES HORD HNO HFULL HPUT HH
      unfold ptr at *
      go_enter Try.func9, Try.ntmps9
      go_wp2_with fail
      refine HGET.out.mono ?_
      rintro e w ⟨rfl, rfl⟩
      go_wp2
      go_quiet (refine Calls.quiet_of_same (HLEN.out _))
      have HFQ : Hid (Fr0 w (w.drewN nq)) := Lib.hid ((Fr.refl _ _).drewN nq)
      have hgl := World.block_lt_of_cell? w _ c2
      have q1 := (HFQ.out.cell (p := ⟨g, 1, none⟩) hgl (fun f => f)).trans c1
      have HC2 := Lib.hid c2
      clear c0 c1 c2 HGET HLEN
      generalize w.drewN nq = wq at *
      go_wp2_with fail
      refine (HADD.out _ HFQ.out).mono ?_
      rintro e w3 ⟨v, rfl, hP3, hF3, hN3, hT3⟩
      have HF3 := Lib.hid (HFQ.out.trans' hF3)
      obtain ⟨NA, NC, rfl⟩ := pairs_form hP3
      have HP3 : Hid (PairsT w3 30 (.slice NA out.length NC) out) := Lib.hid ⟨hP3, hT3⟩
      have c2 := (HF3.out.cell hgl (fun f => f)).trans HC2.out
      have HN3 : Hid (∀ a n c, Value.slice NA out.length NC = .slice (some a) n c → 0 < out.length → w.heap.size ≤ a.block) := Lib.hid (fun a n c hv h0 => Nat.le_trans HFQ.out.size (hN3 a n c hv h0))
      clear q1 hP3 hF3 hT3 hN3 HADD
      by_cases hz : er = 0
      · subst hz
        have HPP := Lib.hid (fun w4 => HY.out rfl w3 _ w4 HF3.out HP3.out HN3.out)
        have HQ := Lib.hid (HP.out w3 HF3.out NA out.length NC)
        clear HY HP HE5 HN3 HP3
        generalize out.length = ol at *
        go_wp2_with fail
        refine HQ.out.mono ?_
        rintro e w4 ⟨rfl, hO4, hFo, hFt⟩
        have HE := Lib.hid (HPP.out w4 hO4 hFo hFt)
        clear HPP HQ hO4 hFo hFt c2
        go_wp2
        go_ret
        exact HE.out
      · have HE := Lib.hid (HE5.out w3 HF3.out hz)
        clear HY HP HE5 HN3 HP3
        generalize out.length = ol at *
        go_wp2
        go_ret
        exact HE.out
theorem ppush_any (O : Nat → Prop) (g : Nat) (most retain : Int) (ss : List SE) (nm : ByteArray) (l : List Sm) (u : Value) (w : World) (h : PAt O w g most retain ss) (hn : nm.size ≤ 140737488351232) (hl : l.length ≤ 1000000) (hs : SizedS l) (hu : PairsIs w u l) :
    Calls Try.prog 9 #[ptr g, .string nm, u] w fun e w' => e = .returned (.int .i64 (pushErr most retain nm l ss)) ∧ Fr O w w' ∧ PAt (Grown O w w') w' g most retain (pushSt most retain nm l ss) := ppush_is O g most retain ss nm l u w h hn hl hs hu
theorem psamples_any (O : Nat → Prop) (g : Nat) (most retain : Int) (ss : List SE) (nm : ByteArray) (w : World) (h : PAt O w g most retain ss) :
    Calls Try.prog 12 #[ptr g, .string nm] w fun e w' => ∃ v, e = .returned v ∧ PairsIs w' v (wasS nm ss) ∧ Fr0 w w' := by
  obtain ⟨ho, o, es, hp⟩ := h
  have hk := hp.kept
  have c2 := hp.c2
  obtain ⟨hw1, -, -⟩ := ho.was nm
  have hw3 : (wasS nm ss).length ≤ 64 := by have := ho.hr; omega
  cases hh : hasS nm ss with
  | false =>
    have HGET := Lib.hid (get_ser_none 0 o (held most) es nm w hp.ord.at (by rw [hk.has nm]; exact hh))
    have HCL := Lib.hid (pclone_any none 0 [] (by simp) w (pairs_nil w))
    rw [was_none hh]
    clear hk hp ho hw1 hw3 hh
    unfold ptr at *
    go_enter Try.func12, Try.ntmps12
    go_wp2_with fail
    refine HGET.out.mono ?_
    rintro e w1 ⟨rfl, rfl⟩
    go_wp2_with fail
    refine HCL.out.mono ?_
    rintro e w2 ⟨v, rfl, hP, hF, -⟩
    have HP := Lib.hid hP
    have HF := Lib.hid hF
    clear hP hF HCL HGET c2
    go_wp2
    go_ret
    exact ⟨v, rfl, HP.out, HF.out⟩
  | true =>
    obtain ⟨a, c, hv, hpt, hlt⟩ := hk.got hh
    have HGET := Lib.hid (get_ser_some 0 o (held most) es nm _ w hp.ord.at (by rw [hk.place nm]; exact hv))
    have HCL := Lib.hid (pclone_any a c (wasS nm ss) (by omega) w hpt.is)
    clear hk hp ho hw1 hw3 hh hv hpt hlt
    generalize wasS nm ss = was at *
    have HWL : Hid (was.length = was.length) := Lib.hid rfl
    unfold ptr at *
    go_enter Try.func12, Try.ntmps12
    go_wp2_with fail
    refine HGET.out.mono ?_
    rintro e w1 ⟨rfl, rfl⟩
    go_wp2_with fail
    refine HCL.out.mono ?_
    rintro e w2 ⟨v, rfl, hP, hF, -⟩
    have HP := Lib.hid hP
    have HF := Lib.hid hF
    clear hP hF HCL HGET c2
    go_wp2
    go_ret
    exact ⟨v, rfl, HP.out, HF.out⟩
theorem pnames_any (O : Nat → Prop) (g : Nat) (most retain : Int) (ss : List SE) (w : World) (h : PAt O w g most retain ss) :
    Calls Try.prog 11 #[ptr g] w fun e w' => ∃ v, e = .returned v ∧ StrsIs w' v (ss.map (·.1)) ∧ Fr0 w w' := by
  obtain ⟨ho, o, es, hp⟩ := h
  have c2 := hp.c2
  have HN := Lib.hid (names_ser 0 o (held most) es w hp.ord.at)
  have HE : Hid (∀ w' b, w'.ownsRow w.heap.size 9 1 (.slice (some ⟨b, 0, none⟩) es.length es.length) es.length (es.map fun e => .string e.1) → StrsIs w' (.slice (some ⟨b, 0, none⟩) es.length es.length) (ss.map (·.1))) := Lib.hid (fun w' b hO => by
    rw [← hp.kept.names]
    refine ⟨some ⟨b, 0, none⟩, es.length, b, 0, by rw [List.length_map], by rw [List.length_map]; exact Nat.le_refl _, fun _ => rfl, fun j hj => ?_⟩
    rw [List.length_map] at hj
    rcases hO.2 with ⟨hx, _⟩ | ⟨b', cap, cur, hx, _, hg, _, _, _, hc⟩
    · cases hx
    · cases hx
      rw [cell_of_row _ _ _ _ _ _ hg]
      have hc := congrArg (fun l => l[j]?) hc
      simp only [List.getElem?_take, List.getElem?_map] at hc
      rw [if_pos (by omega), List.getElem?_eq_getElem hj] at hc
      simp only [Nat.zero_add, List.getD_eq_getElem?_getD, List.getElem?_map, List.getElem?_eq_getElem hj, Option.map_some, Option.getD_some] at *
      simpa using hc)
  clear hp ho
  generalize es.length = n at *
  generalize (es.map fun e => Value.string e.1) = L at *
  unfold ptr at *
  go_enter Try.func11, Try.ntmps11
  go_wp2_with fail
  refine HN.out.mono ?_
  rintro e w1 ⟨b, rfl, -, hO, hF⟩
  have HX := Lib.hid (HE.out w1 b hO)
  have HF := Lib.hid hF
  clear hO hF HE HN c2
  go_wp2
  go_ret
  exact ⟨_, rfl, HX.out, HF.out⟩
set_option maxHeartbeats 4000000 in
theorem plen_any (O : Nat → Prop) (g : Nat) (most retain : Int) (ss : List SE) (w : World) (h : PAt O w g most retain ss) :
    Calls Try.prog 13 #[ptr g] w fun e w' => e = .returned (.int .i64 (lenS ss : Int)) ∧ Fr0 w w' := by
  obtain ⟨ho, o, es, hp⟩ := h
  have hk := hp.kept
  have c2 := hp.c2
  have hgl := World.block_lt_of_cell? w _ c2
  have hn : es.length ≤ 16 := by rw [hk.length]; have := ho.le; have := ho.hm; omega
  have HG : Hid (∀ i, i < es.length → ∃ nm a c s, es[i]? = some (nm, .slice a s.2.length c) ∧ ss[i]? = some s) := Lib.hid (fun i hi => by
    have he : es[i]? = some es[i] := List.getElem?_eq_getElem hi
    obtain ⟨s, a, c, hs, hv, -⟩ := hk.form he
    exact ⟨es[i].1, a, c, s, by rw [he, ← hv], hs⟩)
  have HAT := Lib.hid (fun w' (hf : Fr0 w w') i nm v he => at_ser_some 0 o (held most) es i nm v w' (hp.ord.fr0 hf).at he)
  have HEND : Hid (∀ i, es.length ≤ i → lenS (ss.take i) = lenS ss) := Lib.hid (fun i hi => by rw [List.take_of_length_le (by rw [← hk.length]; exact hi)])
  have HS : Hid (∀ (i : Nat) s, ss[i]? = some s → s.2.length ≤ 64 ∧ lenS (ss.take (i + 1)) = lenS (ss.take i) + s.2.length) := Lib.hid (fun i s hs => ⟨by have := (ho.each s (List.mem_of_getElem? hs)).1; have := ho.hr; omega, lenS_next ss i s hs⟩)
  have H0 : Hid (lenS (ss.take 0) = 0) := Lib.hid rfl
  have HLEN := Lib.hid (len_ser 0 o (held most) es w hp.ord.at)
  have HC2 := Lib.hid c2
  clear hp hk ho
  generalize es.length = n at *
  unfold ptr at *
  go_enter Try.func13, Try.ntmps13
  go_wp2_with fail
  refine HLEN.out.mono ?_
  rintro e w1 ⟨rfl, rfl⟩
  have HF0 := Lib.hid (Fr.refl (fun _ => False) w1)
  clear HLEN c2
  go_wp2_with fail
  go_loopg [3, 4, 5, 6, 7, 13, 15, 16, 17, 18, 19, 20, 21, 22, 23, 24, 25, 26, 27, 28, 29, 30] n (fun kx vn s4 s5 s6 s7 vi s15 s16 s17 s18 s19 s20 s21 s22 s23 s24 s25 s26 s27 s28 s29 s30 wr => Hid (Fr0 w1 wr) ∧ ∃ (i S : Nat), vi = .int .i64 (i : Int) ∧ vn = .int .i64 (S : Int) ∧ i ≤ n ∧ n - i ≤ kx ∧ S ≤ i * 64 ∧ Hid (lenS (ss.take i) = S))
  case atStart => exact ⟨HF0, 0, 0, rfl, rfl, Nat.zero_le _, by omega, by omega, H0⟩
  case round =>
    obtain ⟨HFR, i, S, rfl, rfl, hi, hk, hS, HSS⟩ := hrel
    have c2 := (HFR.out.cell hgl (fun f => f)).trans HC2.out
    by_cases hlt : i < n
    · obtain ⟨nm, a, c, s, he, hs⟩ := HG.out i hlt
      obtain ⟨hb, hnx⟩ := HS.out i s hs
      rw [HSS.out] at hnx
      have HNX := Lib.hid hnx
      have HA := Lib.hid (HAT.out wr HFR.out i nm _ he)
      have i1 : (i : Int) < (n : Int) := by omega
      clear he hs hnx
      generalize s.2.length = L at *
      have hw : wrap64 ((S : Int) + (L : Int)) = (S : Int) + (L : Int) := by simp only [wrap64]; omega
      go_wp2_with fail
      refine HA.out.mono ?_
      rintro e w5 ⟨rfl, hF5⟩
      have HF5 := Lib.hid (HFR.out.trans' hF5)
      clear hF5 HA HFR c2
      go_wp2
      go_roundg (n - (i + 1))
      case measure => omega
      case rel => exact ⟨HF5, i + 1, S + L, by simp, by simp, by omega, by omega, by omega, HNX⟩
    · obtain rfl : i = n := by omega
      have HX : Hid (S = lenS ss) := Lib.hid (by rw [← HSS.out]; exact HEND.out i (Nat.le_refl _))
      go_wp2
      go_ret
      exact ⟨by rw [← HX.out]; rfl, HFR.out⟩
set_option maxRecDepth 100000 in
set_option maxHeartbeats 4000000 in
theorem pquery_any (O : Nat → Prop) (g : Nat) (most retain : Int) (ss : List SE) (nm : ByteArray) (f t : Int) (w : World) (h : PAt O w g most retain ss) (hf : inI64 f) (ht : inI64 t) :
    Calls Try.prog 10 #[ptr g, .string nm, .int .i64 f, .int .i64 t] w fun e w' => e = .returned (.tuple #[.agg (a6 (queryOut nm f t ss)), .int .i64 (queryErr nm ss)]) ∧ Fr0 w w' := by
  obtain ⟨ho, o, es, hp⟩ := h
  have hk := hp.kept
  have HF0 : Hid (Fr0 w (w.alloc (.cells #[.int .i64 0, .int .i64 0, .int .i64 0, .int .i64 0, .int .i64 0, .bool false] 33))) := Lib.hid ((Fr.refl _ _).alloc _)
  have HB0 : Hid (Bx 33 (w.alloc (.cells #[.int .i64 0, .int .i64 0, .int .i64 0, .int .i64 0, .int .i64 0, .bool false] 33)) w.heap.size zeroA) := Lib.hid (Bx.new 33 w zeroA)
  have c2 := (hp.fr0 HF0.out).c2
  have hp0 := hp.fr0 HF0.out
  have hgl := hp.lt
  cases hh : hasS nm ss with
  | false =>
    have HGET := Lib.hid (get_ser_none 0 o (held most) es nm _ hp0.ord.at (by rw [hk.has nm]; exact hh))
    have HR := Lib.hid (HB0.out.setRow zeroA)
    have HRF := Lib.hid (Fr.setRow (g := w.heap.size) HF0.out (fun h => by have h' : w.heap.size < w.heap.size := h; omega) #[.int .i64 0, .int .i64 0, .int .i64 0, .int .i64 0, .int .i64 0, .bool false])
    rw [show queryOut nm f t ss = zeroA by unfold queryOut; rw [hh]; rfl, show queryErr nm ss = 8 by unfold queryErr; rw [hh]; rfl]
    clear hk hp hp0 ho hh
    unfold ptr at *
    go_enter Try.func10, Try.ntmps10
    go_wp2_with fail
    refine HGET.out.mono ?_
    rintro e w1 ⟨rfl, rfl⟩
    go_wp2
    exact bodyPost_ret (res2 rfl Try.underlying33 rfl infoG _ _ rfl rfl HB0.out) rfl ⟨rfl, HF0.out⟩
  | true =>
    obtain ⟨a, c, hv, hpt, hlt⟩ := hk.got hh
    obtain ⟨hw1, hw2, -⟩ := ho.was nm
    have hw3 : (wasS nm ss).length ≤ 64 := by have := ho.hr; omega
    have HGET := Lib.hid (get_ser_some 0 o (held most) es nm _ _ hp0.ord.at (by rw [hk.place nm]; exact hv))
    rw [show queryOut nm f t ss = agOf (rangeOf (wasS nm ss) f t) by unfold queryOut; rw [hh]; rfl, show queryErr nm ss = 0 by unfold queryErr; rw [hh]; rfl]
    have HRG := Lib.hid (fun w hP => prange_any (.slice a (wasS nm ss).length c) (wasS nm ss) f t (by omega) hw2 hf ht w hP)
    have HOF := Lib.hid (fun v w hP => pof_any v (rangeOf (wasS nm ss) f t) (by have := range_len (wasS nm ss) f t; omega) (range_sized hw2 f t) w hP)
    have HPT := Lib.hid hpt.is
    clear hk hp hp0 ho hh hv hpt hlt hw1 hw2 hw3
    generalize agOf (rangeOf (wasS nm ss) f t) = q at *
    rw [show a6 q = #[.int .i64 q.c, .int .i64 q.s, .int .i64 q.n, .int .i64 q.x, .int .i64 q.l, .bool q.o] from rfl] at HOF ⊢
    generalize wasS nm ss = was at *
    unfold ptr at *
    go_enter Try.func10, Try.ntmps10
    go_wp2_with fail
    refine HGET.out.mono ?_
    rintro e w1 ⟨rfl, hw1⟩
    subst hw1
    generalize hW1 : w.alloc (.cells #[.int .i64 0, .int .i64 0, .int .i64 0, .int .i64 0, .int .i64 0, .bool false] 33) = W1 at *
    clear hW1 c2 HGET
    go_wp2_with fail
    generalize hg0 : w.heap.size = g0 at *
    have HGE := Lib.hid hg0
    clear hg0
    refine (HRG.out _ (HPT.out.fr0 HF0.out)).mono ?_
    rintro e w2 ⟨v2, rfl, hP2, hF2⟩
    have HF2 := Lib.hid (HF0.out.trans' hF2)
    have HB2 := Lib.hid (HB0.out.fr0 hF2)
    have hof := HOF.out v2 w2 hP2
    clear hP2 hF2 HRG HOF
    go_wp2_with fail
    refine hof.mono ?_
    clear hof
    rintro e w3 ⟨rfl, hF3⟩
    have HF3 := Lib.hid (HF2.out.trans' hF3)
    have HB3 := Lib.hid (HB2.out.fr0 hF3)
    clear hF3 HF2 HB2
    have HR := Lib.hid (HB3.out.setRow q)
    have HRF := Lib.hid (Fr.setRow (g := g0) HF3.out (fun h => by have := HGE.out; omega) #[.int .i64 q.c, .int .i64 q.s, .int .i64 q.n, .int .i64 q.x, .int .i64 q.l, .bool q.o])
    go_wp2_with ((with_reducible change wpList _ _ _ (⟨_, Op.store 33 _ _, _, _, _, _⟩ :: _) _ _); refine wpList_store_row rfl 33 _ _ rfl g0 #[.int .i64 q.c, .int .i64 q.s, .int .i64 q.n, .int .i64 q.x, .int .i64 q.l, .bool q.o] rfl rfl 33 _ HB3.out.heap infoG rfl (a6_one q) ?_)
    exact bodyPost_ret (res2 rfl Try.underlying33 rfl infoG _ _ rfl rfl HR.out) rfl ⟨rfl, HRF.out⟩
end
end Go.Proofs.Ytbbmjkligiglmaa.Store
