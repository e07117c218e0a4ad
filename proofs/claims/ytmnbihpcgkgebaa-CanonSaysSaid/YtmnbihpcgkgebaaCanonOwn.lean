/-
  warrenerlaw12's own and same.
-/
import Derived.Test.YtmnbihpcgkgebaaAskRefGet
import Derived.Test.YtmnbihpcgkgebaaMixT
namespace Go.Proofs.Ytmnbihpcgkgebaa.CanonL
open Go.RowKit Base Pack _root_.Go.Proofs.Ytmnbihpcgkgebaa.Ask

theorem results_one {fn : Func} {p : Tmp} (h : fn.results = #[.cell p 39]) (tmps : Array Value) (w : World) (g : Nat) (cs : Array Value) (hp : tmps.getD p undef = .pointer (some ⟨g, 0, none⟩)) (hg : w.heap[g]? = some (.cells cs 39 (0, 0))) (hi : (Try.prog.info? 39).map (·.size) = some cs.size) :
    (results fn tmps).run Try.prog w = .ok (.agg cs) w := by
  have hp' : tmps[p]?.getD undef = .pointer (some ⟨g, 0, none⟩) := by simpa using hp
  simp [results, h, hp', asAddr, run_loadVar_row w g 39 39 cs (0, 0) _ hg Try.underlying39 rfl hi]
/-- two requests alike -/
def sameQ (a c : Rq) : Bool := decide (a.k = c.k ∧ a.n = c.n ∧ a.f = c.f ∧ a.t = c.t ∧ a.wn = c.wn ∧ a.s = c.s)
theorem sameQ_iff (a c : Rq) : sameQ a c = true ↔ a = c := by
  unfold sameQ
  rw [decide_eq_true_eq]
  cases a; cases c
  constructor
  · rintro ⟨h1, h2, h3, h4, h5, h6⟩
    simp only at h1 h2 h3 h4 h5 h6
    subst h1 h2 h3 h4 h5 h6
    rfl
  · intro h
    cases h
    exact ⟨rfl, rfl, rfl, rfl, rfl, rfl⟩
def OwnPost (a : Rq) (w : World) (e : Ending) (w' : World) : Prop := ∃ A C, e = .returned (.agg (rv (.slice A a.s.length C) a)) ∧ PairsIs w' (.slice A a.s.length C) a.s ∧ Fr0 w w'
set_option maxRecDepth 100000 in
set_option maxHeartbeats 4000000 in
theorem own_any (A : Option Addr) (C : Nat) (a : Rq) (hs : a.s.length ≤ 1000000) (w : World) (hP : PairsIs w (.slice A a.s.length C) a.s) :
    Calls Try.prog 12 #[.agg (rv (.slice A a.s.length C) a)] w (OwnPost a w) := by
  have HP := Lib.hid hP
  have HS := Lib.hid hs
  unfold rv
  -- the argument's block, the answer's, the copy's
  obtain ⟨W1, hW1⟩ : ∃ W1, W1 = (w.alloc (.cells #[.int .i64 a.k, .string ⟨a.n.toArray⟩, .slice A a.s.length C, .int .i64 a.f, .int .i64 a.t, .int .i64 a.wn] 27)).alloc (.cells #[.int .i64 0, .string ⟨#[]⟩, .slice none 0 0, .int .i64 0, .int .i64 0, .int .i64 0] 39) := ⟨_, rfl⟩
  have hf1 : Fr0 w W1 := by rw [hW1]; exact ((Fr.refl _ _).alloc _).alloc _
  have hs1 : W1.heap.size = w.heap.size + 2 := by rw [hW1]; simp
  have hr1 : W1.rowIs w.heap.size 27 6 (ask6 a.k ⟨a.n.toArray⟩ (.slice A a.s.length C) a.f a.t a.wn) := by
    rw [hW1]
    exact Fr.row (S := fun _ => False) ((Fr.refl _ _).alloc _) (rowIs_new w _ 27 6 _ rfl (fun i hi => by
      match i, hi with
      | 0, _ => rfl
      | 1, _ => rfl
      | 2, _ => rfl
      | 3, _ => rfl
      | 4, _ => rfl
      | 5, _ => rfl)) (fun f => f)
  have hr2 : W1.rowIs (w.heap.size + 1) 39 6 (ask6 0 ⟨#[]⟩ (.slice none 0 0) 0 0 0) := by
    rw [hW1]
    have h := rowIs_new (w.alloc (.cells #[.int .i64 a.k, .string ⟨a.n.toArray⟩, .slice A a.s.length C, .int .i64 a.f, .int .i64 a.t, .int .i64 a.wn] 27)) #[.int .i64 0, .string ⟨#[]⟩, .slice none 0 0, .int .i64 0, .int .i64 0, .int .i64 0] 39 6 (ask6 0 ⟨#[]⟩ (.slice none 0 0) 0 0 0) rfl (fun i hi => by
      match i, hi with
      | 0, _ => rfl
      | 1, _ => rfl
      | 2, _ => rfl
      | 3, _ => rfl
      | 4, _ => rfl
      | 5, _ => rfl)
    rw [show (w.alloc (.cells #[.int .i64 a.k, .string ⟨a.n.toArray⟩, .slice A a.s.length C, .int .i64 a.f, .int .i64 a.t, .int .i64 a.wn] 27)).heap.size = w.heap.size + 1 by simp] at h
    exact h
  have hg3 := heap_alloc_new W1 (.cells #[.int .i64 0, .string ⟨#[]⟩, .slice none 0 0, .int .i64 0, .int .i64 0, .int .i64 0] 39)
  rw [hs1] at hg3
  obtain ⟨W3, hW3⟩ : ∃ W3, W3 = (W1.alloc (.cells #[.int .i64 0, .string ⟨#[]⟩, .slice none 0 0, .int .i64 0, .int .i64 0, .int .i64 0] 39)).setRow (w.heap.size + 2) #[.int .i64 a.k, .string ⟨a.n.toArray⟩, .slice none 0 0, .int .i64 a.f, .int .i64 a.t, .int .i64 a.wn] := ⟨_, rfl⟩
  have hf3 : Fr0 W1 W3 := by rw [hW3]; exact Fr.setRow ((Fr.refl _ _).alloc _) (fun h => absurd h (by omega)) _
  have hr3 : W3.rowIs (w.heap.size + 2) 39 6 (ask6 a.k ⟨a.n.toArray⟩ (.slice none 0 0) a.f a.t a.wn) := by
    rw [hW3]
    exact rowIs_of_cells (setRow_heap _ _ _ _ _ _ hg3) rfl (fun i hi => by
      match i, hi with
      | 0, _ => rfl
      | 1, _ => rfl
      | 2, _ => rfl
      | 3, _ => rfl
      | 4, _ => rfl
      | 5, _ => rfl)
  have hsz3 : w.heap.size + 3 ≤ W3.heap.size := by rw [hW3]; simp [hs1]
  have HA3 := Lib.hid (hf3.row hr1 (fun f => f))
  have HZ3 := Lib.hid (hf3.row hr2 (fun f => f))
  have HR3 := Lib.hid hr3
  have HF3 := Lib.hid (hf1.trans' hf3)
  have hc0 : W1.cell? ⟨w.heap.size, 0, none⟩ = some (.int .i64 a.k) := hr1.cell (i := 0) (by decide)
  have hc1 : W1.cell? ⟨w.heap.size, 1, none⟩ = some (.string ⟨a.n.toArray⟩) := hr1.cell (i := 1) (by decide)
  have hc3 : W1.cell? ⟨w.heap.size, 3, none⟩ = some (.int .i64 a.f) := hr1.cell (i := 3) (by decide)
  have hc4 : W1.cell? ⟨w.heap.size, 4, none⟩ = some (.int .i64 a.t) := hr1.cell (i := 4) (by decide)
  have hc5 : W1.cell? ⟨w.heap.size, 5, none⟩ = some (.int .i64 a.wn) := hr1.cell (i := 5) (by decide)
  rw [hW1] at hc0 hc1 hc3 hc4 hc5 hg3
  have HW3 : Hid (W3 = (((w.alloc (.cells #[.int .i64 a.k, .string ⟨a.n.toArray⟩, .slice A a.s.length C, .int .i64 a.f, .int .i64 a.t, .int .i64 a.wn] 27)).alloc (.cells #[.int .i64 0, .string ⟨#[]⟩, .slice none 0 0, .int .i64 0, .int .i64 0, .int .i64 0] 39)).alloc (.cells #[.int .i64 0, .string ⟨#[]⟩, .slice none 0 0, .int .i64 0, .int .i64 0, .int .i64 0] 39)).setRow (w.heap.size + 2) #[.int .i64 a.k, .string ⟨a.n.toArray⟩, .slice none 0 0, .int .i64 a.f, .int .i64 a.t, .int .i64 a.wn]) := Lib.hid (by rw [hW3, hW1])
  have HG3 := Lib.hid hg3
  clear hP hs hW1 hW3 hf1 hs1 hr1 hr2 hg3 hf3 hr3
  have HO3 : Hid (W3.ownsRow W3.heap.size 55 2 (.slice none ([] : List (Int × Int)).length 0) ([] : List (Int × Int)).length (pcells [])) := Lib.hid (World.ownsRow_nil _ _ _ _)
  generalize hL : a.s.length = L at *
  have HL := Lib.hid hL
  clear hL
  go_enter Try.func12, Try.ntmps12
  go_wp2_with (refine wpList_store_row rfl 39 _ _ rfl (w.heap.size + 2) #[.int .i64 a.k, .string ⟨a.n.toArray⟩, .slice none 0 0, .int .i64 a.f, .int .i64 a.t, .int .i64 a.wn] rfl rfl 39 _ HG3.out infoAsk rfl (ask_one _ _ _ _ _ _ rfl) ?_; rw [← HW3.out])
  clear hc0 hc1 hc3 hc4 hc5
  go_wp2_with fail
  go_loopg [4] L (fun kx vi wr => ∃ (i : Nat) (Ab : Option Addr) (Cb : Nat), vi = .int .i64 (i : Int) ∧ i ≤ L ∧ L - i ≤ kx ∧ Hid (wr.rowIs (w.heap.size + 2) 39 6 (ask6 a.k ⟨a.n.toArray⟩ (.slice Ab i Cb) a.f a.t a.wn)) ∧ Hid (wr.ownsRow W3.heap.size 55 2 (.slice Ab i Cb) i (pcells (a.s.take i))) ∧ Hid (Fr (fun j => j = w.heap.size + 2) W3 wr))
  case atStart => exact ⟨0, none, 0, rfl, Nat.zero_le _, by omega, HR3, HO3, Lib.hid (Fr.refl _ _)⟩
  case round =>
    clear HR3 HO3
    obtain ⟨i, Ab, Cb, rfl, hi, hk, HR, HO, HFR⟩ := hrel
    have HA := Lib.hid (HFR.out.row HA3.out (fun e => by have e' : w.heap.size = w.heap.size + 2 := e; omega))
    have HZ := Lib.hid (HFR.out.row HZ3.out (fun e => by have e' : w.heap.size + 1 = w.heap.size + 2 := e; omega))
    have HFW : Hid (Fr0 w wr) := Lib.hid (HF3.out.trans HFR.out (fun j hj e => by have e' : j = w.heap.size + 2 := e; omega))
    have k2 : wr.cell? ⟨w.heap.size, 2, none⟩ = some (.slice A L C) := HA.out.cell (i := 2) (by decide)
    have hLb : L ≤ 1000000 := HS.out
    by_cases hlt : i < L
    · obtain ⟨pb, po, rfl, hpc⟩ := pairs_at HP.out i (by have := HL.out; omega)
      obtain ⟨p0, p1⟩ := hpc wr HFW.out
      have hnx : pcells (a.s.take (i + 1)) = pcells (a.s.take i) ++ [.int .i64 (a.s.getD i (0, 0)).1, .int .i64 (a.s.getD i (0, 0)).2] := by
        have hx : i < a.s.length := by have := HL.out; omega
        rw [List.take_add_one, List.getD_eq_getElem?_getD, List.getElem?_eq_getElem hx]
        simp only [Option.toList_some, Option.getD_some]
        rw [pcells_append]
        rfl
      have HNX := Lib.hid hnx
      clear hnx hpc
      generalize (a.s.getD i (0, 0)).1 = T at *
      generalize (a.s.getD i (0, 0)).2 = U at *
      have i1 : (i : Int) < (L : Int) := by omega
      have i2 : 0 ≤ (i : Int) := by omega
      have m2 : wr.drew.cell? ⟨w.heap.size + 2, 2, none⟩ = some (.slice Ab i Cb) := HR.out.cell (i := 2) (by decide)
      have k2d : wr.drew.cell? ⟨w.heap.size, 2, none⟩ = some (.slice (some ⟨pb, po, none⟩) L C) := k2
      have p0d : wr.drew.cell? ⟨pb, po + i * 2, none⟩ = some (.int .i64 T) := p0
      have p1d : wr.drew.cell? ⟨pb, po + i * 2 + 1, none⟩ = some (.int .i64 U) := p1
      go_wp2
      refine Mix.law (fun X => X.cell? ⟨w.heap.size + 2, 2, none⟩ = some (.slice Ab i Cb)) [(.sure, 0), (.sure, 1), (.sure, 2), (.look, 3), (.sure, 4), (.sure, 5), (.sure, 6), (.look, 7), (.sure, 8), (.look, 9), (.sure, 10), (.sure, 11), (.sure, 12), (.look, 13), (.sure, 14), (.turn, 15), (.turn, 16), (.sure, 17), (.last, 18)] (by kernel_rfl) (by kernel_rfl) m2 ?_
      simp only [List.map_cons, List.map_nil, Mix.nth_zero, Mix.nth_succ]
      have HDR := Lib.hid ((Fr.refl (fun _ => False) wr).drew)
      generalize wr.drew = wd at *
      repeat (first
        | (refine Mix.go_skipS (by exact Mix.wanted_no rfl rfl rfl rfl) ?_; go_frame)
        | (refine Mix.go_skipL (by exact Mix.wanted_no rfl rfl rfl rfl) ?_; go_frame)
        | (refine Mix.go_move (by first | exact Mix.wanted_none rfl | exact Mix.wanted_yes rfl rfl rfl) _ rfl _ (by first | (go_simp; done) | (go_simp; rfl)) ?_; go_frame)
        | (refine Mix.go_assign (by first | exact Mix.wanted_none rfl | exact Mix.wanted_yes rfl rfl rfl) _ rfl _ (by first | (go_simp; done) | (go_simp; rfl)) ?_; go_frame)
        | (refine Mix.go_sureW (by first | exact Mix.wanted_none rfl | exact Mix.wanted_yes rfl rfl rfl) _ (by rfl) (by rfl) _ (fun w' hC' => by go_wp2_with fail; refine Mix.stays ?_; go_frame; rfl) ?_; go_frame)
        | (refine Mix.go_lookW (by first | exact Mix.wanted_none rfl | exact Mix.wanted_yes rfl rfl rfl) _ (by rfl) (by rfl) _ (by go_wp2_with fail; refine Mix.stays ?_; go_frame; rfl) ?_; go_frame))
      refine Mix.go_turn ?_
      go_wp2
      have HFL := Lib.hid (HDR.out.alloc (.cells #[.int .i64 T, .int .i64 U] 55))
      have HRL := Lib.hid (HFL.out.row HR.out (fun f => f))
      have HOL := Lib.hid (ownsFr HFL.out HO.out (fun _ _ f => f))
      have HPL := Lib.hid (pair_lit wd T U 55)
      have m2l : (wd.alloc (.cells #[.int .i64 T, .int .i64 U] 55)).cell? ⟨w.heap.size + 2, 2, none⟩ = some (.slice Ab i Cb) := HRL.out.cell (i := 2) (by decide)
      refine Mix.then_go m2l ?_
      refine Mix.go_turn ?_
      go_wp2_with (refine wpList_append_valsN rfl (.tmp 24) (.tmp 38) 37 rfl W3.heap.size 55 Try.underlying37 (.agg #[.int .i64 0, .int .i64 0]) 2 16 infoSm rfl (by decide) _ _ i 1 (pcells (a.s.take i)) [.int .i64 T, .int .i64 U] rfl rfl HOL.out HPL.out (by decide) rfl (by intro u hu; simp at hu; rcases hu with rfl | rfl <;> rfl) (by unfold maxLen; omega) (by omega) (by have h1 := HFR.out.size; have h2 := HFL.out.size; omega) ?_)
      intro vz Wz hOz hGz hNz
      have hfz : Fr (fun j => (Value.slice Ab i Cb).ownBlock = some j) (wd.alloc (.cells #[.int .i64 T, .int .i64 U] 55)) Wz := Fr.of_grown hGz (fun k hk e => e)
      have hob : ∀ j, (Value.slice Ab i Cb).ownBlock = some j → W3.heap.size ≤ j := fun j hj => (HOL.out.lt j hj).1
      have HRZ := Lib.hid (hfz.row HRL.out (fun e => by have := hob _ e; omega))
      obtain ⟨Az, Cz, rfl, _⟩ := owns_form hOz
      have HOZ := Lib.hid hOz
      have HFZ : Hid (Fr (fun j => j = w.heap.size + 2) W3 Wz) := Lib.hid ((HFR.out.trans HFL.out (fun _ _ f => f.elim)).trans hfz (fun j hj e => by have := hob _ e; omega))
      have m2z : Wz.cell? ⟨w.heap.size + 2, 2, none⟩ = some (.slice Ab i Cb) := HRZ.out.cell (i := 2) (by decide)
      have thz := HRZ.out.frozen 2
      clear hOz hGz hNz hfz m2l m2 k2 k2d p0 p0d p1 p1d
      refine Mix.then_go m2z ?_
      repeat (first
        | (refine Mix.go_skipS (by exact Mix.wanted_no rfl rfl rfl rfl) ?_; go_frame)
        | (refine Mix.go_skipL (by exact Mix.wanted_no rfl rfl rfl rfl) ?_; go_frame)
        | (refine Mix.go_move (by first | exact Mix.wanted_none rfl | exact Mix.wanted_yes rfl rfl rfl) _ rfl _ (by first | (go_simp; done) | (go_simp; rfl)) ?_; go_frame)
        | (refine Mix.go_assign (by first | exact Mix.wanted_none rfl | exact Mix.wanted_yes rfl rfl rfl) _ rfl _ (by first | (go_simp; done) | (go_simp; rfl)) ?_; go_frame)
        | (refine Mix.go_sureW (by first | exact Mix.wanted_none rfl | exact Mix.wanted_yes rfl rfl rfl) _ (by rfl) (by rfl) _ (fun w' hC' => by go_wp2_with fail; refine Mix.stays ?_; go_frame; rfl) ?_; go_frame)
        | (refine Mix.go_lookW (by first | exact Mix.wanted_none rfl | exact Mix.wanted_yes rfl rfl rfl) _ (by rfl) (by rfl) _ (by go_wp2_with fail; refine Mix.stays ?_; go_frame; rfl) ?_; go_frame))
      refine Mix.go_last ?_
      go_wp2
      have HRQ : Hid ((Wz.setCell ⟨w.heap.size + 2, 2, none⟩ (.slice Az (i + 1) Cz)).rowIs (w.heap.size + 2) 39 6 (ask6 a.k ⟨a.n.toArray⟩ (.slice Az (i + 1) Cz) a.f a.t a.wn)) := Lib.hid ((HRZ.out.set 2 _).congr (fun j hj => by
        match j, hj with
        | 0, _ => rfl
        | 1, _ => rfl
        | 2, _ => rfl
        | 3, _ => rfl
        | 4, _ => rfl
        | 5, _ => rfl))
      have HOQ := Lib.hid (ownsFr (Fr.setCell (S := fun j => j = w.heap.size + 2) (p := ⟨w.heap.size + 2, 2, none⟩) (Fr.refl _ Wz) (fun _ => rfl) (.slice Az (i + 1) Cz)) HOZ.out (fun q hq e => by have h1 := (HOZ.out.lt q hq).1; have h2 : q = w.heap.size + 2 := e; omega))
      have HFQ : Hid (Fr (fun j => j = w.heap.size + 2) W3 (Wz.setCell ⟨w.heap.size + 2, 2, none⟩ (.slice Az (i + 1) Cz))) := Lib.hid (Fr.setCell (p := ⟨w.heap.size + 2, 2, none⟩) HFZ.out (fun _ => rfl) _)
      refine Mix.then_go trivial ?_
      refine Mix.go_end ?_
      clear m2z thz
      go_wp2
      go_roundg (L - (i + 1))
      case measure => omega
      case rel => exact ⟨i + 1, Az, Cz, by simp, by omega, by omega, HRQ, by rw [HNX.out]; exact HOQ, HFQ⟩
    · obtain rfl : i = L := by omega
      have hah := row_cells HR.out
      have hzh := row_cells HZ.out
      go_wp2_with (first | (refine wpList_load_row rfl 39 _ rfl (w.heap.size + 2) rfl 39 _ (0, 0) _ hah Try.underlying39 rfl (by kernel_rfl) ?_) | (refine wpList_store_row rfl 39 _ _ rfl (w.heap.size + 1) #[.int .i64 a.k, .string ⟨a.n.toArray⟩, .slice Ab i Cb, .int .i64 a.f, .int .i64 a.t, .int .i64 a.wn] rfl rfl 39 _ hzh infoAsk rfl (ask_one _ _ _ _ _ _ rfl) ?_))
      have hz2 := setRow_heap wr (w.heap.size + 1) _ #[.int .i64 a.k, .string ⟨a.n.toArray⟩, .slice Ab i Cb, .int .i64 a.f, .int .i64 a.t, .int .i64 a.wn] _ _ hzh
      have hfs : Fr (fun j => j = w.heap.size + 1) wr (wr.setRow (w.heap.size + 1) #[.int .i64 a.k, .string ⟨a.n.toArray⟩, .slice Ab i Cb, .int .i64 a.f, .int .i64 a.t, .int .i64 a.wn]) := Fr.setRow (S := fun j => j = w.heap.size + 1) (Fr.refl _ _) (fun _ => rfl) _
      have htk : a.s.take i = a.s := List.take_of_length_le (by have := HL.out; omega)
      have hps : PairsIs wr (.slice Ab i Cb) a.s := by
        have h := HO.out
        rw [htk] at h
        exact pairs_own h HL.out.symm
      (try simp only [Exit.inBlock, Exit.then])
      refine bodyPost_ret (results_one rfl _ _ (w.heap.size + 1) _ rfl hz2 infoAsk) rfl ⟨Ab, Cb, ?_, ?_, HFW.out.trans hfs (fun j hj e => by have e' : j = w.heap.size + 1 := e; omega)⟩
      · rw [HL.out]; rfl
      · rw [HL.out]
        exact pairs_fr hps hfs (fun q n c h _ e => by
          have h1 := (HO.out.lt q.block (by rw [h]; rfl)).1
          have e' : q.block = w.heap.size + 1 := e
          omega)
end Go.Proofs.Ytmnbihpcgkgebaa.CanonL
