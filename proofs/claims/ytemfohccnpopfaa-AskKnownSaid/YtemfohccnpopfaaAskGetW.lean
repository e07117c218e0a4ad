/-
  The program's Get.
-/
import Derived.Test.YtemfohccnpopfaaAskGet
namespace Go.Proofs.Ytemfohccnpopfaa.Ask
open Go.RowKit Base Pack

theorem infoAskP : (Try.prog.info? 27).map (·.size) = some 6 := by kernel_rfl
theorem results_askP {fn : Func} {p u : Tmp} (h : fn.results = #[.cell p 27, .tmp u]) (tmps : Array Value) (w : World) (g : Nat) (cs : Array Value) (hp : tmps.getD p undef = .pointer (some ⟨g, 0, none⟩)) (v : Value) (hu' : tmps.getD u undef = v) (hg : w.heap[g]? = some (.cells cs 27 (0, 0))) (hi : (Try.prog.info? 27).map (·.size) = some cs.size) :
    (results fn tmps).run Try.prog w = .ok (.tuple #[.agg cs, v]) w := by
  have hp' : tmps[p]?.getD undef = .pointer (some ⟨g, 0, none⟩) := by simpa using hp
  have hq' : tmps[u]?.getD undef = v := by simpa using hu'
  simp [results, h, hp', hq', asAddr, run_loadVar_row w g 27 27 cs (0, 0) _ hg Try.underlying27 rfl hi]
/-- what Get keeps while it reads -/
structure PNow (B : Nat) (w : World) (g0 gr ga : Nat) (b : List UInt8) (e : Int) (k : Int) (nm : ByteArray) (sv : Value) (f t wn : Int) (W : World) : Prop where
  rd : RdP B W gr b e
  ask : W.rowIs ga 27 6 (ask6 k nm sv f t wn)
  res : W.rowIs g0 27 6 (ask6 0 ⟨#[]⟩ (.slice none 0 0) 0 0 0)
  fr : Fr0 w W
structure PApart (B : Nat) (w : World) (g0 gr ga : Nat) : Prop where
  n1 : gr ≠ ga
  n2 : gr ≠ g0
  n3 : ga ≠ g0
  o0 : w.heap.size ≤ g0
  o1 : w.heap.size ≤ gr
  o2 : w.heap.size ≤ ga
  ob : B ≤ ga
section
variable {B : Nat} {w W W' : World} {g0 gr ga : Nat} {b b' : List UInt8} {e e' k : Int} {nm : ByteArray} {sv : Value} {f t wn : Int}
theorem PNow.fr0 (h : PNow B w g0 gr ga b e k nm sv f t wn W) (hf : Fr0 W W') : PNow B w g0 gr ga b e k nm sv f t wn W' := ⟨h.rd.fr0 hf, hf.row h.ask (fun f => f), hf.row h.res (fun f => f), h.fr.trans' hf⟩
theorem PNow.read (h : PNow B w g0 gr ga b e k nm sv f t wn W) (hA : PApart B w g0 gr ga) (hf : Fr1 gr W W') (hr : RdP B W' gr b' e') : PNow B w g0 gr ga b' e' k nm sv f t wn W' :=
  ⟨hr, hf.row h.ask (fun h => hA.n1 h.symm), hf.row h.res (fun h => hA.n2 h.symm), h.fr.trans hf (fun i hi h => by have h' : i = gr := h; have := hA.o1; omega)⟩
theorem PNow.set (h : PNow B w g0 gr ga b e k nm sv f t wn W) (hA : PApart B w g0 gr ga) (i : Nat) (v : Value) {k' : Int} {nm' : ByteArray} {sv' : Value} {f' t' wn' : Int} (he : ∀ j, j < 6 → (if j = i then v else ask6 k nm sv f t wn j) = ask6 k' nm' sv' f' t' wn' j) : PNow B w g0 gr ga b e k' nm' sv' f' t' wn' (W.setCell ⟨ga, i, none⟩ v) := by
  have hf : Fr (fun j => j = ga) W (W.setCell ⟨ga, i, none⟩ v) := Fr.setCell (S := fun j => j = ga) (p := ⟨ga, i, none⟩) (Fr.refl _ _) (fun _ => rfl) v
  exact ⟨h.rd.fr hf hA.n1 (fun j hj e => by have e' : j = ga := e; have := hA.ob; omega), (h.ask.set i v).congr he, hf.row h.res (fun e => hA.n3 e.symm), h.fr.trans hf (fun j hj e => by have e' : j = ga := e; have := hA.o2; omega)⟩
theorem PNow.cells (h : PNow B w g0 gr ga b e k nm sv f t wn W) : W.cell? ⟨ga, 0, none⟩ = some (.int .i64 k) ∧ W.cell? ⟨ga, 1, none⟩ = some (.string nm) ∧ W.cell? ⟨ga, 2, none⟩ = some sv ∧ W.cell? ⟨ga, 3, none⟩ = some (.int .i64 f) ∧ W.cell? ⟨ga, 4, none⟩ = some (.int .i64 t) ∧ W.cell? ⟨ga, 5, none⟩ = some (.int .i64 wn) :=
  ⟨h.ask.cell (i := 0) (by decide), h.ask.cell (i := 1) (by decide), h.ask.cell (i := 2) (by decide), h.ask.cell (i := 3) (by decide), h.ask.cell (i := 4) (by decide), h.ask.cell (i := 5) (by decide)⟩
theorem PNow.thaw (h : PNow B w g0 gr ga b e k nm sv f t wn W) (i : Nat) : W.frozen? ⟨ga, i, none⟩ = false := h.ask.frozen i
theorem PNow.askH (h : PNow B w g0 gr ga b e k nm sv f t wn W) : W.heap[ga]? = some (.cells #[.int .i64 k, .string nm, sv, .int .i64 f, .int .i64 t, .int .i64 wn] 27 (0, 0)) := row_cells h.ask
theorem PNow.resH (h : PNow B w g0 gr ga b e k nm sv f t wn W) : W.heap[g0]? = some (.cells #[.int .i64 0, .string ⟨#[]⟩, .slice none 0 0, .int .i64 0, .int .i64 0, .int .i64 0] 27 (0, 0)) := row_cells h.res
end
theorem bytesRest_le (m : Int) (l : List UInt8) : (bytesRest m l).length ≤ l.length := by
  unfold bytesRest
  split
  · simp
  · exact Nat.le_trans (cutRest_le _ _) (cutRest_le _ _)
theorem bytesOut_le (m : Int) (l : List UInt8) (hm : 0 ≤ m) : ((bytesOut m l).length : Int) ≤ m := by
  unfold bytesOut
  split
  · simpa using hm
  · have := cutOut_length (num (cutOut 2 l)) (cutRest 2 l)
    omega
set_option maxRecDepth 100000 in
set_option maxHeartbeats 8000000 in
theorem pget_any (v : Value) (b : List UInt8) (hb : b.length ≤ 140737488355328) (w : World) (hB : BytesIs w v b) :
    Calls Try.prog 11 #[v] w (GetPost b w) := by
  have hB0 : BytesIs (w.alloc (.cells #[.int .i64 0, .string ⟨#[]⟩, .slice none 0 0, .int .i64 0, .int .i64 0, .int .i64 0] 27)) v b := hB.fr0 ((Fr.refl _ _).alloc _)
  have hnew := new_any v b hb _ hB0
  have hres := rowIs_new w #[.int .i64 0, .string ⟨#[]⟩, .slice none 0 0, .int .i64 0, .int .i64 0, .int .i64 0] 27 6 (ask6 0 ⟨#[]⟩ (.slice none 0 0) 0 0 0) rfl (fun i hi => by
      match i, hi with
      | 0, _ => rfl
      | 1, _ => rfl
      | 2, _ => rfl
      | 3, _ => rfl
      | 4, _ => rfl
      | 5, _ => rfl)
  have hfa : Fr0 w (w.alloc (.cells #[.int .i64 0, .string ⟨#[]⟩, .slice none 0 0, .int .i64 0, .int .i64 0, .int .i64 0] 27)) := (Fr.refl _ _).alloc _
  have hsa : (w.alloc (.cells #[.int .i64 0, .string ⟨#[]⟩, .slice none 0 0, .int .i64 0, .int .i64 0, .int .i64 0] 27)).heap.size = w.heap.size + 1 := by simp
  obtain ⟨va, vc, rfl⟩ := hB.form
  obtain ⟨W0, hW0⟩ : ∃ W0, W0 = w.alloc (.cells #[.int .i64 0, .string ⟨#[]⟩, .slice none 0 0, .int .i64 0, .int .i64 0, .int .i64 0] 27) := ⟨_, rfl⟩
  rw [← hW0] at hres hfa hsa
  simp only [← hW0] at hnew
  have HRES := Lib.hid hres
  have HFA := Lib.hid hfa
  have HW0 := Lib.hid hW0
  rw [hW0] at hnew
  clear hB hB0 hres hfa hW0
  go_enter Try.func11, Try.ntmps11
  go_wp2_with fail
  refine hnew.mono ?_
  clear hnew
  rw [← HW0.out]
  rintro e W1 ⟨gr, rfl, hgr, hR1, hF1⟩
  have hs1 := hF1.size
  have hgl := hR1.lt
  obtain ⟨B, hBB⟩ : ∃ B, B = W1.heap.size := ⟨_, rfl⟩
  have hr1 := RdP.of hR1
  rw [← hBB] at hr1
  have hn := ru8_old B gr b 0 W1 (by omega) hr1
  have HRES1 := Lib.hid (hF1.row HRES.out (fun f => f))
  have HF1 := Lib.hid (HFA.out.trans' hF1)
  have HBB : Hid (B = W1.heap.size) := Lib.hid hBB
  have hkk : num (cutOut 1 b) < 256 := cutOut_num 1 b
  have hl1 := cutRest_le 1 b
  clear hR1 hF1 hr1 HRES HFA hBB HW0
  go_wp2_with fail
  refine hn.mono ?_
  clear hn
  rintro e W2 ⟨rfl, hR2, hF2⟩
  have hsb : B ≤ W2.heap.size := by rw [HBB.out]; exact hF2.size
  have hgr2 : gr < W2.heap.size := hR2.rd.lt
  have hs2 : w.heap.size + 1 ≤ W2.heap.size := by have := hF2.size; omega
  have HRES2 := Lib.hid (hF2.row HRES1.out (fun h => by have h' : w.heap.size = gr := h; omega))
  have HF2 : Hid (Fr0 w W2) := Lib.hid (HF1.out.trans hF2 (fun i hi h => by have h' : i = gr := h; omega))
  have HR2 := Lib.hid hR2
  obtain ⟨K, hK⟩ : ∃ K, K = num (cutOut 1 b) := ⟨_, rfl⟩
  obtain ⟨b1, hb1⟩ : ∃ x, x = cutRest 1 b := ⟨_, rfl⟩
  obtain ⟨e1, he1⟩ : ∃ x, x = cutErr 1 b 0 := ⟨_, rfl⟩
  rw [← hK] at hkk ⊢
  rw [← hb1, ← he1] at HR2
  rw [← hb1] at hl1
  have HK := Lib.hid hK
  have HB1 := Lib.hid hb1
  have HE1 := Lib.hid he1
  clear hK hb1 he1 hR2 hF2 HRES1 HF1
  have hga := heap_alloc_new W2 (.cells #[.int .i64 0, .string ⟨#[]⟩, .slice none 0 0, .int .i64 0, .int .i64 0, .int .i64 0] 27)
  have hAP : PApart B w w.heap.size gr W2.heap.size := ⟨by omega, by omega, by omega, by omega, by omega, by omega, hsb⟩
  have hf3 : Fr0 W2 ((W2.alloc (.cells #[.int .i64 0, .string ⟨#[]⟩, .slice none 0 0, .int .i64 0, .int .i64 0, .int .i64 0] 27)).setRow W2.heap.size #[.int .i64 (K : Int), .string ⟨#[]⟩, .slice none 0 0, .int .i64 0, .int .i64 0, .int .i64 0]) := Fr.setRow ((Fr.refl _ _).alloc _) (fun h => absurd h (Nat.lt_irrefl _)) _
  have hN : PNow B w w.heap.size gr W2.heap.size b1 e1 (K : Int) ⟨#[]⟩ (.slice none 0 0) 0 0 0 ((W2.alloc (.cells #[.int .i64 0, .string ⟨#[]⟩, .slice none 0 0, .int .i64 0, .int .i64 0, .int .i64 0] 27)).setRow W2.heap.size #[.int .i64 (K : Int), .string ⟨#[]⟩, .slice none 0 0, .int .i64 0, .int .i64 0, .int .i64 0]) :=
    ⟨HR2.out.fr0 hf3, rowIs_of_cells (setRow_heap _ _ _ _ _ _ hga) rfl (fun i hi => by
      match i, hi with
      | 0, _ => rfl
      | 1, _ => rfl
      | 2, _ => rfl
      | 3, _ => rfl
      | 4, _ => rfl
      | 5, _ => rfl), hf3.row HRES2.out (fun f => f), HF2.out.trans' hf3⟩
  obtain ⟨W3, hW3⟩ : ∃ W3, W3 = (W2.alloc (.cells #[.int .i64 0, .string ⟨#[]⟩, .slice none 0 0, .int .i64 0, .int .i64 0, .int .i64 0] 27)).setRow W2.heap.size #[.int .i64 (K : Int), .string ⟨#[]⟩, .slice none 0 0, .int .i64 0, .int .i64 0, .int .i64 0] := ⟨_, rfl⟩
  have hs3 : W2.heap.size < W3.heap.size := by rw [hW3]; simp
  rw [← hW3] at hN
  have HW3 := Lib.hid hW3
  have HGA := Lib.hid hga
  have HN := Lib.hid hN
  have HAP := Lib.hid hAP
  clear hN hAP hf3 hga HR2 HRES2 HF2 hW3
  have her := err_any gr b1 e1 W3 HN.out.rd.rd
  cases b with
  | nil =>
    have hz : e1 = 3 := by rw [HE1.out]; rfl
    have HZ : Hid (getB [] = (zero, e1)) := Lib.hid (by rw [hz]; rfl)
    have hne : (e1 != 0) = true := by rw [hz]; rfl
    clear hz
    go_wp2_with (refine wpList_store_row rfl 27 _ _ rfl W2.heap.size #[.int .i64 (K : Int), .string ⟨#[]⟩, .slice none 0 0, .int .i64 0, .int .i64 0, .int .i64 0] rfl rfl 27 _ HGA.out infoAskP rfl (ask_one _ _ _ _ _ _ rfl) ?_; rw [← HW3.out])
    refine her.mono ?_
    rintro e wq ⟨rfl, rfl⟩
    go_wp2_with fail
    refine her.mono ?_
    clear her
    rintro e wq ⟨rfl, rfl⟩
    go_wp2_with (refine wpList_store_row rfl 27 _ _ rfl w.heap.size #[.int .i64 0, .string ⟨#[]⟩, .slice none 0 0, .int .i64 0, .int .i64 0, .int .i64 0] rfl rfl 27 _ HN.out.resH infoAskP rfl (ask_one _ _ _ _ _ _ rfl) ?_)
    have hz2 := setRow_heap W3 w.heap.size _ #[.int .i64 0, .string ⟨#[]⟩, .slice none 0 0, .int .i64 0, .int .i64 0, .int .i64 0] _ _ HN.out.resH
    have hfe : Fr0 w (W3.setRow w.heap.size #[.int .i64 0, .string ⟨#[]⟩, .slice none 0 0, .int .i64 0, .int .i64 0, .int .i64 0]) := Fr.setRow HN.out.fr (fun h => absurd h (Nat.lt_irrefl _)) _
    (try simp only [Exit.inBlock, Exit.then])
    refine bodyPost_ret (results_askP rfl _ _ w.heap.size _ rfl _ rfl hz2 infoAskP) rfl ⟨none, 0, ?_, ?_, hfe⟩
    · rw [HZ.out]; rfl
    · rw [HZ.out]; exact pairs_nil _
  | cons k l =>
    have hkk2 : K = k.toNat := by rw [HK.out, (cut1_cons k l 0).1]
    have hee : e1 = 0 := by rw [HE1.out, (cut1_cons k l 0).2.2]
    have hbl : b1 = l := by rw [HB1.out, (cut1_cons k l 0).2.1]
    rw [hee] at her HN
    rw [hbl] at HN hl1
    have HKK := Lib.hid hkk2
    clear hee hbl HB1 HE1 HK hkk2
    obtain ⟨k0, k1, k2, k3, k4, k5⟩ := HN.out.cells
    by_cases hC1 : ¬ (K : Int) = 1 ∧ ¬ (K : Int) = 2
    · obtain ⟨h1, h2⟩ := hC1
      have q1 : ((K : Int) != 1) = true := bne_iff_ne.2 h1
      have q2 : ((K : Int) != 2) = true := bne_iff_ne.2 h2
      have HZ : Hid (getB (k :: l) = (zero, 2)) := Lib.hid (getB_none (by have := HKK.out; omega) (by have := HKK.out; omega))
      clear h1 h2
      go_wp2_with (refine wpList_store_row rfl 27 _ _ rfl W2.heap.size #[.int .i64 (K : Int), .string ⟨#[]⟩, .slice none 0 0, .int .i64 0, .int .i64 0, .int .i64 0] rfl rfl 27 _ HGA.out infoAskP rfl (ask_one _ _ _ _ _ _ rfl) ?_; rw [← HW3.out])
      refine her.mono ?_
      clear her
      rintro e wq ⟨rfl, rfl⟩
      go_wp2_with (refine wpList_store_row rfl 27 _ _ rfl w.heap.size #[.int .i64 0, .string ⟨#[]⟩, .slice none 0 0, .int .i64 0, .int .i64 0, .int .i64 0] rfl rfl 27 _ HN.out.resH infoAskP rfl (ask_one _ _ _ _ _ _ rfl) ?_)
      have hz2 := setRow_heap W3 w.heap.size _ #[.int .i64 0, .string ⟨#[]⟩, .slice none 0 0, .int .i64 0, .int .i64 0, .int .i64 0] _ _ HN.out.resH
      have hfe : Fr0 w (W3.setRow w.heap.size #[.int .i64 0, .string ⟨#[]⟩, .slice none 0 0, .int .i64 0, .int .i64 0, .int .i64 0]) := Fr.setRow HN.out.fr (fun h => absurd h (Nat.lt_irrefl _)) _
      (try simp only [Exit.inBlock, Exit.then])
      refine bodyPost_ret (results_askP rfl _ _ w.heap.size _ rfl _ rfl hz2 infoAskP) rfl ⟨none, 0, ?_, ?_, hfe⟩
      · rw [HZ.out]; rfl
      · rw [HZ.out]; exact pairs_nil _
    · by_cases hk1 : (K : Int) = 1
      · have z1 : ((K : Int) != 1) = false := by rw [hk1]; rfl
        have q1 : ((K : Int) == 1) = true := by rw [hk1]; rfl
        have HKI : Hid ((K : Int) = 1) := Lib.hid hk1
        clear hk1 hC1
        have hby := rbytes_old B gr 16 l 0 W3 (by decide) (by have h := hb; simp at h; omega) HN.out.rd
        go_wp2_with (refine wpList_store_row rfl 27 _ _ rfl W2.heap.size #[.int .i64 (K : Int), .string ⟨#[]⟩, .slice none 0 0, .int .i64 0, .int .i64 0, .int .i64 0] rfl rfl 27 _ HGA.out infoAskP rfl (ask_one _ _ _ _ _ _ rfl) ?_; rw [← HW3.out])
        refine her.mono ?_
        clear her
        rintro e wq ⟨rfl, rfl⟩
        go_wp2_with fail
        refine hby.mono ?_
        clear hby
        rintro e W4 ⟨v4, rfl, hB4, hR4, hF4⟩
        obtain ⟨nm, hnm⟩ : ∃ x, x = bytesOut 16 l := ⟨_, rfl⟩
        obtain ⟨b2, hb2⟩ : ∃ x, x = bytesRest 16 l := ⟨_, rfl⟩
        obtain ⟨e2, he2⟩ : ∃ x, x = bytesErr 16 l 0 := ⟨_, rfl⟩
        have HNL : Hid (nm.length ≤ 65535) := Lib.hid (by rw [hnm]; have := bytesOut_le 16 l (by decide); omega)
        have hl2 : b2.length ≤ l.length := by rw [hb2]; exact bytesRest_le _ _
        rw [← hb2, ← he2] at hR4
        rw [← hnm] at hB4
        have HNM := Lib.hid hnm
        have HB2 := Lib.hid hb2
        have HE2 := Lib.hid he2
        have HN4 := Lib.hid (HN.out.read HAP.out hF4 hR4)
        have hcv := hB4.convert (P := Try.prog) 29 9 5 Try.underlying29 Try.underlying5 Try.underlying9
        have th1 := HN4.out.thaw 1
        have c1' := HN4.out.cells.2.1
        have hs4 : W2.heap.size < W4.heap.size := Nat.lt_of_lt_of_le hs3 hF4.size
        have HN5 := Lib.hid (HN4.out.set HAP.out 1 (.string ⟨nm.toArray⟩) (k' := (K : Int)) (nm' := ⟨nm.toArray⟩) (sv' := .slice none 0 0) (f' := 0) (t' := 0) (wn' := 0) (fun j hj => by
          match j, hj with
          | 0, _ => rfl
          | 1, _ => rfl
          | 2, _ => rfl
          | 3, _ => rfl
          | 4, _ => rfl
          | 5, _ => rfl))
        clear hnm hb2 he2 hR4 hF4 hB4 k0 k1 k2 k3 k4 k5
        have k0 := HN5.out.cells.1
        have hs5 : W2.heap.size < (W4.setCell ⟨W2.heap.size, 1, none⟩ (.string ⟨nm.toArray⟩)).heap.size := by simpa [World.setCell] using hs4
        obtain ⟨W5, hW5⟩ : ∃ W5, W5 = W4.setCell ⟨W2.heap.size, 1, none⟩ (.string ⟨nm.toArray⟩) := ⟨_, rfl⟩
        rw [← hW5] at HN5 hs5
        have hsm := getSamples_any B gr b2 e2 W5 (by have h := hb; simp at h; omega) (by have := HAP.out.ob; omega) HN5.out.rd
        rw [hW5] at hsm
        have HW5 := Lib.hid hW5
        clear hW5
        go_wp2_with fail
        refine hsm.mono ?_
        clear hsm
        rw [← HW5.out]
        rintro e W6 ⟨A, C, S, bb, ee, rfl, hPS, hSl, hbl2, hA, hnb, hR6, hF6⟩
        have HN6 := Lib.hid (HN5.out.read HAP.out hF6 hR6)
        have hpp := pget_p (k := k) (l := l) (S := S) (bb := bb) (e := ee) (by have h1 := HKI.out; have h2 := HKK.out; omega) (by rw [← HB2.out, ← HE2.out]; exact hA)
        rw [← HNM.out] at hpp
        have HV : Hid ((¬ ee = 0 → getB (k :: l) = (zero, ee)) ∧ (ee = 0 → getB (k :: l) = fin ⟨(K : Int), nm, S, 0, 0, 0⟩ bb)) := Lib.hid ⟨hpp.1, fun h => by rw [hpp.2 h, HKI.out]⟩
        have th2 := HN6.out.thaw 2
        have c2' := HN6.out.cells.2.2.1
        have HN := Lib.hid (HN6.out.set HAP.out 2 (.slice A S.length C) (k' := (K : Int)) (nm' := ⟨nm.toArray⟩) (sv' := .slice A S.length C) (f' := 0) (t' := 0) (wn' := 0) (fun j hj => by
          match j, hj with
          | 0, _ => rfl
          | 1, _ => rfl
          | 2, _ => rfl
          | 3, _ => rfl
          | 4, _ => rfl
          | 5, _ => rfl))
        have hfs7 : Fr (fun j => j = W2.heap.size) W6 (W6.setCell ⟨W2.heap.size, 2, none⟩ (.slice A S.length C)) := Fr.setCell (S := fun j => j = W2.heap.size) (p := ⟨W2.heap.size, 2, none⟩) (Fr.refl _ _) (fun _ => rfl) _
        have hbig : ∀ q n c, Value.slice A S.length C = .slice (some q) n c → W5.heap.size ≤ q.block := fun q n c h => by
          simp only [Value.slice.injEq] at h
          exact hnb q h.1
        have HPS := Lib.hid (pairs_fr hPS hfs7 (fun q n c h _ e => by have h1 := hbig q n c h; have h2 : q.block = W2.heap.size := e; omega))
        have HOFF : Hid (∀ q n c, Value.slice A S.length C = .slice (some q) n c → 0 < S.length → ¬ q.block = w.heap.size) := Lib.hid (fun q n c h _ e => by have h1 := hbig q n c h; omega)
        clear hPS hA hnb hR6 hF6 hfs7 hbig hpp k0 hcv th1 c1'
        generalize hW7 : W6.setCell ⟨W2.heap.size, 2, none⟩ (.slice A S.length C) = W7 at *
        have HW7 := Lib.hid hW7.symm
        clear hW7
        have her := err_any gr bb ee W7 HN.out.rd.rd
        by_cases he : ee = 0
        · have HVAL := Lib.hid (HV.out.2 he)
          have HNZ : Hid (PNow B w w.heap.size gr W2.heap.size bb 0 ((K : Int)) ⟨nm.toArray⟩ (.slice (A) (S).length (C)) (0) (0) (0) W7) := Lib.hid (by have h := HN.out; rw [he] at h; exact h)
          rw [he] at her
          have hlf := left_any gr bb 0 W7 HNZ.out.rd.rd
          clear he
          by_cases hbb : 0 < bb.length
          · have HZ : Hid (getB (k :: l) = (zero, 2)) := Lib.hid (by rw [HVAL.out]; unfold fin; rw [if_pos (.inl hbb)])
            have hbb2 : (0 : Int) < (bb.length : Int) := by omega
            go_wp2_with fail
            rw [← HW7.out]
            refine her.mono ?_
            clear her
            rintro e wq ⟨rfl, rfl⟩
            go_wp2_with fail
            refine hlf.mono ?_
            clear hlf
            rintro e wq ⟨rfl, rfl⟩
            go_wp2_with (refine wpList_store_row rfl 27 _ _ rfl w.heap.size #[.int .i64 0, .string ⟨#[]⟩, .slice none 0 0, .int .i64 0, .int .i64 0, .int .i64 0] rfl rfl 27 _ HNZ.out.resH infoAskP rfl (ask_one _ _ _ _ _ _ rfl) ?_)
            have hz2 := setRow_heap W7 w.heap.size _ #[.int .i64 0, .string ⟨#[]⟩, .slice none 0 0, .int .i64 0, .int .i64 0, .int .i64 0] _ _ HNZ.out.resH
            have hfe : Fr0 w (W7.setRow w.heap.size #[.int .i64 0, .string ⟨#[]⟩, .slice none 0 0, .int .i64 0, .int .i64 0, .int .i64 0]) := Fr.setRow HNZ.out.fr (fun h => absurd h (Nat.lt_irrefl _)) _
            (try simp only [Exit.inBlock, Exit.then])
            refine bodyPost_ret (results_askP rfl _ _ w.heap.size _ rfl _ rfl hz2 infoAskP) rfl ⟨none, 0, ?_, ?_, hfe⟩
            · rw [HZ.out]; rfl
            · rw [HZ.out]; exact pairs_nil _
          · have hgd := pgood_any (A) (C) ⟨(K : Int), nm, S, 0, 0, 0⟩ (show nm.length ≤ 9223372036854775807 by have := HNL.out; omega) W7
            have hah := HNZ.out.askH
            unfold rv at hgd
            simp only at hgd
            obtain ⟨G, hG⟩ : ∃ G, G = good ⟨(K : Int), nm, S, 0, 0, 0⟩ := ⟨_, rfl⟩
            rw [← hG] at hgd
            have HG := Lib.hid hG
            clear hG
            obtain ⟨l0, l1, l2, l3, l4, l5⟩ := HNZ.out.cells
            have hbb2 : ¬ (0 : Int) < (bb.length : Int) := by omega
            go_wp2_with fail
            rw [← HW7.out]
            refine her.mono ?_
            clear her
            rintro e wq ⟨rfl, rfl⟩
            go_wp2_with fail
            refine hlf.mono ?_
            clear hlf
            rintro e wq ⟨rfl, rfl⟩
            go_wp2_with (refine wpList_load_row rfl 27 _ rfl W2.heap.size rfl 27 _ (0, 0) _ hah Try.underlying27 rfl (by kernel_rfl) ?_)
            refine hgd.mono ?_
            clear hgd
            rintro e We ⟨rfl, hFe⟩
            have HNE := Lib.hid (HNZ.out.fr0 hFe)
            cases G with
            | false =>
              have HZ : Hid (getB (k :: l) = (zero, 2)) := Lib.hid (by rw [HVAL.out]; unfold fin; rw [if_pos (.inr HG.out.symm)])
              clear hah
              go_wp2_with (refine wpList_store_row rfl 27 _ _ rfl w.heap.size #[.int .i64 0, .string ⟨#[]⟩, .slice none 0 0, .int .i64 0, .int .i64 0, .int .i64 0] rfl rfl 27 _ HNE.out.resH infoAskP rfl (ask_one _ _ _ _ _ _ rfl) ?_)
              have hz2 := setRow_heap We w.heap.size _ #[.int .i64 0, .string ⟨#[]⟩, .slice none 0 0, .int .i64 0, .int .i64 0, .int .i64 0] _ _ HNE.out.resH
              have hfe : Fr0 w (We.setRow w.heap.size #[.int .i64 0, .string ⟨#[]⟩, .slice none 0 0, .int .i64 0, .int .i64 0, .int .i64 0]) := Fr.setRow HNE.out.fr (fun h => absurd h (Nat.lt_irrefl _)) _
              (try simp only [Exit.inBlock, Exit.then])
              refine bodyPost_ret (results_askP rfl _ _ w.heap.size _ rfl _ rfl hz2 infoAskP) rfl ⟨none, 0, ?_, ?_, hfe⟩
              · rw [HZ.out]; rfl
              · rw [HZ.out]; exact pairs_nil _
            | true =>
              have HZ : Hid (getB (k :: l) = (⟨(K : Int), nm, S, 0, 0, 0⟩, 0)) := Lib.hid (by rw [HVAL.out]; unfold fin; rw [if_neg (fun h => by
                rcases h with h | h
                · exact hbb h
                · rw [← HG.out] at h
                  cases h)])
              have hae := HNE.out.askH
              have HPE := Lib.hid (HPS.out.fr0 hFe)
              clear hah hFe
              go_wp2_with (first | (refine wpList_load_row rfl 27 _ rfl W2.heap.size rfl 27 _ (0, 0) _ hae Try.underlying27 rfl (by kernel_rfl) ?_) | (refine wpList_store_row rfl 27 _ _ rfl w.heap.size #[.int .i64 ((K : Int)), .string ⟨nm.toArray⟩, .slice (A) (S).length (C), .int .i64 (0), .int .i64 (0), .int .i64 (0)] rfl rfl 27 _ HNE.out.resH infoAskP rfl (ask_one _ _ _ _ _ _ rfl) ?_))
              have hz2 := setRow_heap We w.heap.size _ #[.int .i64 ((K : Int)), .string ⟨nm.toArray⟩, .slice (A) (S).length (C), .int .i64 (0), .int .i64 (0), .int .i64 (0)] _ _ HNE.out.resH
              have hfs : Fr (fun j => j = w.heap.size) We (We.setRow w.heap.size #[.int .i64 ((K : Int)), .string ⟨nm.toArray⟩, .slice (A) (S).length (C), .int .i64 (0), .int .i64 (0), .int .i64 (0)]) := Fr.setRow (S := fun j => j = w.heap.size) (Fr.refl _ _) (fun _ => rfl) _
              have hfe : Fr0 w (We.setRow w.heap.size #[.int .i64 ((K : Int)), .string ⟨nm.toArray⟩, .slice (A) (S).length (C), .int .i64 (0), .int .i64 (0), .int .i64 (0)]) := Fr.setRow HNE.out.fr (fun h => absurd h (Nat.lt_irrefl _)) _
              (try simp only [Exit.inBlock, Exit.then])
              refine bodyPost_ret (results_askP rfl _ _ w.heap.size _ rfl _ rfl hz2 infoAskP) rfl ⟨A, C, ?_, ?_, hfe⟩
              · rw [HZ.out]; rfl
              · rw [HZ.out]
                exact pairs_fr HPE.out hfs HOFF.out
        · have HZ : Hid (getB (k :: l) = (zero, ee)) := Lib.hid (HV.out.1 he)
          have hne : (ee != 0) = true := bne_iff_ne.2 he
          go_wp2_with fail
          rw [← HW7.out]
          refine her.mono ?_
          rintro e wq ⟨rfl, rfl⟩
          go_wp2_with fail
          refine her.mono ?_
          clear her
          rintro e wq ⟨rfl, rfl⟩
          go_wp2_with (refine wpList_store_row rfl 27 _ _ rfl w.heap.size #[.int .i64 0, .string ⟨#[]⟩, .slice none 0 0, .int .i64 0, .int .i64 0, .int .i64 0] rfl rfl 27 _ HN.out.resH infoAskP rfl (ask_one _ _ _ _ _ _ rfl) ?_)
          have hz2 := setRow_heap W7 w.heap.size _ #[.int .i64 0, .string ⟨#[]⟩, .slice none 0 0, .int .i64 0, .int .i64 0, .int .i64 0] _ _ HN.out.resH
          have hfe : Fr0 w (W7.setRow w.heap.size #[.int .i64 0, .string ⟨#[]⟩, .slice none 0 0, .int .i64 0, .int .i64 0, .int .i64 0]) := Fr.setRow HN.out.fr (fun h => absurd h (Nat.lt_irrefl _)) _
          (try simp only [Exit.inBlock, Exit.then])
          refine bodyPost_ret (results_askP rfl _ _ w.heap.size _ rfl _ rfl hz2 infoAskP) rfl ⟨none, 0, ?_, ?_, hfe⟩
          · rw [HZ.out]; rfl
          · rw [HZ.out]; exact pairs_nil _
      · have hk2 : (K : Int) = 2 := by
          by_cases h : (K : Int) = 2
          · exact h
          · exact absurd ⟨hk1, h⟩ hC1
        have z1 : ((K : Int) != 1) = true := bne_iff_ne.2 hk1
        have q1 : ((K : Int) == 1) = false := beq_eq_false_iff_ne.2 hk1
        have z2 : ((K : Int) != 2) = false := by rw [hk2]; rfl
        have HKI : Hid ((K : Int) = 2) := Lib.hid hk2
        clear hk1 hk2 hC1
        have hby := rbytes_old B gr 16 l 0 W3 (by decide) (by have h := hb; simp at h; omega) HN.out.rd
        go_wp2_with (refine wpList_store_row rfl 27 _ _ rfl W2.heap.size #[.int .i64 (K : Int), .string ⟨#[]⟩, .slice none 0 0, .int .i64 0, .int .i64 0, .int .i64 0] rfl rfl 27 _ HGA.out infoAskP rfl (ask_one _ _ _ _ _ _ rfl) ?_; rw [← HW3.out])
        refine her.mono ?_
        clear her
        rintro e wq ⟨rfl, rfl⟩
        go_wp2_with fail
        refine hby.mono ?_
        clear hby
        rintro e W4 ⟨v4, rfl, hB4, hR4, hF4⟩
        obtain ⟨nm, hnm⟩ : ∃ x, x = bytesOut 16 l := ⟨_, rfl⟩
        obtain ⟨b2, hb2⟩ : ∃ x, x = bytesRest 16 l := ⟨_, rfl⟩
        obtain ⟨e2, he2⟩ : ∃ x, x = bytesErr 16 l 0 := ⟨_, rfl⟩
        have HNL : Hid (nm.length ≤ 65535) := Lib.hid (by rw [hnm]; have := bytesOut_le 16 l (by decide); omega)
        have hl2 : b2.length ≤ l.length := by rw [hb2]; exact bytesRest_le _ _
        rw [← hb2, ← he2] at hR4
        rw [← hnm] at hB4
        have HNM := Lib.hid hnm
        have HB2 := Lib.hid hb2
        have HE2 := Lib.hid he2
        have HN4 := Lib.hid (HN.out.read HAP.out hF4 hR4)
        have hcv := hB4.convert (P := Try.prog) 29 9 5 Try.underlying29 Try.underlying5 Try.underlying9
        have th1 := HN4.out.thaw 1
        have c1' := HN4.out.cells.2.1
        have hs4 : W2.heap.size < W4.heap.size := Nat.lt_of_lt_of_le hs3 hF4.size
        have HN5 := Lib.hid (HN4.out.set HAP.out 1 (.string ⟨nm.toArray⟩) (k' := (K : Int)) (nm' := ⟨nm.toArray⟩) (sv' := .slice none 0 0) (f' := 0) (t' := 0) (wn' := 0) (fun j hj => by
          match j, hj with
          | 0, _ => rfl
          | 1, _ => rfl
          | 2, _ => rfl
          | 3, _ => rfl
          | 4, _ => rfl
          | 5, _ => rfl))
        clear hnm hb2 he2 hR4 hF4 hB4 k0 k1 k2 k3 k4 k5
        have k0 := HN5.out.cells.1
        have hs5 : W2.heap.size < (W4.setCell ⟨W2.heap.size, 1, none⟩ (.string ⟨nm.toArray⟩)).heap.size := by simpa [World.setCell] using hs4
        obtain ⟨W5, hW5⟩ : ∃ W5, W5 = W4.setCell ⟨W2.heap.size, 1, none⟩ (.string ⟨nm.toArray⟩) := ⟨_, rfl⟩
        rw [← hW5] at HN5 hs5
        have h2 := getTwo_any B gr b2 e2 W5 (by have h := hb; simp at h; omega) HN5.out.rd
        rw [hW5] at h2
        have HW5 := Lib.hid hW5
        clear hW5
        obtain ⟨F, hFF⟩ : ∃ x, x = un (num (cutOut 8 b2)) := ⟨_, rfl⟩
        obtain ⟨b3, hb3⟩ : ∃ x, x = cutRest 8 b2 := ⟨_, rfl⟩
        obtain ⟨e3, he3⟩ : ∃ x, x = cutErr 8 b2 e2 := ⟨_, rfl⟩
        rw [← hFF, ← hb3, ← he3] at h2
        obtain ⟨TT, hTT⟩ : ∃ x, x = un (num (cutOut 8 b3)) := ⟨_, rfl⟩
        obtain ⟨b4, hb4⟩ : ∃ x, x = cutRest 8 b3 := ⟨_, rfl⟩
        obtain ⟨e4, he4⟩ : ∃ x, x = cutErr 8 b3 e3 := ⟨_, rfl⟩
        rw [← hTT, ← hb4, ← he4] at h2
        have hl4 : b4.length ≤ l.length := by rw [hb4, hb3]; exact Nat.le_trans (cutRest_le _ _) (Nat.le_trans (cutRest_le _ _) hl2)
        have HFF := Lib.hid hFF
        have HB3 := Lib.hid hb3
        have HE3 := Lib.hid he3
        have HTT := Lib.hid hTT
        have HB4 := Lib.hid hb4
        have HE4 := Lib.hid he4
        clear hFF hb3 he3 hTT hb4 he4
        go_wp2_with fail
        refine h2.mono ?_
        clear h2
        rw [← HW5.out]
        rintro e W6 ⟨rfl, hR6, hF6⟩
        have HN6 := Lib.hid (HN5.out.read HAP.out hF6 hR6)
        have th3 := HN6.out.thaw 3
        have c3' := HN6.out.cells.2.2.2.1
        have HN7 := Lib.hid (HN6.out.set HAP.out 3 (.int .i64 F) (k' := (K : Int)) (nm' := ⟨nm.toArray⟩) (sv' := .slice none 0 0) (f' := F) (t' := 0) (wn' := 0) (fun j hj => by
          match j, hj with
          | 0, _ => rfl
          | 1, _ => rfl
          | 2, _ => rfl
          | 3, _ => rfl
          | 4, _ => rfl
          | 5, _ => rfl))
        have th4 := HN7.out.thaw 4
        have c4' := HN7.out.cells.2.2.2.2.1
        have HN8 := Lib.hid (HN7.out.set HAP.out 4 (.int .i64 TT) (k' := (K : Int)) (nm' := ⟨nm.toArray⟩) (sv' := .slice none 0 0) (f' := F) (t' := TT) (wn' := 0) (fun j hj => by
          match j, hj with
          | 0, _ => rfl
          | 1, _ => rfl
          | 2, _ => rfl
          | 3, _ => rfl
          | 4, _ => rfl
          | 5, _ => rfl))
        have hu8 := ru8_old B gr b4 e4 _ (by have h := hb; simp at h; omega) HN8.out.rd
        have hnn : num (cutOut 1 b4) < 256 := cutOut_num 1 b4
        obtain ⟨N, hN⟩ : ∃ x, x = num (cutOut 1 b4) := ⟨_, rfl⟩
        obtain ⟨bb, hbb5⟩ : ∃ x, x = cutRest 1 b4 := ⟨_, rfl⟩
        obtain ⟨ee, hee5⟩ : ∃ x, x = cutErr 1 b4 e4 := ⟨_, rfl⟩
        have hpp := pget_q (k := k) (l := l) (by have h1 := HKI.out; have h2 := HKK.out; omega) HB2.out HE2.out HB3.out HE3.out HB4.out HE4.out
        rw [← hN, ← hbb5, ← hee5, ← HFF.out, ← HTT.out, ← HNM.out] at hpp
        have HV : Hid ((¬ ee = 0 → getB (k :: l) = (zero, ee)) ∧ (ee = 0 → getB (k :: l) = fin ⟨(K : Int), nm, [], F, TT, (N : Int)⟩ bb)) := Lib.hid ⟨hpp.1, fun h => by rw [hpp.2 h, HKI.out]⟩
        rw [← hN, ← hbb5, ← hee5] at hu8
        rw [← hN] at hnn
        clear hN hbb5 hee5 hpp hR6 hF6 k0 hcv th1 c1'
        go_wp2_with fail
        refine hu8.mono ?_
        clear hu8
        rintro e W9 ⟨rfl, hR9, hF9⟩
        have HN9 := Lib.hid (HN8.out.read HAP.out hF9 hR9)
        have th5 := HN9.out.thaw 5
        have c5' := HN9.out.cells.2.2.2.2.2
        have HN := Lib.hid (HN9.out.set HAP.out 5 (.int .i64 (N : Int)) (k' := (K : Int)) (nm' := ⟨nm.toArray⟩) (sv' := .slice none 0 0) (f' := F) (t' := TT) (wn' := (N : Int)) (fun j hj => by
          match j, hj with
          | 0, _ => rfl
          | 1, _ => rfl
          | 2, _ => rfl
          | 3, _ => rfl
          | 4, _ => rfl
          | 5, _ => rfl))
        clear hR9 hF9 th3 th4 c3' c4'
        have HPS := Lib.hid (pairs_nil (W9.setCell ⟨W2.heap.size, 5, none⟩ (.int .i64 (N : Int))))
        have HOFF : Hid (∀ q n c, Value.slice none ([] : List (Int × Int)).length 0 = .slice (some q) n c → 0 < ([] : List (Int × Int)).length → ¬ q.block = w.heap.size) := Lib.hid (fun q n c h _ e => by cases h)
        generalize hW7 : W9.setCell ⟨W2.heap.size, 5, none⟩ (.int .i64 (N : Int)) = W7 at *
        have HW7 := Lib.hid hW7.symm
        clear hW7
        have her := err_any gr bb ee W7 HN.out.rd.rd
        by_cases he : ee = 0
        · have HVAL := Lib.hid (HV.out.2 he)
          have HNZ : Hid (PNow B w w.heap.size gr W2.heap.size bb 0 ((K : Int)) ⟨nm.toArray⟩ (.slice (none) (([] : List (Int × Int))).length (0)) (F) (TT) ((N : Int)) W7) := Lib.hid (by have h := HN.out; rw [he] at h; exact h)
          rw [he] at her
          have hlf := left_any gr bb 0 W7 HNZ.out.rd.rd
          clear he
          by_cases hbb : 0 < bb.length
          · have HZ : Hid (getB (k :: l) = (zero, 2)) := Lib.hid (by rw [HVAL.out]; unfold fin; rw [if_pos (.inl hbb)])
            have hbb2 : (0 : Int) < (bb.length : Int) := by omega
            go_wp2_with fail
            rw [← HW7.out]
            refine her.mono ?_
            clear her
            rintro e wq ⟨rfl, rfl⟩
            go_wp2_with fail
            refine hlf.mono ?_
            clear hlf
            rintro e wq ⟨rfl, rfl⟩
            go_wp2_with (refine wpList_store_row rfl 27 _ _ rfl w.heap.size #[.int .i64 0, .string ⟨#[]⟩, .slice none 0 0, .int .i64 0, .int .i64 0, .int .i64 0] rfl rfl 27 _ HNZ.out.resH infoAskP rfl (ask_one _ _ _ _ _ _ rfl) ?_)
            have hz2 := setRow_heap W7 w.heap.size _ #[.int .i64 0, .string ⟨#[]⟩, .slice none 0 0, .int .i64 0, .int .i64 0, .int .i64 0] _ _ HNZ.out.resH
            have hfe : Fr0 w (W7.setRow w.heap.size #[.int .i64 0, .string ⟨#[]⟩, .slice none 0 0, .int .i64 0, .int .i64 0, .int .i64 0]) := Fr.setRow HNZ.out.fr (fun h => absurd h (Nat.lt_irrefl _)) _
            (try simp only [Exit.inBlock, Exit.then])
            refine bodyPost_ret (results_askP rfl _ _ w.heap.size _ rfl _ rfl hz2 infoAskP) rfl ⟨none, 0, ?_, ?_, hfe⟩
            · rw [HZ.out]; rfl
            · rw [HZ.out]; exact pairs_nil _
          · have hgd := pgood_any (none) (0) ⟨(K : Int), nm, ([] : List (Int × Int)), F, TT, (N : Int)⟩ (show nm.length ≤ 9223372036854775807 by have := HNL.out; omega) W7
            have hah := HNZ.out.askH
            unfold rv at hgd
            simp only at hgd
            obtain ⟨G, hG⟩ : ∃ G, G = good ⟨(K : Int), nm, ([] : List (Int × Int)), F, TT, (N : Int)⟩ := ⟨_, rfl⟩
            rw [← hG] at hgd
            have HG := Lib.hid hG
            clear hG
            obtain ⟨l0, l1, l2, l3, l4, l5⟩ := HNZ.out.cells
            have hbb2 : ¬ (0 : Int) < (bb.length : Int) := by omega
            go_wp2_with fail
            rw [← HW7.out]
            refine her.mono ?_
            clear her
            rintro e wq ⟨rfl, rfl⟩
            go_wp2_with fail
            refine hlf.mono ?_
            clear hlf
            rintro e wq ⟨rfl, rfl⟩
            go_wp2_with (refine wpList_load_row rfl 27 _ rfl W2.heap.size rfl 27 _ (0, 0) _ hah Try.underlying27 rfl (by kernel_rfl) ?_)
            refine hgd.mono ?_
            clear hgd
            rintro e We ⟨rfl, hFe⟩
            have HNE := Lib.hid (HNZ.out.fr0 hFe)
            cases G with
            | false =>
              have HZ : Hid (getB (k :: l) = (zero, 2)) := Lib.hid (by rw [HVAL.out]; unfold fin; rw [if_pos (.inr HG.out.symm)])
              clear hah
              go_wp2_with (refine wpList_store_row rfl 27 _ _ rfl w.heap.size #[.int .i64 0, .string ⟨#[]⟩, .slice none 0 0, .int .i64 0, .int .i64 0, .int .i64 0] rfl rfl 27 _ HNE.out.resH infoAskP rfl (ask_one _ _ _ _ _ _ rfl) ?_)
              have hz2 := setRow_heap We w.heap.size _ #[.int .i64 0, .string ⟨#[]⟩, .slice none 0 0, .int .i64 0, .int .i64 0, .int .i64 0] _ _ HNE.out.resH
              have hfe : Fr0 w (We.setRow w.heap.size #[.int .i64 0, .string ⟨#[]⟩, .slice none 0 0, .int .i64 0, .int .i64 0, .int .i64 0]) := Fr.setRow HNE.out.fr (fun h => absurd h (Nat.lt_irrefl _)) _
              (try simp only [Exit.inBlock, Exit.then])
              refine bodyPost_ret (results_askP rfl _ _ w.heap.size _ rfl _ rfl hz2 infoAskP) rfl ⟨none, 0, ?_, ?_, hfe⟩
              · rw [HZ.out]; rfl
              · rw [HZ.out]; exact pairs_nil _
            | true =>
              have HZ : Hid (getB (k :: l) = (⟨(K : Int), nm, ([] : List (Int × Int)), F, TT, (N : Int)⟩, 0)) := Lib.hid (by rw [HVAL.out]; unfold fin; rw [if_neg (fun h => by
                rcases h with h | h
                · exact hbb h
                · rw [← HG.out] at h
                  cases h)])
              have hae := HNE.out.askH
              have HPE := Lib.hid (HPS.out.fr0 hFe)
              clear hah hFe
              go_wp2_with (first | (refine wpList_load_row rfl 27 _ rfl W2.heap.size rfl 27 _ (0, 0) _ hae Try.underlying27 rfl (by kernel_rfl) ?_) | (refine wpList_store_row rfl 27 _ _ rfl w.heap.size #[.int .i64 ((K : Int)), .string ⟨nm.toArray⟩, .slice (none) (([] : List (Int × Int))).length (0), .int .i64 (F), .int .i64 (TT), .int .i64 ((N : Int))] rfl rfl 27 _ HNE.out.resH infoAskP rfl (ask_one _ _ _ _ _ _ rfl) ?_))
              have hz2 := setRow_heap We w.heap.size _ #[.int .i64 ((K : Int)), .string ⟨nm.toArray⟩, .slice (none) (([] : List (Int × Int))).length (0), .int .i64 (F), .int .i64 (TT), .int .i64 ((N : Int))] _ _ HNE.out.resH
              have hfs : Fr (fun j => j = w.heap.size) We (We.setRow w.heap.size #[.int .i64 ((K : Int)), .string ⟨nm.toArray⟩, .slice (none) (([] : List (Int × Int))).length (0), .int .i64 (F), .int .i64 (TT), .int .i64 ((N : Int))]) := Fr.setRow (S := fun j => j = w.heap.size) (Fr.refl _ _) (fun _ => rfl) _
              have hfe : Fr0 w (We.setRow w.heap.size #[.int .i64 ((K : Int)), .string ⟨nm.toArray⟩, .slice (none) (([] : List (Int × Int))).length (0), .int .i64 (F), .int .i64 (TT), .int .i64 ((N : Int))]) := Fr.setRow HNE.out.fr (fun h => absurd h (Nat.lt_irrefl _)) _
              (try simp only [Exit.inBlock, Exit.then])
              refine bodyPost_ret (results_askP rfl _ _ w.heap.size _ rfl _ rfl hz2 infoAskP) rfl ⟨none, 0, ?_, ?_, hfe⟩
              · rw [HZ.out]; rfl
              · rw [HZ.out]
                exact pairs_fr HPE.out hfs HOFF.out
        · have HZ : Hid (getB (k :: l) = (zero, ee)) := Lib.hid (HV.out.1 he)
          have hne : (ee != 0) = true := bne_iff_ne.2 he
          go_wp2_with fail
          rw [← HW7.out]
          refine her.mono ?_
          rintro e wq ⟨rfl, rfl⟩
          go_wp2_with fail
          refine her.mono ?_
          clear her
          rintro e wq ⟨rfl, rfl⟩
          go_wp2_with (refine wpList_store_row rfl 27 _ _ rfl w.heap.size #[.int .i64 0, .string ⟨#[]⟩, .slice none 0 0, .int .i64 0, .int .i64 0, .int .i64 0] rfl rfl 27 _ HN.out.resH infoAskP rfl (ask_one _ _ _ _ _ _ rfl) ?_)
          have hz2 := setRow_heap W7 w.heap.size _ #[.int .i64 0, .string ⟨#[]⟩, .slice none 0 0, .int .i64 0, .int .i64 0, .int .i64 0] _ _ HN.out.resH
          have hfe : Fr0 w (W7.setRow w.heap.size #[.int .i64 0, .string ⟨#[]⟩, .slice none 0 0, .int .i64 0, .int .i64 0, .int .i64 0]) := Fr.setRow HN.out.fr (fun h => absurd h (Nat.lt_irrefl _)) _
          (try simp only [Exit.inBlock, Exit.then])
          refine bodyPost_ret (results_askP rfl _ _ w.heap.size _ rfl _ rfl hz2 infoAskP) rfl ⟨none, 0, ?_, ?_, hfe⟩
          · rw [HZ.out]; rfl
          · rw [HZ.out]; exact pairs_nil _
end Go.Proofs.Ytemfohccnpopfaa.Ask
