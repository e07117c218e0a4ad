/-
  The program's next.
-/
import Derived.Test.YtjefddliebokaaaReplyGoGood
import Derived.Test.YtjefddliebokaaaReplyGoM
import Derived.Test.YtjefddliebokaaaPackReadN
import Derived.Test.YtjefddliebokaaaMix
import Derived.Deep.DeepCutAuto
namespace Go.Proofs.Ytjefddliebokaaa.Reply
open Go.RowKit Base Pack

theorem bytesOut_small (m : Int) (b : List UInt8) : (bytesOut m b).length ≤ 65535 := by
  unfold bytesOut
  have hx : num (cutOut 2 b) < 65536 := cutOut_num 2 b
  have h := cutOut_length (num (cutOut 2 b)) (cutRest 2 b)
  split
  · simp
  · omega
theorem cutRest_le (n : Nat) (l : List UInt8) : (cutRest n l).length ≤ l.length := by unfold cutRest; split <;> simp
theorem bytesRest_le (m : Int) (l : List UInt8) : (bytesRest m l).length ≤ l.length := by
  unfold bytesRest
  split
  · simp
  · exact Nat.le_trans (cutRest_le _ _) (cutRest_le _ _)
theorem infoRG : (Try.prog.info? 27).map (·.size) = some 4 := by kernel_rfl
theorem results_n2 {fn : Func} {p u : Tmp} (h : fn.results = #[.cell p 27, .tmp u]) (tmps : Array Value) (w : World) (g : Nat) (cs : Array Value) (hp : tmps.getD p undef = .pointer (some ⟨g, 0, none⟩)) (v : Value) (hu : tmps.getD u undef = v) (hg : w.heap[g]? = some (.cells cs 27 (0, 0))) (hi : (Try.prog.info? 27).map (·.size) = some cs.size) :
    (results fn tmps).run Try.prog w = .ok (.tuple #[.agg cs, v]) w := by
  have hp' : tmps[p]?.getD undef = .pointer (some ⟨g, 0, none⟩) := by simpa using hp
  have hq' : tmps[u]?.getD undef = v := by simpa using hu
  simp [results, h, hp', hq', asAddr, run_loadVar_row w g 27 27 cs (0, 0) _ hg Try.underlying27 rfl hi]
/-- what next keeps while it reads -/
structure NNow (B : Nat) (w : World) (g g0 ga : Nat) (b : List UInt8) (e : Int) (sv : Value) (r : Rp) (W : World) : Prop where
  rd : RdP B W g b e
  bx : Bx 27 W ga sv r
  res : Bx 27 W g0 (.slice none 0 0) zero
  fr : Fr1 g w W
structure NApart (B : Nat) (w : World) (g g0 ga : Nat) : Prop where
  n3 : ga ≠ g0
  gl : g < w.heap.size
  o0 : w.heap.size ≤ g0
  o2 : w.heap.size ≤ ga
  ob : B ≤ w.heap.size
section
variable {B : Nat} {w W W' : World} {g g0 ga : Nat} {b b' : List UInt8} {e e' : Int} {sv : Value} {r : Rp}
theorem NNow.fr0 (h : NNow B w g g0 ga b e sv r W) (hf : Fr0 W W') : NNow B w g g0 ga b e sv r W' := ⟨h.rd.fr0 hf, h.bx.fr0 hf, h.res.fr0 hf, h.fr.trans hf (fun _ _ f => f.elim)⟩
theorem NNow.read (h : NNow B w g g0 ga b e sv r W) (hA : NApart B w g g0 ga) (hf : Fr1 g W W') (hr : RdP B W' g b' e') : NNow B w g g0 ga b' e' sv r W' :=
  ⟨hr, h.bx.fr hf (fun h => by have h' : ga = g := h; have := hA.gl; have := hA.o2; omega), h.res.fr hf (fun h => by have h' : g0 = g := h; have := hA.gl; have := hA.o0; omega), h.fr.trans hf (fun i hi h => h)⟩
theorem NNow.turn (h : NNow B w g g0 ga b e sv r W) (hA : NApart B w g g0 ga) (hf : Fr (fun j => j = ga) W W') {sv' : Value} {r' : Rp} (hb : Bx 27 W' ga sv' r') : NNow B w g g0 ga b e sv' r' W' :=
  ⟨h.rd.fr hf (fun e => by have e' : g = ga := e; have := hA.gl; have := hA.o2; omega) (fun j hj e => by have e' : j = ga := e; have := hA.o2; have := hA.ob; omega), hb, h.res.fr hf (fun e => hA.n3 e.symm), h.fr.trans hf (fun j hj e => by have e' : j = ga := e; have := hA.o2; omega)⟩
theorem NNow.set (h : NNow B w g g0 ga b e sv r W) (hA : NApart B w g g0 ga) (i : Nat) (v : Value) {sv' : Value} {r' : Rp} (he : ∀ j, j < 4 → (if j = i then v else r4 sv r j) = r4 sv' r' j) : NNow B w g g0 ga b e sv' r' (W.setCell ⟨ga, i, none⟩ v) :=
  h.turn hA (Fr.setCell (S := fun j => j = ga) (p := ⟨ga, i, none⟩) (Fr.refl _ _) (fun _ => rfl) v) (h.bx.set i v he)
theorem NNow.thaw (h : NNow B w g g0 ga b e sv r W) (i : Nat) : W.frozen? ⟨ga, i, none⟩ = false := h.bx.row.frozen i
end
def NextPost (B g : Nat) (b : List UInt8) (w : World) (e : Ending) (w' : World) : Prop :=
  ∃ (A : Option Addr) (C : Nat) (b' : List UInt8) (e' : Int), e = .returned (.tuple #[.agg (rp4 (.slice A (getB b).r.body.length C) (getB b).r), .int .i64 (getB b).e]) ∧ BytesIs w' (.slice A (getB b).r.body.length C) (getB b).r.body ∧ New w (.slice A (getB b).r.body.length C) (getB b).r.body ∧ RdP B w' g b' e' ∧ ((getB b).e = 0 → b' = b.drop (getB b).n ∧ e' = 0) ∧ Fr1 g w w'
set_option maxRecDepth 100000 in
set_option maxHeartbeats 8000000 in
theorem next_any (B g : Nat) (b : List UInt8) (hb : b.length ≤ 140737488355328) (w : World) (hBw : B ≤ w.heap.size) (hR : RdP B w g b 0) :
    Calls Try.prog 27 #[.pointer (some ⟨g, 0, none⟩)] w (NextPost B g b w) := by
  have hgl : g < w.heap.size := hR.rd.lt
  obtain ⟨W1, hW1⟩ : ∃ W1, W1 = w.alloc (.cells #[.int .i64 0, .bool false, .int .u32 0, .slice none 0 0] 27) := ⟨_, rfl⟩
  have hF1 : Fr0 w W1 := by rw [hW1]; exact (Fr.refl _ _).alloc _
  have hrd : RdP B W1 g b 0 := hR.fr0 hF1
  have hres : Bx 27 W1 w.heap.size (.slice none 0 0) zero := by
    rw [hW1]
    exact Bx.new 27 w (.slice none 0 0) zero
  have hs1 : W1.heap.size = w.heap.size + 1 := by rw [hW1]; simp
  have hn := ru8_old B g b 0 W1 (by omega) hrd
  have HRS := Lib.hid hres
  have HF1 := Lib.hid hF1
  have HW1 := Lib.hid hW1
  have HIS := Lib.hid (fun b1 b2 b3 b4 body K H S e1 e2 e3 e4 => @next_is b b1 b2 b3 b4 body K H S e1 e2 e3 e4)
  clear hres hF1 hrd hR hW1
  go_enter Try.func27, Try.ntmps27
  go_wp2_with fail
  rw [← HW1.out]
  clear HW1
  refine hn.mono ?_
  clear hn
  rintro e W2 ⟨rfl, hR2, hF2⟩
  have hkk : num (cutOut 1 b) < 256 := cutOut_num 1 b
  have hl1 := cutRest_le 1 b
  have HRS2 := Lib.hid (HRS.out.fr hF2 (fun h => by have h' : w.heap.size = g := h; omega))
  have HF2 : Hid (Fr1 g w W2) := Lib.hid (HF1.out.zero.trans' hF2)
  have hs2 : w.heap.size + 1 ≤ W2.heap.size := by have := hF2.size; omega
  have HR2 := Lib.hid hR2
  obtain ⟨K, hK⟩ : ∃ K, K = num (cutOut 1 b) := ⟨_, rfl⟩
  obtain ⟨b1, hb1⟩ : ∃ x, x = cutRest 1 b := ⟨_, rfl⟩
  obtain ⟨e1, he1⟩ : ∃ x, x = cutErr 1 b 0 := ⟨_, rfl⟩
  rw [← hK] at hkk ⊢
  rw [← hb1, ← he1] at HR2
  rw [← hb1] at hl1
  have HIS1 := Lib.hid (fun b2 b3 b4 body H S e2 e3 e4 => HIS.out b1 b2 b3 b4 body K H S e1 e2 e3 e4 hK hb1 he1)
  clear hK hb1 he1 hR2 hF2 HRS HF1 hs1 HIS
  -- the answer's block
  have hga := heap_alloc_new W2 (.cells #[.int .i64 0, .bool false, .int .u32 0, .slice none 0 0] 27)
  have hAP : NApart B w g w.heap.size W2.heap.size := ⟨by omega, by omega, by omega, by omega, by omega⟩
  obtain ⟨W3, hW3⟩ : ∃ W3, W3 = (W2.alloc (.cells #[.int .i64 0, .bool false, .int .u32 0, .slice none 0 0] 27)).setRow W2.heap.size #[.int .i64 (K : Int), .bool false, .int .u32 0, .slice none 0 0] := ⟨_, rfl⟩
  have hf3 : Fr0 W2 W3 := by rw [hW3]; exact Fr.setRow ((Fr.refl _ _).alloc _) (fun h => absurd h (Nat.lt_irrefl _)) _
  have hN : NNow B w g w.heap.size W2.heap.size b1 e1 (.slice none 0 0) ⟨(K : Int), false, 0, []⟩ W3 :=
    ⟨HR2.out.fr0 hf3, .of_heap (by rw [hW3]; exact setRow_heap _ _ _ _ _ _ hga), HRS2.out.fr0 hf3, HF2.out.trans hf3 (fun _ _ f => f.elim)⟩
  have HW3 := Lib.hid hW3
  have HGA := Lib.hid hga
  have HN := Lib.hid hN
  have HAP := Lib.hid hAP
  clear hN hAP hf3 hga HR2 HRS2 HF2 hW3
  have hn := ru8_old B g b1 e1 W3 (by omega) HN.out.rd
  have kw : (K : Int) % 18446744073709551616 = (K : Int) := by omega
  go_wp2_with (refine wpList_store_row rfl 27 _ _ rfl W2.heap.size #[.int .i64 (K : Int), .bool false, .int .u32 0, .slice none 0 0] rfl rfl 27 _ HGA.out infoRG rfl (rp4_one (.slice none 0 0) ⟨(K : Int), false, 0, []⟩ rfl) ?_; rw [← HW3.out])
  clear HGA HW3
  refine hn.mono ?_
  clear hn
  rintro e W4 ⟨rfl, hR4, hF4⟩
  have hhh : num (cutOut 1 b1) < 256 := cutOut_num 1 b1
  have hl2 := cutRest_le 1 b1
  have HN4 := Lib.hid (HN.out.read HAP.out hF4 hR4)
  obtain ⟨H, hH⟩ : ∃ K, K = num (cutOut 1 b1) := ⟨_, rfl⟩
  obtain ⟨b2, hb2⟩ : ∃ x, x = cutRest 1 b1 := ⟨_, rfl⟩
  obtain ⟨e2, he2⟩ : ∃ x, x = cutErr 1 b1 e1 := ⟨_, rfl⟩
  rw [← hH] at hhh ⊢
  rw [← hb2, ← he2] at HN4
  rw [← hb2] at hl2
  have HIS2 := Lib.hid (fun b3 b4 body S e3 e4 => HIS1.out b2 b3 b4 body H S e2 e3 e4 hH hb2 he2)
  clear hH hb2 he2 hR4 hF4 HIS1 HN kw
  have hht := hitb_any true W4
  have c1 : W4.cell? ⟨W2.heap.size, 1, none⟩ = some (.bool false) := HN4.out.bx.cells.2.1
  have t1 := HN4.out.thaw 1
  obtain ⟨hit, hhit⟩ : ∃ x, x = decide (H = 1) := ⟨_, rfl⟩
  have zh : ((H : Int) == 1) = hit := by
    rw [hhit]
    by_cases h : H = 1
    · rw [decide_eq_true h]; exact beq_iff_eq.2 (by omega)
    · rw [decide_eq_false h]; exact beq_eq_false_iff_ne.2 (by omega)
  obtain ⟨W5, hW5⟩ : ∃ W', W' = W4.setCell ⟨W2.heap.size, 1, none⟩ (.bool hit) := ⟨_, rfl⟩
  have hN5 : NNow B w g w.heap.size W2.heap.size b2 e2 (.slice none 0 0) ⟨(K : Int), hit, 0, []⟩ W5 := by
    rw [hW5]
    exact HN4.out.set HAP.out 1 _ (fun j hj => by
      match j, hj with
      | 0, _ => rfl
      | 1, _ => rfl
      | 2, _ => rfl
      | 3, _ => rfl)
  have HHT := Lib.hid hhit
  have HW5 := Lib.hid hW5
  have HN5 := Lib.hid hN5
  clear hhit hW5 hN5
  have hn := ru32_old B g b2 e2 W5 (by omega) HN5.out.rd
  go_wp2_with fail
  refine hht.mono ?_
  clear hht
  rintro e wq ⟨rfl, rfl⟩
  rw [show ((hitB true).toNat : Int) = 1 from rfl]
  go_wp2_with fail
  rw [← HW5.out]
  clear HW5 c1 t1 HN4
  refine hn.mono ?_
  clear hn
  rintro e W6 ⟨rfl, hR6, hF6⟩
  have hss : num (cutOut 4 b2) < 4294967296 := cutOut_num 4 b2
  have hl3 := cutRest_le 4 b2
  have HN6 := Lib.hid (HN5.out.read HAP.out hF6 hR6)
  obtain ⟨S, hS⟩ : ∃ K, K = num (cutOut 4 b2) := ⟨_, rfl⟩
  obtain ⟨b3, hb3⟩ : ∃ x, x = cutRest 4 b2 := ⟨_, rfl⟩
  obtain ⟨e3, he3⟩ : ∃ x, x = cutErr 4 b2 e2 := ⟨_, rfl⟩
  rw [← hS] at hss ⊢
  rw [← hb3, ← he3] at HN6
  rw [← hb3] at hl3
  have HIS3 := Lib.hid (fun b4 body e4 => HIS2.out b3 b4 body S e3 e4 hS hb3 he3)
  clear hS hb3 he3 hR6 hF6 HIS2 HN5
  obtain ⟨W7, hW7⟩ : ∃ W', W' = W6.setCell ⟨W2.heap.size, 2, none⟩ (.int .u32 (S : Int)) := ⟨_, rfl⟩
  have hN7 : NNow B w g w.heap.size W2.heap.size b3 e3 (.slice none 0 0) ⟨(K : Int), hit, S, []⟩ W7 := by
    rw [hW7]
    exact HN6.out.set HAP.out 2 _ (fun j hj => by
      match j, hj with
      | 0, _ => rfl
      | 1, _ => rfl
      | 2, _ => rfl
      | 3, _ => rfl)
  have c2 : W6.cell? ⟨W2.heap.size, 2, none⟩ = some (.int .u32 0) := HN6.out.bx.cells.2.2.1
  have t2 := HN6.out.thaw 2
  have HW7 := Lib.hid hW7
  have HN7 := Lib.hid hN7
  clear hW7 hN7
  have hn := rbytes_young B g 255 b3 e3 W7 (by decide) (by omega) HN7.out.rd
  go_wp2_with fail
  rw [← HW7.out]
  clear HW7 c2 t2 HN6
  refine hn.mono ?_
  clear hn
  rintro e W8 ⟨v8, rfl, hB8, hR8, hF8, hY8⟩
  have hl4 := bytesRest_le 255 b3
  have HN8 := Lib.hid (HN7.out.read HAP.out hF8 hR8)
  have hlt8 : W2.heap.size < W7.heap.size := HN7.out.bx.lt
  have hws : w.heap.size ≤ W7.heap.size := HN7.out.fr.size
  obtain ⟨body, hbody⟩ : ∃ x, x = bytesOut 255 b3 := ⟨_, rfl⟩
  obtain ⟨b4, hb4⟩ : ∃ x, x = bytesRest 255 b3 := ⟨_, rfl⟩
  obtain ⟨e4, he4⟩ : ∃ x, x = bytesErr 255 b3 e3 := ⟨_, rfl⟩
  have HLB : Hid (body.length ≤ 9223372036854775807) := Lib.hid (by rw [hbody]; exact Nat.le_trans (bytesOut_small 255 b3) (by decide))
  rw [← hbody] at hB8
  rw [← hb4, ← he4] at HN8
  rw [← hb4] at hl4
  obtain ⟨A8, C8, rfl⟩ := hB8.form
  have HB8 := Lib.hid hB8
  have HY8 := Lib.hid hY8
  have HISF := Lib.hid (HIS3.out b4 body e4 hbody hb4 he4)
  rw [← HHT.out] at HISF
  clear hB8 hR8 hF8 hY8 hbody hb4 he4 HIS3 HN7
  obtain ⟨W9, hW9⟩ : ∃ W', W' = W8.setCell ⟨W2.heap.size, 3, none⟩ (.slice A8 body.length C8) := ⟨_, rfl⟩
  have hN9 : NNow B w g w.heap.size W2.heap.size b4 e4 (.slice A8 body.length C8) ⟨(K : Int), hit, S, body⟩ W9 := by
    rw [hW9]
    exact HN8.out.set HAP.out 3 _ (fun j hj => by
      match j, hj with
      | 0, _ => rfl
      | 1, _ => rfl
      | 2, _ => rfl
      | 3, _ => rfl)
  have hoff : ∀ q n cp, Value.slice A8 body.length C8 = .slice (some q) n cp → ¬ q.block = W2.heap.size ∧ ¬ q.block = w.heap.size ∧ w.heap.size ≤ q.block := fun q n cp h => by
    have h1 := HY8.out q n cp h
    omega
  have HB9 : Hid (BytesIs W9 (.slice A8 body.length C8) body) := Lib.hid (by
    rw [hW9]
    exact HB8.out.fr (Fr.setCell (S := fun j => j = W2.heap.size) (p := ⟨W2.heap.size, 3, none⟩) (Fr.refl _ _) (fun _ => rfl) _) (fun q n cp h => (hoff q n cp h).1))
  have c3 : W8.cell? ⟨W2.heap.size, 3, none⟩ = some (.slice none 0 0) := HN8.out.bx.cells.2.2.2
  have t3 := HN8.out.thaw 3
  have HW9 := Lib.hid hW9
  have HN9 := Lib.hid hN9
  have HOFF := Lib.hid hoff
  clear hW9 hN9 hoff HB8 HY8 hlt8 hws
  have her := err_any g b4 e4 W9 HN9.out.rd.rd
  go_wp2_with fail
  rw [← HW9.out]
  clear HW9 c3 t3 HN8
  by_cases he : e4 = 0
  · have HE0 := Lib.hid he
    have ze : (e4 != 0) = false := by rw [he]; rfl
    clear he
    refine her.mono ?_
    clear her
    rintro e wq ⟨rfl, rfl⟩
    have hhb := hitb_any hit W9
    obtain ⟨k0, k1, k2, k3⟩ := HN9.out.bx.cells
    simp only at k0 k1 k2
    have hkh := HN9.out.bx.heap
    by_cases hbg : 1 < H
    · have HZ : Hid (getB b = ⟨zero, 0, 2⟩) := Lib.hid (HISF.out.2.1 HE0.out (.inl hbg))
      obtain ⟨X, hX⟩ : ∃ X, X = (hitB hit).toNat := ⟨_, rfl⟩
      have hX1 : X ≤ 1 := by rw [hX]; exact (hitB_nat hit).1
      rw [← hX] at hhb
      have zx : ((H : Int) != (X : Int)) = true := bne_iff_ne.2 (by omega)
      clear hX hkh
      go_wp2_with fail
      refine hhb.mono ?_
      clear hhb
      rintro e wq ⟨rfl, rfl⟩
      go_wp2_with (refine wpList_store_row rfl 27 _ _ rfl w.heap.size #[.int .i64 0, .bool false, .int .u32 0, .slice none 0 0] rfl rfl 27 _ HN9.out.res.heap infoRG rfl (rp4_one (.slice none 0 0) zero rfl) ?_)
      have hz2 := setRow_heap W9 w.heap.size _ #[.int .i64 0, .bool false, .int .u32 0, .slice none 0 0] _ _ HN9.out.res.heap
      have hfs : Fr (fun j => j = w.heap.size) W9 (W9.setRow w.heap.size #[.int .i64 0, .bool false, .int .u32 0, .slice none 0 0]) := Fr.setRow (S := fun j => j = w.heap.size) (Fr.refl _ W9) (fun _ => rfl) _
      have hrr := HN9.out.rd.fr hfs (fun e => by have e' : g = w.heap.size := e; omega) (fun j hj e => by have e' : j = w.heap.size := e; omega)
      have hfe : Fr1 g w (W9.setRow w.heap.size #[.int .i64 0, .bool false, .int .u32 0, .slice none 0 0]) := HN9.out.fr.trans hfs (fun j hj e => by have e' : j = w.heap.size := e; omega)
      (try simp only [Exit.inBlock, Exit.then])
      refine bodyPost_ret (results_n2 rfl _ _ w.heap.size _ rfl _ rfl hz2 infoRG) rfl ⟨none, 0, b4, e4, ?_, ?_, ?_, hrr, ?_, hfe⟩
      · rw [HZ.out]; rfl
      · rw [HZ.out]; exact BytesIs.nil _
      · rw [HZ.out]; exact fun a n c h => by cases h
      · rw [HZ.out]; exact fun h => absurd h (by decide)
    · have HXX : Hid (H = (hitB hit).toNat) := Lib.hid (by
        rw [HHT.out]
        by_cases h : H = 1
        · rw [decide_eq_true h, h]; rfl
        · rw [decide_eq_false h]; show H = 0; omega)
      rw [← HXX.out] at hhb
      have zx : ((H : Int) != (H : Int)) = false := by rw [bne_self_eq_false]
      have hgd := pgood_any A8 C8 ⟨(K : Int), hit, S, body⟩ HLB.out W9
      unfold rp4 at hgd
      obtain ⟨G, hG⟩ : ∃ G, G = good ⟨(K : Int), hit, S, body⟩ := ⟨_, rfl⟩
      simp only at hgd
      rw [← hG] at hgd
      have HG := Lib.hid hG
      clear hG
      go_wp2_with fail
      refine hhb.mono ?_
      clear hhb
      rintro e wq ⟨rfl, rfl⟩
      go_wp2_with (refine wpList_load_row rfl 27 _ rfl W2.heap.size rfl 27 _ (0, 0) _ hkh Try.underlying27 rfl (by kernel_rfl) ?_)
      refine hgd.mono ?_
      clear hgd k0 k1 k2 k3 hkh
      rintro e Wa ⟨rfl, hFa⟩
      have HNa := Lib.hid (HN9.out.fr0 hFa)
      have HBa := Lib.hid (HB9.out.fr0 hFa)
      clear hFa
      cases G with
      | false =>
        have HZ : Hid (getB b = ⟨zero, 0, 2⟩) := Lib.hid (HISF.out.2.1 HE0.out (.inr HG.out.symm))
        go_wp2_with (refine wpList_store_row rfl 27 _ _ rfl w.heap.size #[.int .i64 0, .bool false, .int .u32 0, .slice none 0 0] rfl rfl 27 _ HNa.out.res.heap infoRG rfl (rp4_one (.slice none 0 0) zero rfl) ?_)
        have hz2 := setRow_heap Wa w.heap.size _ #[.int .i64 0, .bool false, .int .u32 0, .slice none 0 0] _ _ HNa.out.res.heap
        have hfs : Fr (fun j => j = w.heap.size) Wa (Wa.setRow w.heap.size #[.int .i64 0, .bool false, .int .u32 0, .slice none 0 0]) := Fr.setRow (S := fun j => j = w.heap.size) (Fr.refl _ Wa) (fun _ => rfl) _
        have hrr := HNa.out.rd.fr hfs (fun e => by have e' : g = w.heap.size := e; omega) (fun j hj e => by have e' : j = w.heap.size := e; omega)
        have hfe : Fr1 g w (Wa.setRow w.heap.size #[.int .i64 0, .bool false, .int .u32 0, .slice none 0 0]) := HNa.out.fr.trans hfs (fun j hj e => by have e' : j = w.heap.size := e; omega)
        (try simp only [Exit.inBlock, Exit.then])
        refine bodyPost_ret (results_n2 rfl _ _ w.heap.size _ rfl _ rfl hz2 infoRG) rfl ⟨none, 0, b4, e4, ?_, ?_, ?_, hrr, ?_, hfe⟩
        · rw [HZ.out]; rfl
        · rw [HZ.out]; exact BytesIs.nil _
        · rw [HZ.out]; exact fun a n c h => by cases h
        · rw [HZ.out]; exact fun h => absurd h (by decide)
      | true =>
        have HZZ := Lib.hid (HISF.out.2.2 HE0.out (fun h => by
          rcases h with h | h
          · exact absurd h hbg
          · rw [← HG.out] at h; cases h))
        have HZ := Lib.hid HZZ.out.1
        have hkh := HNa.out.bx.heap
        go_wp2_with (first | (refine wpList_load_row rfl 27 _ rfl W2.heap.size rfl 27 _ (0, 0) _ hkh Try.underlying27 rfl (by kernel_rfl) ?_) | (refine wpList_store_row rfl 27 _ _ rfl w.heap.size #[.int .i64 (K : Int), .bool hit, .int .u32 (S : Int), .slice A8 body.length C8] rfl rfl 27 _ HNa.out.res.heap infoRG rfl (rp4_one (.slice A8 body.length C8) ⟨(K : Int), hit, S, body⟩ rfl) ?_))
        have hz2 := setRow_heap Wa w.heap.size _ #[.int .i64 (K : Int), .bool hit, .int .u32 (S : Int), .slice A8 body.length C8] _ _ HNa.out.res.heap
        have hfs : Fr (fun j => j = w.heap.size) Wa (Wa.setRow w.heap.size #[.int .i64 (K : Int), .bool hit, .int .u32 (S : Int), .slice A8 body.length C8]) := Fr.setRow (S := fun j => j = w.heap.size) (Fr.refl _ Wa) (fun _ => rfl) _
        have hrr := HNa.out.rd.fr hfs (fun e => by have e' : g = w.heap.size := e; omega) (fun j hj e => by have e' : j = w.heap.size := e; omega)
        have hfe : Fr1 g w (Wa.setRow w.heap.size #[.int .i64 (K : Int), .bool hit, .int .u32 (S : Int), .slice A8 body.length C8]) := HNa.out.fr.trans hfs (fun j hj e => by have e' : j = w.heap.size := e; omega)
        (try simp only [Exit.inBlock, Exit.then])
        have hbb := HBa.out.fr hfs (fun q n cp h => (HOFF.out q n cp h).2.1)
        refine bodyPost_ret (results_n2 rfl _ _ w.heap.size _ rfl _ rfl hz2 infoRG) rfl ⟨A8, C8, b4, e4, ?_, ?_, ?_, hrr, ?_, hfe⟩
        · rw [HZ.out]; rfl
        · rw [HZ.out]; exact hbb
        · rw [HZ.out]; exact fun q n c h _ => (HOFF.out q n c h).2.2
        · rw [HZ.out]; exact fun _ => ⟨HZZ.out.2, HE0.out⟩
  · have HZ : Hid (getB b = ⟨zero, 0, e4⟩) := Lib.hid (HISF.out.1 he)
    have ze : (e4 != 0) = true := bne_iff_ne.2 he
    have HNE := Lib.hid he
    refine her.mono ?_
    rintro e wq ⟨rfl, rfl⟩
    go_wp2_with fail
    refine her.mono ?_
    clear her
    rintro e wq ⟨rfl, rfl⟩
    go_wp2_with (refine wpList_store_row rfl 27 _ _ rfl w.heap.size #[.int .i64 0, .bool false, .int .u32 0, .slice none 0 0] rfl rfl 27 _ HN9.out.res.heap infoRG rfl (rp4_one (.slice none 0 0) zero rfl) ?_)
    have hz2 := setRow_heap W9 w.heap.size _ #[.int .i64 0, .bool false, .int .u32 0, .slice none 0 0] _ _ HN9.out.res.heap
    have hfs : Fr (fun j => j = w.heap.size) W9 (W9.setRow w.heap.size #[.int .i64 0, .bool false, .int .u32 0, .slice none 0 0]) := Fr.setRow (S := fun j => j = w.heap.size) (Fr.refl _ W9) (fun _ => rfl) _
    have hrr := HN9.out.rd.fr hfs (fun e => by have e' : g = w.heap.size := e; omega) (fun j hj e => by have e' : j = w.heap.size := e; omega)
    have hfe : Fr1 g w (W9.setRow w.heap.size #[.int .i64 0, .bool false, .int .u32 0, .slice none 0 0]) := HN9.out.fr.trans hfs (fun j hj e => by have e' : j = w.heap.size := e; omega)
    (try simp only [Exit.inBlock, Exit.then])
    refine bodyPost_ret (results_n2 rfl _ _ w.heap.size _ rfl _ rfl hz2 infoRG) rfl ⟨none, 0, b4, e4, ?_, ?_, ?_, hrr, ?_, hfe⟩
    · rw [HZ.out]; rfl
    · rw [HZ.out]; exact BytesIs.nil _
    · rw [HZ.out]; exact fun a n c h => by cases h
    · rw [HZ.out]; exact fun h => absurd h HNE.out
end Go.Proofs.Ytjefddliebokaaa.Reply
