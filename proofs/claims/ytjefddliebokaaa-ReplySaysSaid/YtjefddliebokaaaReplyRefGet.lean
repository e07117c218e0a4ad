/-
  The reference's GetReply.
-/
import Derived.Test.YtjefddliebokaaaReplyRefGood
import Derived.Test.YtjefddliebokaaaReplyRefM
import Derived.Test.YtjefddliebokaaaPackRefN
import Derived.Test.YtjefddliebokaaaMixS
import Derived.Deep.DeepCutAuto
namespace Go.Proofs.Ytjefddliebokaaa.Reply
open Go.RowKit Base Pack

theorem refBytes_small (m : Int) (b : List UInt8) (e : Int) : (refBytesOut m b e).length ≤ 65535 := by
  unfold refBytesOut
  have hx : num (refOut 2 b e) < 65536 := num_lt_le (refOut_le 2 b e)
  have h := refOut_le (num (refOut 2 b e)) (refRest 2 b e) (refErr 2 b e)
  split
  · split
    · simp
    · omega
  · simp
theorem infoRR : (Try.prog.info? 38).map (·.size) = some 4 := by kernel_rfl
theorem results_r3 {fn : Func} {p u u2 : Tmp} (h : fn.results = #[.cell p 38, .tmp u, .tmp u2]) (tmps : Array Value) (w : World) (g : Nat) (cs : Array Value) (hp : tmps.getD p undef = .pointer (some ⟨g, 0, none⟩)) (v v2 : Value) (hu : tmps.getD u undef = v) (hu2 : tmps.getD u2 undef = v2) (hg : w.heap[g]? = some (.cells cs 38 (0, 0))) (hi : (Try.prog.info? 38).map (·.size) = some cs.size) :
    (results fn tmps).run Try.prog w = .ok (.tuple #[.agg cs, v, v2]) w := by
  have hp' : tmps[p]?.getD undef = .pointer (some ⟨g, 0, none⟩) := by simpa using hp
  have hq' : tmps[u]?.getD undef = v := by simpa using hu
  have hq2 : tmps[u2]?.getD undef = v2 := by simpa using hu2
  simp [results, h, hp', hq', hq2, asAddr, run_loadVar_row w g 38 38 cs (0, 0) _ hg Try.underlying38 rfl hi]
/-- what GetReply keeps while it reads -/
structure RNow (w : World) (g0 gr ga : Nat) (b : List UInt8) (e : Int) (sv : Value) (r : Rp) (W : World) : Prop where
  rd : RdO w.heap.size W gr b e
  bx : Bx 38 W ga sv r
  res : Bx 38 W g0 (.slice none 0 0) zero
  fr : Fr0 w W
structure RApart (w : World) (g0 gr ga : Nat) : Prop where
  n1 : gr ≠ ga
  n2 : gr ≠ g0
  n3 : ga ≠ g0
  o0 : w.heap.size ≤ g0
  o1 : w.heap.size ≤ gr
  o2 : w.heap.size ≤ ga
section
variable {w W W' : World} {g0 gr ga : Nat} {b b' : List UInt8} {e e' : Int} {sv : Value} {r : Rp}
theorem RNow.fr0 (h : RNow w g0 gr ga b e sv r W) (hf : Fr0 W W') : RNow w g0 gr ga b e sv r W' := ⟨h.rd.fr0 hf, h.bx.fr0 hf, h.res.fr0 hf, h.fr.trans' hf⟩
theorem RNow.read (h : RNow w g0 gr ga b e sv r W) (hA : RApart w g0 gr ga) (hf : Fr1 gr W W') (hr : RdO w.heap.size W' gr b' e') : RNow w g0 gr ga b' e' sv r W' :=
  ⟨hr, h.bx.fr hf (fun h => hA.n1 h.symm), h.res.fr hf (fun h => hA.n2 h.symm), h.fr.trans hf (fun i hi h => by have h' : i = gr := h; have := hA.o1; omega)⟩
theorem RNow.set (h : RNow w g0 gr ga b e sv r W) (hA : RApart w g0 gr ga) (i : Nat) (v : Value) {sv' : Value} {r' : Rp} (he : ∀ j, j < 4 → (if j = i then v else r4 sv r j) = r4 sv' r' j) : RNow w g0 gr ga b e sv' r' (W.setCell ⟨ga, i, none⟩ v) := by
  have hf : Fr (fun j => j = ga) W (W.setCell ⟨ga, i, none⟩ v) := Fr.setCell (S := fun j => j = ga) (p := ⟨ga, i, none⟩) (Fr.refl _ _) (fun _ => rfl) v
  exact ⟨h.rd.fr hf hA.n1 (fun j hj e => by have e' : j = ga := e; have := hA.o2; omega), h.bx.set i v he, h.res.fr hf (fun e => hA.n3 e.symm), h.fr.trans hf (fun j hj e => by have e' : j = ga := e; have := hA.o2; omega)⟩
theorem RNow.thaw (h : RNow w g0 gr ga b e sv r W) (i : Nat) : W.frozen? ⟨ga, i, none⟩ = false := h.bx.row.frozen i
theorem RNow.err (h : RNow w g0 gr ga b e sv r W) : W.cell? ⟨gr, 1, none⟩ = some (.int .i64 e) := by
  obtain ⟨s, hr, _⟩ := h.rd
  exact hr.cell (i := 1) (by decide)
theorem RNow.left (h : RNow w g0 gr ga b e sv r W) : ∃ a c, W.cell? ⟨gr, 0, none⟩ = some (.slice a b.length c) := by
  obtain ⟨s, hr, hb, _⟩ := h.rd
  obtain ⟨a, c, rfl⟩ := hb.form
  exact ⟨a, c, hr.cell (i := 0) (by decide)⟩
end
set_option maxRecDepth 100000 in
set_option maxHeartbeats 8000000 in
theorem rgetR_any (v : Value) (b : List UInt8) (hb : b.length ≤ 140737488355328) (w : World) (hB : BytesIs w v b) :
    Calls Try.prog 16 #[v] w (GetPost b w) := by
  obtain ⟨a, c, rfl⟩ := hB.form
  have hlt : ∀ q n cp, Value.slice a b.length c = .slice (some q) n cp → 0 < b.length → q.block < w.heap.size := by
    obtain ⟨a', cap, pb, po, hv, hle, ha, hcell⟩ := hB
    intro q n cp h hl
    simp only [Value.slice.injEq] at hv h
    have h2 := ha hl
    rw [← hv.1, h.1] at h2
    cases h2
    exact World.block_lt_of_cell? w _ (hcell 0 hl)
  obtain ⟨W1, hW1⟩ : ∃ W1, W1 = (w.alloc (.cells #[.int .i64 0, .bool false, .int .u32 0, .slice none 0 0] 38)).alloc (.cells #[.slice a b.length c, .int .i64 0] 69) := ⟨_, rfl⟩
  have hrd : RdO w.heap.size W1 (w.heap.size + 1) b 0 := by
    have h := rowIs_new (w.alloc (.cells #[.int .i64 0, .bool false, .int .u32 0, .slice none 0 0] 38)) #[.slice a b.length c, .int .i64 0] 69 2 (fun i => if i = 0 then .slice a b.length c else .int .i64 0) rfl (fun i hi => by
      match i, hi with
      | 0, _ => rfl
      | 1, _ => rfl)
    rw [show (w.alloc (.cells #[.int .i64 0, .bool false, .int .u32 0, .slice none 0 0] 38)).heap.size = w.heap.size + 1 by simp] at h
    rw [hW1]
    exact ⟨_, h, hB.fr0 (((Fr.refl _ _).alloc _).alloc _), hlt⟩
  have hres : Bx 38 W1 w.heap.size (.slice none 0 0) zero := by
    rw [hW1]
    exact (Bx.new 38 w (.slice none 0 0) zero).fr0 ((Fr.refl _ _).alloc _)
  have hF1 : Fr0 w W1 := by rw [hW1]; exact ((Fr.refl _ _).alloc _).alloc _
  have hs1 : W1.heap.size = w.heap.size + 2 := by rw [hW1]; simp
  have hn := rN_old w.heap.size (w.heap.size + 1) 1 b 0 W1 (by decide) hb hrd
  have HRS := Lib.hid hres
  have HF1 := Lib.hid hF1
  have HW1 := Lib.hid hW1
  have HIS := Lib.hid (fun b1 b2 b3 b4 body K H S e1 e2 e3 e4 => @get_is b b1 b2 b3 b4 body K H S e1 e2 e3 e4)
  clear hres hF1 hlt hrd hB hW1
  go_enter Try.func16, Try.ntmps16
  go_wp2_with fail
  rw [← HW1.out]
  clear HW1
  refine hn.mono ?_
  clear hn
  rintro e W2 ⟨rfl, hR2, hF2⟩
  simp only [show ((1 : Nat) : Int) = 1 from rfl] at hR2 ⊢
  have hkk : num (refOut 1 b 0) < 256 := num_lt_le (k := 1) (refOut_le 1 b 0)
  have hl1 := refRest_le 1 b 0
  have HRS2 := Lib.hid (HRS.out.fr hF2 (fun h => by have h' : w.heap.size = w.heap.size + 1 := h; omega))
  have HF2 : Hid (Fr0 w W2) := Lib.hid (HF1.out.trans hF2 (fun i hi h => by have h' : i = w.heap.size + 1 := h; omega))
  have hgl2 : w.heap.size + 1 < W2.heap.size := by have := hF2.size; omega
  have HR2 := Lib.hid hR2
  obtain ⟨K, hK⟩ : ∃ K, K = num (refOut 1 b 0) := ⟨_, rfl⟩
  obtain ⟨b1, hb1⟩ : ∃ x, x = refRest 1 b 0 := ⟨_, rfl⟩
  obtain ⟨e1, he1⟩ : ∃ x, x = refErr 1 b 0 := ⟨_, rfl⟩
  rw [← hK] at hkk ⊢
  rw [← hb1, ← he1] at HR2
  rw [← hb1] at hl1
  have HIS1 := Lib.hid (fun b2 b3 b4 body H S e2 e3 e4 => HIS.out b1 b2 b3 b4 body K H S e1 e2 e3 e4 hK hb1 he1)
  clear hK hb1 he1 hR2 hF2 HRS HF1 hs1 HIS
  -- the answer's block
  have hga := heap_alloc_new W2 (.cells #[.int .i64 0, .bool false, .int .u32 0, .slice none 0 0] 38)
  have hAP : RApart w w.heap.size (w.heap.size + 1) W2.heap.size := ⟨by omega, by omega, by omega, by omega, by omega, by have := HF2.out.size; omega⟩
  obtain ⟨W3, hW3⟩ : ∃ W3, W3 = (W2.alloc (.cells #[.int .i64 0, .bool false, .int .u32 0, .slice none 0 0] 38)).setRow W2.heap.size #[.int .i64 (K : Int), .bool false, .int .u32 0, .slice none 0 0] := ⟨_, rfl⟩
  have hf3 : Fr0 W2 W3 := by rw [hW3]; exact Fr.setRow ((Fr.refl _ _).alloc _) (fun h => absurd h (Nat.lt_irrefl _)) _
  have hN : RNow w w.heap.size (w.heap.size + 1) W2.heap.size b1 e1 (.slice none 0 0) ⟨(K : Int), false, 0, []⟩ W3 :=
    ⟨HR2.out.fr0 hf3, .of_heap (by rw [hW3]; exact setRow_heap _ _ _ _ _ _ hga), HRS2.out.fr0 hf3, HF2.out.trans' hf3⟩
  have HW3 := Lib.hid hW3
  have HGA := Lib.hid hga
  have HN := Lib.hid hN
  have HAP := Lib.hid hAP
  clear hN hAP hf3 hga HR2 HRS2 HF2 hW3
  have hn := rN_old w.heap.size (w.heap.size + 1) 1 b1 e1 W3 (by decide) (by omega) HN.out.rd
  simp only [show ((1 : Nat) : Int) = 1 from rfl] at hn
  have kw : (K : Int) % 18446744073709551616 = (K : Int) := by omega
  go_wp2_with (refine wpList_store_row rfl 38 _ _ rfl W2.heap.size #[.int .i64 (K : Int), .bool false, .int .u32 0, .slice none 0 0] rfl rfl 38 _ HGA.out infoRR rfl (rp4_one (.slice none 0 0) ⟨(K : Int), false, 0, []⟩ rfl) ?_; rw [← HW3.out])
  clear HGA HW3
  refine hn.mono ?_
  clear hn
  rintro e W4 ⟨rfl, hR4, hF4⟩
  have hhh : num (refOut 1 b1 e1) < 256 := num_lt_le (k := 1) (refOut_le 1 b1 e1)
  have hl2 := refRest_le 1 b1 e1
  have HN4 := Lib.hid (HN.out.read HAP.out hF4 hR4)
  obtain ⟨H, hH⟩ : ∃ K, K = num (refOut 1 b1 e1) := ⟨_, rfl⟩
  obtain ⟨b2, hb2⟩ : ∃ x, x = refRest 1 b1 e1 := ⟨_, rfl⟩
  obtain ⟨e2, he2⟩ : ∃ x, x = refErr 1 b1 e1 := ⟨_, rfl⟩
  rw [← hH] at hhh ⊢
  rw [← hb2, ← he2] at HN4
  rw [← hb2] at hl2
  have HIS2 := Lib.hid (fun b3 b4 body S e3 e4 => HIS1.out b2 b3 b4 body H S e2 e3 e4 hH hb2 he2)
  clear hH hb2 he2 hR4 hF4 HIS1 HN kw
  have hn := rN_old w.heap.size (w.heap.size + 1) 4 b2 e2 W4 (by decide) (by omega) HN4.out.rd
  simp only [show ((4 : Nat) : Int) = 4 from rfl] at hn
  go_wp2_with fail
  refine hn.mono ?_
  clear hn
  rintro e W5 ⟨rfl, hR5, hF5⟩
  have hss : num (refOut 4 b2 e2) < 4294967296 := num_lt_le (k := 4) (refOut_le 4 b2 e2)
  have hl3 := refRest_le 4 b2 e2
  have HN5 := Lib.hid (HN4.out.read HAP.out hF5 hR5)
  obtain ⟨S, hS⟩ : ∃ K, K = num (refOut 4 b2 e2) := ⟨_, rfl⟩
  obtain ⟨b3, hb3⟩ : ∃ x, x = refRest 4 b2 e2 := ⟨_, rfl⟩
  obtain ⟨e3, he3⟩ : ∃ x, x = refErr 4 b2 e2 := ⟨_, rfl⟩
  rw [← hS] at hss ⊢
  rw [← hb3, ← he3] at HN5
  rw [← hb3] at hl3
  have HIS3 := Lib.hid (fun b4 body e4 => HIS2.out b3 b4 body S e3 e4 hS hb3 he3)
  clear hS hb3 he3 hR5 hF5 HIS2 HN4
  obtain ⟨W6, hW6⟩ : ∃ W', W' = W5.setCell ⟨W2.heap.size, 2, none⟩ (.int .u32 (S : Int)) := ⟨_, rfl⟩
  have hN6 : RNow w w.heap.size (w.heap.size + 1) W2.heap.size b3 e3 (.slice none 0 0) ⟨(K : Int), false, S, []⟩ W6 := by
    rw [hW6]
    exact HN5.out.set HAP.out 2 _ (fun j hj => by
      match j, hj with
      | 0, _ => rfl
      | 1, _ => rfl
      | 2, _ => rfl
      | 3, _ => rfl)
  have sw : (S : Int) % 4294967296 = (S : Int) := by omega
  have c2 : W5.cell? ⟨W2.heap.size, 2, none⟩ = some (.int .u32 0) := HN5.out.bx.cells.2.2.1
  have t2 := HN5.out.thaw 2
  have HW6 := Lib.hid hW6
  have HN6 := Lib.hid hN6
  clear hW6 hN6
  have hn := refbytes_new w.heap.size (w.heap.size + 1) 255 b3 e3 W6 (by decide) (by omega) HN6.out.rd
  go_wp2_with fail
  rw [← HW6.out]
  clear HW6 c2 t2 sw HN5
  refine hn.mono ?_
  clear hn
  rintro e W7 ⟨v7, rfl, hB7, hR7, hF7, hY7⟩
  have hl4 := refBytesRest_le 255 b3 e3
  have HN7 := Lib.hid (HN6.out.read HAP.out hF7 hR7)
  have hlt7 : W2.heap.size < W6.heap.size := HN6.out.bx.lt
  have hws : w.heap.size ≤ W6.heap.size := HN6.out.fr.size
  obtain ⟨body, hbody⟩ : ∃ x, x = refBytesOut 255 b3 e3 := ⟨_, rfl⟩
  obtain ⟨b4, hb4⟩ : ∃ x, x = refBytesRest 255 b3 e3 := ⟨_, rfl⟩
  obtain ⟨e4, he4⟩ : ∃ x, x = refBytesErr 255 b3 e3 := ⟨_, rfl⟩
  have HLB : Hid (body.length ≤ 9223372036854775807) := Lib.hid (by rw [hbody]; exact Nat.le_trans (refBytes_small 255 b3 e3) (by decide))
  rw [← hbody] at hB7
  rw [← hb4, ← he4] at HN7
  rw [← hb4] at hl4
  obtain ⟨A7, C7, rfl⟩ := hB7.form
  have HB7 := Lib.hid hB7
  have HY7 := Lib.hid hY7
  have HISF := Lib.hid (HIS3.out b4 body e4 hbody hb4 he4)
  clear hB7 hR7 hF7 hY7 hbody hb4 he4 HIS3 HN6
  obtain ⟨W8, hW8⟩ : ∃ W', W' = W7.setCell ⟨W2.heap.size, 3, none⟩ (.slice A7 body.length C7) := ⟨_, rfl⟩
  have hN8 : RNow w w.heap.size (w.heap.size + 1) W2.heap.size b4 e4 (.slice A7 body.length C7) ⟨(K : Int), false, S, body⟩ W8 := by
    rw [hW8]
    exact HN7.out.set HAP.out 3 _ (fun j hj => by
      match j, hj with
      | 0, _ => rfl
      | 1, _ => rfl
      | 2, _ => rfl
      | 3, _ => rfl)
  have hoff : ∀ q n cp, Value.slice A7 body.length C7 = .slice (some q) n cp → ¬ q.block = W2.heap.size ∧ ¬ q.block = w.heap.size ∧ w.heap.size ≤ q.block := fun q n cp h => by
    have h1 := HY7.out q n cp h
    omega
  have HB8 : Hid (BytesIs W8 (.slice A7 body.length C7) body) := Lib.hid (by
    rw [hW8]
    exact HB7.out.fr (Fr.setCell (S := fun j => j = W2.heap.size) (p := ⟨W2.heap.size, 3, none⟩) (Fr.refl _ _) (fun _ => rfl) _) (fun q n cp h => (hoff q n cp h).1))
  have c3 : W7.cell? ⟨W2.heap.size, 3, none⟩ = some (.slice none 0 0) := HN7.out.bx.cells.2.2.2
  have t3 := HN7.out.thaw 3
  have HW8 := Lib.hid hW8
  have HN8 := Lib.hid hN8
  have HOFF := Lib.hid hoff
  clear hW8 hN8 hoff HB7 HY7 hlt7 hws
  by_cases hone : H = 1
  · have HDH : Hid (decide (H = 1) = true) := Lib.hid (by simp; omega)
    have zh : ((H : Int) == 1) = true := by exact beq_iff_eq.2 (by omega)
    obtain ⟨W9, hW9⟩ : ∃ W', W' = W8.setCell ⟨W2.heap.size, 1, none⟩ (.bool true) := ⟨_, rfl⟩
    have hN9 : RNow w w.heap.size (w.heap.size + 1) W2.heap.size b4 e4 (.slice A7 body.length C7) ⟨(K : Int), true, S, body⟩ W9 := by
      rw [hW9]
      exact HN8.out.set HAP.out 1 _ (fun j hj => by
        match j, hj with
        | 0, _ => rfl
        | 1, _ => rfl
        | 2, _ => rfl
        | 3, _ => rfl)
    have HB9 : Hid (BytesIs W9 (.slice A7 body.length C7) body) := Lib.hid (by
      rw [hW9]
      exact HB8.out.fr (Fr.setCell (S := fun j => j = W2.heap.size) (p := ⟨W2.heap.size, 1, none⟩) (Fr.refl _ _) (fun _ => rfl) _) (fun q n cp h => (HOFF.out q n cp h).1))
    have c1 : W8.cell? ⟨W2.heap.size, 1, none⟩ = some (.bool false) := HN8.out.bx.cells.2.1
    have t1 := HN8.out.thaw 1
    rw [HW8.out] at c1 t1
    have HN9 := Lib.hid hN9
    have HW9 : Hid (W9 = (W7.setCell ⟨W2.heap.size, 3, none⟩ (.slice A7 body.length C7)).setCell ⟨W2.heap.size, 1, none⟩ (.bool true)) := Lib.hid (by rw [hW9, HW8.out])
    clear hW9 hN9
    have ke := HN9.out.err
    rw [HW9.out] at ke
    go_upto_region 7 with fail
    rw [← HW9.out]
    rw [← HW9.out] at ke
    clear HW9 HW8 HN8 HB8 c1 t1 c3 t3 HN7 zh
    by_cases he : e4 = 0
    · have HE0 := Lib.hid he
      have ze : (e4 != 0) = false := by rw [he]; rfl
      clear he
      have hsm : ¬ (1 : Int) < (H : Int) := by omega
      have hgd := rgoodR_any A7 C7 ⟨(K : Int), true, S, body⟩ HLB.out W9
      unfold rp4 at hgd
      obtain ⟨G, hG⟩ : ∃ G, G = good ⟨(K : Int), true, S, body⟩ := ⟨_, rfl⟩
      simp only at hgd
      rw [← hG] at hgd
      have HG := Lib.hid hG
      obtain ⟨k0, k1, k2, k3⟩ := HN9.out.bx.cells
      simp only at k0 k1 k2
      clear hG
      go_wp2_with fail
      refine hgd.mono ?_
      clear hgd k0 k1 k2 k3
      rintro e Wa ⟨rfl, hFa⟩
      have HNa := Lib.hid (HN9.out.fr0 hFa)
      have HBa := Lib.hid (HB9.out.fr0 hFa)
      clear hFa
      cases G with
      | false =>
        have HZ : Hid (getB b = ⟨zero, 0, 2⟩) := Lib.hid (HISF.out.2.1 HE0.out (.inr (by rw [HDH.out]; exact HG.out.symm)))
        go_wp2_with (refine wpList_store_row rfl 38 _ _ rfl w.heap.size #[.int .i64 0, .bool false, .int .u32 0, .slice none 0 0] rfl rfl 38 _ HNa.out.res.heap infoRR rfl (rp4_one (.slice none 0 0) zero rfl) ?_)
        have hz2 := setRow_heap Wa w.heap.size _ #[.int .i64 0, .bool false, .int .u32 0, .slice none 0 0] _ _ HNa.out.res.heap
        have hfe : Fr0 w (Wa.setRow w.heap.size #[.int .i64 0, .bool false, .int .u32 0, .slice none 0 0]) := Fr.setRow HNa.out.fr (fun h => absurd h (Nat.lt_irrefl _)) _
        (try simp only [Exit.inBlock, Exit.then])
        refine bodyPost_ret (results_r3 rfl _ _ w.heap.size _ rfl _ _ rfl rfl hz2 infoRR) rfl ⟨none, 0, ?_, ?_, ?_, hfe⟩
        · rw [HZ.out]; rfl
        · rw [HZ.out]; exact BytesIs.nil _
        · rw [HZ.out]; exact fun a n c h => by cases h
      | true =>
        have HZ : Hid (getB b = ⟨⟨(K : Int), true, S, body⟩, b.length - b4.length, 0⟩) := Lib.hid (by
          have h := HISF.out.2.2 HE0.out (fun h => by
            rcases h with h | h
            · exact absurd h (by omega)
            · rw [HDH.out, ← HG.out] at h; cases h)
          rw [HDH.out] at h
          exact h)
        obtain ⟨al, cl, kl⟩ := HNa.out.left
        have hkh := HNa.out.bx.heap
        have x1 : wrap64 ((b.length : Int) - (b4.length : Int)) = ((b.length - b4.length : Nat) : Int) := by simp only [wrap64]; omega
        go_wp2
        refine Mix.law (fun X => X.heap[W2.heap.size]? = some (.cells #[.int .i64 (K : Int), .bool true, .int .u32 (S : Int), .slice A7 body.length C7] 38 (0, 0)) ∧ X.cell? ⟨w.heap.size + 1, 0, none⟩ = some (.slice al b4.length cl)) [(.sure, 0), (.sure, 1), (.sure, 2), (.sure, 3), (.sure, 4), (.sure, 5), (.sure, 6), (.sure, 7), (.sure, 8), (.turn, 9), (.sure, 10), (.sure, 11)] (by kernel_rfl) (by kernel_rfl) ⟨hkh, kl⟩ ?_
        simp only [List.map_cons, List.map_nil, Mix.nth_zero, Mix.nth_succ]
        have HND := Lib.hid (HNa.out.fr0 (Fr.refl _ _).drew)
        have HBD := Lib.hid (HBa.out.fr0 (Fr.refl _ _).drew)
        have HKL : Hid (Wa.drew.cell? ⟨w.heap.size + 1, 0, none⟩ = some (.slice al b4.length cl)) := Lib.hid kl
        generalize Wa.drew = wd at *
        clear kl hkh
        refine Mix.go_sure_row (by first | exact Mix.wanted_none rfl | exact Mix.wanted_yes rfl rfl rfl) 38 _ rfl W2.heap.size rfl 38 _ (0, 0) _ (fun w1 hC1 => hC1.1) Try.underlying38 rfl (by kernel_rfl) ?_
        go_frame
        repeat (first
          | (refine Mix.go_skipS (by first | exact Mix.wanted_no rfl rfl rfl rfl | exact Mix.wanted_void rfl rfl rfl) ?_; go_frame)
          | (refine Mix.go_skipL (by first | exact Mix.wanted_no rfl rfl rfl rfl | exact Mix.wanted_void rfl rfl rfl) ?_; go_frame)
          | (refine Mix.go_move (by first | exact Mix.wanted_none rfl | exact Mix.wanted_yes rfl rfl rfl) _ rfl _ (by first | (go_simp; done) | (go_simp; rfl)) ?_; go_frame)
          | (refine Mix.go_assign (by first | exact Mix.wanted_none rfl | exact Mix.wanted_yes rfl rfl rfl) _ rfl _ (by first | (go_simp; done) | (go_simp; rfl)) ?_; go_frame)
          | (refine Mix.go_sureW (by first | exact Mix.wanted_none rfl | exact Mix.wanted_yes rfl rfl rfl) _ (by rfl) (by rfl) _ (fun w' ⟨hC1, hC2⟩ => by go_wp2_with fail; refine Mix.stays ?_; go_frame; rfl) ?_; go_frame)
          | (refine Mix.go_lookW (by first | exact Mix.wanted_none rfl | exact Mix.wanted_yes rfl rfl rfl) _ (by rfl) (by rfl) _ (by go_wp2_with fail; refine Mix.stays ?_; go_frame; rfl) ?_; go_frame))
        refine Mix.go_turn ?_
        go_wp2_with (refine wpList_store_row rfl 38 _ _ rfl w.heap.size #[.int .i64 (K : Int), .bool true, .int .u32 (S : Int), .slice A7 body.length C7] rfl rfl 38 _ HND.out.res.heap infoRR rfl (rp4_one (.slice A7 body.length C7) ⟨(K : Int), true, S, body⟩ rfl) ?_)
        have hz2 := setRow_heap wd w.heap.size _ #[.int .i64 (K : Int), .bool true, .int .u32 (S : Int), .slice A7 body.length C7] _ _ HND.out.res.heap
        have hfe : Fr0 w (wd.setRow w.heap.size #[.int .i64 (K : Int), .bool true, .int .u32 (S : Int), .slice A7 body.length C7]) := Fr.setRow HND.out.fr (fun h => absurd h (Nat.lt_irrefl _)) _
        have hfs : Fr (fun j => j = w.heap.size) wd (wd.setRow w.heap.size #[.int .i64 (K : Int), .bool true, .int .u32 (S : Int), .slice A7 body.length C7]) := Fr.setRow (S := fun j => j = w.heap.size) (Fr.refl _ wd) (fun _ => rfl) _
        have hbb := HBD.out.fr hfs (fun q n cp h => (HOFF.out q n cp h).2.1)
        have hch := hfs.heap HND.out.bx.heap (fun e => HAP.out.n3 e)
        have hcl := (hfs.cell (p := ⟨w.heap.size + 1, 0, none⟩) (World.block_lt_of_cell? wd _ HKL.out) (fun e => HAP.out.n2 e)).trans HKL.out
        have HZ2 := Lib.hid hz2
        have HFE := Lib.hid hfe
        have HBB := Lib.hid hbb
        clear hz2 hfe hfs hbb
        generalize wd.setRow w.heap.size #[.int .i64 (K : Int), .bool true, .int .u32 (S : Int), .slice A7 body.length C7] = we at *
        refine Mix.then_go ⟨hch, hcl⟩ ?_
        clear hch hcl
        repeat (first
          | (refine Mix.go_skipS (by first | exact Mix.wanted_no rfl rfl rfl rfl | exact Mix.wanted_void rfl rfl rfl) ?_; go_frame)
          | (refine Mix.go_skipL (by first | exact Mix.wanted_no rfl rfl rfl rfl | exact Mix.wanted_void rfl rfl rfl) ?_; go_frame)
          | (refine Mix.go_move (by first | exact Mix.wanted_none rfl | exact Mix.wanted_yes rfl rfl rfl) _ rfl _ (by first | (go_simp; done) | (go_simp; rfl)) ?_; go_frame)
          | (refine Mix.go_assign (by first | exact Mix.wanted_none rfl | exact Mix.wanted_yes rfl rfl rfl) _ rfl _ (by first | (go_simp; done) | (go_simp; rfl)) ?_; go_frame)
          | (refine Mix.go_sureW (by first | exact Mix.wanted_none rfl | exact Mix.wanted_yes rfl rfl rfl) _ (by rfl) (by rfl) _ (fun w' ⟨hC1, hC2⟩ => by go_wp2_with fail; refine Mix.stays ?_; go_frame; rfl) ?_; go_frame)
          | (refine Mix.go_lookW (by first | exact Mix.wanted_none rfl | exact Mix.wanted_yes rfl rfl rfl) _ (by rfl) (by rfl) _ (by go_wp2_with fail; refine Mix.stays ?_; go_frame; rfl) ?_; go_frame))
        refine Mix.go_end ?_
        go_wp2_with fail
        (try simp only [Exit.inBlock, Exit.then])
        refine bodyPost_ret (results_r3 rfl _ _ w.heap.size _ rfl _ _ rfl rfl HZ2.out infoRR) rfl ⟨A7, C7, ?_, ?_, ?_, HFE.out⟩
        · rw [HZ.out]
          show Ending.returned (.tuple #[.agg #[.int .i64 (K : Int), .bool true, .int .u32 (S : Int), .slice A7 body.length C7], .int .i64 ((b.length : Int) - (b4.length : Int)), .int .i64 0]) = _
          rw [show (b.length : Int) - (b4.length : Int) = ((b.length - b4.length : Nat) : Int) by omega]
          rfl
        · rw [HZ.out]; exact HBB.out
        · rw [HZ.out]; exact fun q n c h _ => (HOFF.out q n c h).2.2
    · clear ke
      have HZ : Hid (getB b = ⟨zero, 0, e4⟩) := Lib.hid (HISF.out.1 he)
      have ze : (e4 != 0) = true := bne_iff_ne.2 he
      have ke := HN9.out.err
      go_wp2
      refine Mix.law (fun X => X.cell? ⟨w.heap.size + 1, 1, none⟩ = some (.int .i64 e4)) [(.sure, 0), (.sure, 1), (.sure, 2), (.sure, 3), (.sure, 4), (.turn, 5), (.sure, 6), (.sure, 7)] (by kernel_rfl) (by kernel_rfl) ke ?_
      simp only [List.map_cons, List.map_nil, Mix.nth_zero, Mix.nth_succ]
      have HND := Lib.hid (HN9.out.fr0 (Fr.refl _ _).drew)
      generalize W9.drew = wd at *
      clear ke
      repeat (first
        | (refine Mix.go_skipS (by first | exact Mix.wanted_no rfl rfl rfl rfl | exact Mix.wanted_void rfl rfl rfl) ?_; go_frame)
        | (refine Mix.go_skipL (by first | exact Mix.wanted_no rfl rfl rfl rfl | exact Mix.wanted_void rfl rfl rfl) ?_; go_frame)
        | (refine Mix.go_move (by first | exact Mix.wanted_none rfl | exact Mix.wanted_yes rfl rfl rfl) _ rfl _ (by first | (go_simp; done) | (go_simp; rfl)) ?_; go_frame)
        | (refine Mix.go_assign (by first | exact Mix.wanted_none rfl | exact Mix.wanted_yes rfl rfl rfl) _ rfl _ (by first | (go_simp; done) | (go_simp; rfl)) ?_; go_frame)
        | (refine Mix.go_sureW (by first | exact Mix.wanted_none rfl | exact Mix.wanted_yes rfl rfl rfl) _ (by rfl) (by rfl) _ (fun w' hC' => by go_wp2_with fail; refine Mix.stays ?_; go_frame; rfl) ?_; go_frame)
        | (refine Mix.go_lookW (by first | exact Mix.wanted_none rfl | exact Mix.wanted_yes rfl rfl rfl) _ (by rfl) (by rfl) _ (by go_wp2_with fail; refine Mix.stays ?_; go_frame; rfl) ?_; go_frame))
      refine Mix.go_turn ?_
      go_wp2_with (refine wpList_store_row rfl 38 _ _ rfl w.heap.size #[.int .i64 0, .bool false, .int .u32 0, .slice none 0 0] rfl rfl 38 _ HND.out.res.heap infoRR rfl (rp4_one (.slice none 0 0) zero rfl) ?_)
      have hz2 := setRow_heap wd w.heap.size _ #[.int .i64 0, .bool false, .int .u32 0, .slice none 0 0] _ _ HND.out.res.heap
      have hfe : Fr0 w (wd.setRow w.heap.size #[.int .i64 0, .bool false, .int .u32 0, .slice none 0 0]) := Fr.setRow HND.out.fr (fun h => absurd h (Nat.lt_irrefl _)) _
      have hrr := HND.out.rd.fr (Fr.setRow (S := fun j => j = w.heap.size) (Fr.refl _ wd) (fun _ => rfl) #[.int .i64 0, .bool false, .int .u32 0, .slice none 0 0]) HAP.out.n2 (fun j hj e => by have e' : j = w.heap.size := e; omega)
      have hce : (wd.setRow w.heap.size #[.int .i64 0, .bool false, .int .u32 0, .slice none 0 0]).cell? ⟨w.heap.size + 1, 1, none⟩ = some (.int .i64 e4) := by
        obtain ⟨s, hr, _⟩ := hrr
        exact hr.cell (i := 1) (by decide)
      have HZ2 := Lib.hid hz2
      have HFE := Lib.hid hfe
      clear hz2 hfe hrr
      generalize wd.setRow w.heap.size #[.int .i64 0, .bool false, .int .u32 0, .slice none 0 0] = we at *
      refine Mix.then_go hce ?_
      clear hce
      repeat (first
        | (refine Mix.go_skipS (by first | exact Mix.wanted_no rfl rfl rfl rfl | exact Mix.wanted_void rfl rfl rfl) ?_; go_frame)
        | (refine Mix.go_skipL (by first | exact Mix.wanted_no rfl rfl rfl rfl | exact Mix.wanted_void rfl rfl rfl) ?_; go_frame)
        | (refine Mix.go_move (by first | exact Mix.wanted_none rfl | exact Mix.wanted_yes rfl rfl rfl) _ rfl _ (by first | (go_simp; done) | (go_simp; rfl)) ?_; go_frame)
        | (refine Mix.go_assign (by first | exact Mix.wanted_none rfl | exact Mix.wanted_yes rfl rfl rfl) _ rfl _ (by first | (go_simp; done) | (go_simp; rfl)) ?_; go_frame)
        | (refine Mix.go_sureW (by first | exact Mix.wanted_none rfl | exact Mix.wanted_yes rfl rfl rfl) _ (by rfl) (by rfl) _ (fun w' hC' => by go_wp2_with fail; refine Mix.stays ?_; go_frame; rfl) ?_; go_frame)
        | (refine Mix.go_lookW (by first | exact Mix.wanted_none rfl | exact Mix.wanted_yes rfl rfl rfl) _ (by rfl) (by rfl) _ (by go_wp2_with fail; refine Mix.stays ?_; go_frame; rfl) ?_; go_frame))
      refine Mix.go_end ?_
      go_wp2_with fail
      (try simp only [Exit.inBlock, Exit.then])
      refine bodyPost_ret (results_r3 rfl _ _ w.heap.size _ rfl _ _ rfl rfl HZ2.out infoRR) rfl ⟨none, 0, ?_, ?_, ?_, HFE.out⟩
      · rw [HZ.out]; rfl
      · rw [HZ.out]; exact BytesIs.nil _
      · rw [HZ.out]; exact fun a n c h => by cases h
  · by_cases hbg : 1 < H
    · have HDH : Hid (decide (H = 1) = false) := Lib.hid (by simp; omega)
      have zh : ((H : Int) == 1) = false := by exact beq_eq_false_iff_ne.2 (by omega)
      obtain ⟨W9, hW9⟩ : ∃ W', W' = W8.setCell ⟨W2.heap.size, 1, none⟩ (.bool false) := ⟨_, rfl⟩
      have hN9 : RNow w w.heap.size (w.heap.size + 1) W2.heap.size b4 e4 (.slice A7 body.length C7) ⟨(K : Int), false, S, body⟩ W9 := by
        rw [hW9]
        exact HN8.out.set HAP.out 1 _ (fun j hj => by
          match j, hj with
          | 0, _ => rfl
          | 1, _ => rfl
          | 2, _ => rfl
          | 3, _ => rfl)
      have HB9 : Hid (BytesIs W9 (.slice A7 body.length C7) body) := Lib.hid (by
        rw [hW9]
        exact HB8.out.fr (Fr.setCell (S := fun j => j = W2.heap.size) (p := ⟨W2.heap.size, 1, none⟩) (Fr.refl _ _) (fun _ => rfl) _) (fun q n cp h => (HOFF.out q n cp h).1))
      have c1 : W8.cell? ⟨W2.heap.size, 1, none⟩ = some (.bool false) := HN8.out.bx.cells.2.1
      have t1 := HN8.out.thaw 1
      rw [HW8.out] at c1 t1
      have HN9 := Lib.hid hN9
      have HW9 : Hid (W9 = (W7.setCell ⟨W2.heap.size, 3, none⟩ (.slice A7 body.length C7)).setCell ⟨W2.heap.size, 1, none⟩ (.bool false)) := Lib.hid (by rw [hW9, HW8.out])
      clear hW9 hN9
      have ke := HN9.out.err
      rw [HW9.out] at ke
      go_upto_region 7 with fail
      rw [← HW9.out]
      rw [← HW9.out] at ke
      clear HW9 HW8 HN8 HB8 c1 t1 c3 t3 HN7 zh
      by_cases he : e4 = 0
      · have HE0 := Lib.hid he
        have ze : (e4 != 0) = false := by rw [he]; rfl
        clear he
        have hbig : (1 : Int) < (H : Int) := by omega
        have HZ : Hid (getB b = ⟨zero, 0, 2⟩) := Lib.hid (HISF.out.2.1 HE0.out (.inl (by omega)))
        go_wp2_with (refine wpList_store_row rfl 38 _ _ rfl w.heap.size #[.int .i64 0, .bool false, .int .u32 0, .slice none 0 0] rfl rfl 38 _ HN9.out.res.heap infoRR rfl (rp4_one (.slice none 0 0) zero rfl) ?_)
        have hz2 := setRow_heap W9 w.heap.size _ #[.int .i64 0, .bool false, .int .u32 0, .slice none 0 0] _ _ HN9.out.res.heap
        have hfe : Fr0 w (W9.setRow w.heap.size #[.int .i64 0, .bool false, .int .u32 0, .slice none 0 0]) := Fr.setRow HN9.out.fr (fun h => absurd h (Nat.lt_irrefl _)) _
        (try simp only [Exit.inBlock, Exit.then])
        refine bodyPost_ret (results_r3 rfl _ _ w.heap.size _ rfl _ _ rfl rfl hz2 infoRR) rfl ⟨none, 0, ?_, ?_, ?_, hfe⟩
        · rw [HZ.out]; rfl
        · rw [HZ.out]; exact BytesIs.nil _
        · rw [HZ.out]; exact fun a n c h => by cases h
      · clear ke
        have HZ : Hid (getB b = ⟨zero, 0, e4⟩) := Lib.hid (HISF.out.1 he)
        have ze : (e4 != 0) = true := bne_iff_ne.2 he
        have ke := HN9.out.err
        go_wp2
        refine Mix.law (fun X => X.cell? ⟨w.heap.size + 1, 1, none⟩ = some (.int .i64 e4)) [(.sure, 0), (.sure, 1), (.sure, 2), (.sure, 3), (.sure, 4), (.turn, 5), (.sure, 6), (.sure, 7)] (by kernel_rfl) (by kernel_rfl) ke ?_
        simp only [List.map_cons, List.map_nil, Mix.nth_zero, Mix.nth_succ]
        have HND := Lib.hid (HN9.out.fr0 (Fr.refl _ _).drew)
        generalize W9.drew = wd at *
        clear ke
        repeat (first
          | (refine Mix.go_skipS (by first | exact Mix.wanted_no rfl rfl rfl rfl | exact Mix.wanted_void rfl rfl rfl) ?_; go_frame)
          | (refine Mix.go_skipL (by first | exact Mix.wanted_no rfl rfl rfl rfl | exact Mix.wanted_void rfl rfl rfl) ?_; go_frame)
          | (refine Mix.go_move (by first | exact Mix.wanted_none rfl | exact Mix.wanted_yes rfl rfl rfl) _ rfl _ (by first | (go_simp; done) | (go_simp; rfl)) ?_; go_frame)
          | (refine Mix.go_assign (by first | exact Mix.wanted_none rfl | exact Mix.wanted_yes rfl rfl rfl) _ rfl _ (by first | (go_simp; done) | (go_simp; rfl)) ?_; go_frame)
          | (refine Mix.go_sureW (by first | exact Mix.wanted_none rfl | exact Mix.wanted_yes rfl rfl rfl) _ (by rfl) (by rfl) _ (fun w' hC' => by go_wp2_with fail; refine Mix.stays ?_; go_frame; rfl) ?_; go_frame)
          | (refine Mix.go_lookW (by first | exact Mix.wanted_none rfl | exact Mix.wanted_yes rfl rfl rfl) _ (by rfl) (by rfl) _ (by go_wp2_with fail; refine Mix.stays ?_; go_frame; rfl) ?_; go_frame))
        refine Mix.go_turn ?_
        go_wp2_with (refine wpList_store_row rfl 38 _ _ rfl w.heap.size #[.int .i64 0, .bool false, .int .u32 0, .slice none 0 0] rfl rfl 38 _ HND.out.res.heap infoRR rfl (rp4_one (.slice none 0 0) zero rfl) ?_)
        have hz2 := setRow_heap wd w.heap.size _ #[.int .i64 0, .bool false, .int .u32 0, .slice none 0 0] _ _ HND.out.res.heap
        have hfe : Fr0 w (wd.setRow w.heap.size #[.int .i64 0, .bool false, .int .u32 0, .slice none 0 0]) := Fr.setRow HND.out.fr (fun h => absurd h (Nat.lt_irrefl _)) _
        have hrr := HND.out.rd.fr (Fr.setRow (S := fun j => j = w.heap.size) (Fr.refl _ wd) (fun _ => rfl) #[.int .i64 0, .bool false, .int .u32 0, .slice none 0 0]) HAP.out.n2 (fun j hj e => by have e' : j = w.heap.size := e; omega)
        have hce : (wd.setRow w.heap.size #[.int .i64 0, .bool false, .int .u32 0, .slice none 0 0]).cell? ⟨w.heap.size + 1, 1, none⟩ = some (.int .i64 e4) := by
          obtain ⟨s, hr, _⟩ := hrr
          exact hr.cell (i := 1) (by decide)
        have HZ2 := Lib.hid hz2
        have HFE := Lib.hid hfe
        clear hz2 hfe hrr
        generalize wd.setRow w.heap.size #[.int .i64 0, .bool false, .int .u32 0, .slice none 0 0] = we at *
        refine Mix.then_go hce ?_
        clear hce
        repeat (first
          | (refine Mix.go_skipS (by first | exact Mix.wanted_no rfl rfl rfl rfl | exact Mix.wanted_void rfl rfl rfl) ?_; go_frame)
          | (refine Mix.go_skipL (by first | exact Mix.wanted_no rfl rfl rfl rfl | exact Mix.wanted_void rfl rfl rfl) ?_; go_frame)
          | (refine Mix.go_move (by first | exact Mix.wanted_none rfl | exact Mix.wanted_yes rfl rfl rfl) _ rfl _ (by first | (go_simp; done) | (go_simp; rfl)) ?_; go_frame)
          | (refine Mix.go_assign (by first | exact Mix.wanted_none rfl | exact Mix.wanted_yes rfl rfl rfl) _ rfl _ (by first | (go_simp; done) | (go_simp; rfl)) ?_; go_frame)
          | (refine Mix.go_sureW (by first | exact Mix.wanted_none rfl | exact Mix.wanted_yes rfl rfl rfl) _ (by rfl) (by rfl) _ (fun w' hC' => by go_wp2_with fail; refine Mix.stays ?_; go_frame; rfl) ?_; go_frame)
          | (refine Mix.go_lookW (by first | exact Mix.wanted_none rfl | exact Mix.wanted_yes rfl rfl rfl) _ (by rfl) (by rfl) _ (by go_wp2_with fail; refine Mix.stays ?_; go_frame; rfl) ?_; go_frame))
        refine Mix.go_end ?_
        go_wp2_with fail
        (try simp only [Exit.inBlock, Exit.then])
        refine bodyPost_ret (results_r3 rfl _ _ w.heap.size _ rfl _ _ rfl rfl HZ2.out infoRR) rfl ⟨none, 0, ?_, ?_, ?_, HFE.out⟩
        · rw [HZ.out]; rfl
        · rw [HZ.out]; exact BytesIs.nil _
        · rw [HZ.out]; exact fun a n c h => by cases h
    · have HDH : Hid (decide (H = 1) = false) := Lib.hid (by simp; omega)
      have zh : ((H : Int) == 1) = false := by exact beq_eq_false_iff_ne.2 (by omega)
      obtain ⟨W9, hW9⟩ : ∃ W', W' = W8.setCell ⟨W2.heap.size, 1, none⟩ (.bool false) := ⟨_, rfl⟩
      have hN9 : RNow w w.heap.size (w.heap.size + 1) W2.heap.size b4 e4 (.slice A7 body.length C7) ⟨(K : Int), false, S, body⟩ W9 := by
        rw [hW9]
        exact HN8.out.set HAP.out 1 _ (fun j hj => by
          match j, hj with
          | 0, _ => rfl
          | 1, _ => rfl
          | 2, _ => rfl
          | 3, _ => rfl)
      have HB9 : Hid (BytesIs W9 (.slice A7 body.length C7) body) := Lib.hid (by
        rw [hW9]
        exact HB8.out.fr (Fr.setCell (S := fun j => j = W2.heap.size) (p := ⟨W2.heap.size, 1, none⟩) (Fr.refl _ _) (fun _ => rfl) _) (fun q n cp h => (HOFF.out q n cp h).1))
      have c1 : W8.cell? ⟨W2.heap.size, 1, none⟩ = some (.bool false) := HN8.out.bx.cells.2.1
      have t1 := HN8.out.thaw 1
      rw [HW8.out] at c1 t1
      have HN9 := Lib.hid hN9
      have HW9 : Hid (W9 = (W7.setCell ⟨W2.heap.size, 3, none⟩ (.slice A7 body.length C7)).setCell ⟨W2.heap.size, 1, none⟩ (.bool false)) := Lib.hid (by rw [hW9, HW8.out])
      clear hW9 hN9
      have ke := HN9.out.err
      rw [HW9.out] at ke
      go_upto_region 7 with fail
      rw [← HW9.out]
      rw [← HW9.out] at ke
      clear HW9 HW8 HN8 HB8 c1 t1 c3 t3 HN7 zh
      by_cases he : e4 = 0
      · have HE0 := Lib.hid he
        have ze : (e4 != 0) = false := by rw [he]; rfl
        clear he
        have hsm : ¬ (1 : Int) < (H : Int) := by omega
        have hgd := rgoodR_any A7 C7 ⟨(K : Int), false, S, body⟩ HLB.out W9
        unfold rp4 at hgd
        obtain ⟨G, hG⟩ : ∃ G, G = good ⟨(K : Int), false, S, body⟩ := ⟨_, rfl⟩
        simp only at hgd
        rw [← hG] at hgd
        have HG := Lib.hid hG
        obtain ⟨k0, k1, k2, k3⟩ := HN9.out.bx.cells
        simp only at k0 k1 k2
        clear hG
        go_wp2_with fail
        refine hgd.mono ?_
        clear hgd k0 k1 k2 k3
        rintro e Wa ⟨rfl, hFa⟩
        have HNa := Lib.hid (HN9.out.fr0 hFa)
        have HBa := Lib.hid (HB9.out.fr0 hFa)
        clear hFa
        cases G with
        | false =>
          have HZ : Hid (getB b = ⟨zero, 0, 2⟩) := Lib.hid (HISF.out.2.1 HE0.out (.inr (by rw [HDH.out]; exact HG.out.symm)))
          go_wp2_with (refine wpList_store_row rfl 38 _ _ rfl w.heap.size #[.int .i64 0, .bool false, .int .u32 0, .slice none 0 0] rfl rfl 38 _ HNa.out.res.heap infoRR rfl (rp4_one (.slice none 0 0) zero rfl) ?_)
          have hz2 := setRow_heap Wa w.heap.size _ #[.int .i64 0, .bool false, .int .u32 0, .slice none 0 0] _ _ HNa.out.res.heap
          have hfe : Fr0 w (Wa.setRow w.heap.size #[.int .i64 0, .bool false, .int .u32 0, .slice none 0 0]) := Fr.setRow HNa.out.fr (fun h => absurd h (Nat.lt_irrefl _)) _
          (try simp only [Exit.inBlock, Exit.then])
          refine bodyPost_ret (results_r3 rfl _ _ w.heap.size _ rfl _ _ rfl rfl hz2 infoRR) rfl ⟨none, 0, ?_, ?_, ?_, hfe⟩
          · rw [HZ.out]; rfl
          · rw [HZ.out]; exact BytesIs.nil _
          · rw [HZ.out]; exact fun a n c h => by cases h
        | true =>
          have HZ : Hid (getB b = ⟨⟨(K : Int), false, S, body⟩, b.length - b4.length, 0⟩) := Lib.hid (by
            have h := HISF.out.2.2 HE0.out (fun h => by
              rcases h with h | h
              · exact absurd h (by omega)
              · rw [HDH.out, ← HG.out] at h; cases h)
            rw [HDH.out] at h
            exact h)
          obtain ⟨al, cl, kl⟩ := HNa.out.left
          have hkh := HNa.out.bx.heap
          have x1 : wrap64 ((b.length : Int) - (b4.length : Int)) = ((b.length - b4.length : Nat) : Int) := by simp only [wrap64]; omega
          go_wp2
          refine Mix.law (fun X => X.heap[W2.heap.size]? = some (.cells #[.int .i64 (K : Int), .bool false, .int .u32 (S : Int), .slice A7 body.length C7] 38 (0, 0)) ∧ X.cell? ⟨w.heap.size + 1, 0, none⟩ = some (.slice al b4.length cl)) [(.sure, 0), (.sure, 1), (.sure, 2), (.sure, 3), (.sure, 4), (.sure, 5), (.sure, 6), (.sure, 7), (.sure, 8), (.turn, 9), (.sure, 10), (.sure, 11)] (by kernel_rfl) (by kernel_rfl) ⟨hkh, kl⟩ ?_
          simp only [List.map_cons, List.map_nil, Mix.nth_zero, Mix.nth_succ]
          have HND := Lib.hid (HNa.out.fr0 (Fr.refl _ _).drew)
          have HBD := Lib.hid (HBa.out.fr0 (Fr.refl _ _).drew)
          have HKL : Hid (Wa.drew.cell? ⟨w.heap.size + 1, 0, none⟩ = some (.slice al b4.length cl)) := Lib.hid kl
          generalize Wa.drew = wd at *
          clear kl hkh
          refine Mix.go_sure_row (by first | exact Mix.wanted_none rfl | exact Mix.wanted_yes rfl rfl rfl) 38 _ rfl W2.heap.size rfl 38 _ (0, 0) _ (fun w1 hC1 => hC1.1) Try.underlying38 rfl (by kernel_rfl) ?_
          go_frame
          repeat (first
            | (refine Mix.go_skipS (by first | exact Mix.wanted_no rfl rfl rfl rfl | exact Mix.wanted_void rfl rfl rfl) ?_; go_frame)
            | (refine Mix.go_skipL (by first | exact Mix.wanted_no rfl rfl rfl rfl | exact Mix.wanted_void rfl rfl rfl) ?_; go_frame)
            | (refine Mix.go_move (by first | exact Mix.wanted_none rfl | exact Mix.wanted_yes rfl rfl rfl) _ rfl _ (by first | (go_simp; done) | (go_simp; rfl)) ?_; go_frame)
            | (refine Mix.go_assign (by first | exact Mix.wanted_none rfl | exact Mix.wanted_yes rfl rfl rfl) _ rfl _ (by first | (go_simp; done) | (go_simp; rfl)) ?_; go_frame)
            | (refine Mix.go_sureW (by first | exact Mix.wanted_none rfl | exact Mix.wanted_yes rfl rfl rfl) _ (by rfl) (by rfl) _ (fun w' ⟨hC1, hC2⟩ => by go_wp2_with fail; refine Mix.stays ?_; go_frame; rfl) ?_; go_frame)
            | (refine Mix.go_lookW (by first | exact Mix.wanted_none rfl | exact Mix.wanted_yes rfl rfl rfl) _ (by rfl) (by rfl) _ (by go_wp2_with fail; refine Mix.stays ?_; go_frame; rfl) ?_; go_frame))
          refine Mix.go_turn ?_
          go_wp2_with (refine wpList_store_row rfl 38 _ _ rfl w.heap.size #[.int .i64 (K : Int), .bool false, .int .u32 (S : Int), .slice A7 body.length C7] rfl rfl 38 _ HND.out.res.heap infoRR rfl (rp4_one (.slice A7 body.length C7) ⟨(K : Int), false, S, body⟩ rfl) ?_)
          have hz2 := setRow_heap wd w.heap.size _ #[.int .i64 (K : Int), .bool false, .int .u32 (S : Int), .slice A7 body.length C7] _ _ HND.out.res.heap
          have hfe : Fr0 w (wd.setRow w.heap.size #[.int .i64 (K : Int), .bool false, .int .u32 (S : Int), .slice A7 body.length C7]) := Fr.setRow HND.out.fr (fun h => absurd h (Nat.lt_irrefl _)) _
          have hfs : Fr (fun j => j = w.heap.size) wd (wd.setRow w.heap.size #[.int .i64 (K : Int), .bool false, .int .u32 (S : Int), .slice A7 body.length C7]) := Fr.setRow (S := fun j => j = w.heap.size) (Fr.refl _ wd) (fun _ => rfl) _
          have hbb := HBD.out.fr hfs (fun q n cp h => (HOFF.out q n cp h).2.1)
          have hch := hfs.heap HND.out.bx.heap (fun e => HAP.out.n3 e)
          have hcl := (hfs.cell (p := ⟨w.heap.size + 1, 0, none⟩) (World.block_lt_of_cell? wd _ HKL.out) (fun e => HAP.out.n2 e)).trans HKL.out
          have HZ2 := Lib.hid hz2
          have HFE := Lib.hid hfe
          have HBB := Lib.hid hbb
          clear hz2 hfe hfs hbb
          generalize wd.setRow w.heap.size #[.int .i64 (K : Int), .bool false, .int .u32 (S : Int), .slice A7 body.length C7] = we at *
          refine Mix.then_go ⟨hch, hcl⟩ ?_
          clear hch hcl
          repeat (first
            | (refine Mix.go_skipS (by first | exact Mix.wanted_no rfl rfl rfl rfl | exact Mix.wanted_void rfl rfl rfl) ?_; go_frame)
            | (refine Mix.go_skipL (by first | exact Mix.wanted_no rfl rfl rfl rfl | exact Mix.wanted_void rfl rfl rfl) ?_; go_frame)
            | (refine Mix.go_move (by first | exact Mix.wanted_none rfl | exact Mix.wanted_yes rfl rfl rfl) _ rfl _ (by first | (go_simp; done) | (go_simp; rfl)) ?_; go_frame)
            | (refine Mix.go_assign (by first | exact Mix.wanted_none rfl | exact Mix.wanted_yes rfl rfl rfl) _ rfl _ (by first | (go_simp; done) | (go_simp; rfl)) ?_; go_frame)
            | (refine Mix.go_sureW (by first | exact Mix.wanted_none rfl | exact Mix.wanted_yes rfl rfl rfl) _ (by rfl) (by rfl) _ (fun w' ⟨hC1, hC2⟩ => by go_wp2_with fail; refine Mix.stays ?_; go_frame; rfl) ?_; go_frame)
            | (refine Mix.go_lookW (by first | exact Mix.wanted_none rfl | exact Mix.wanted_yes rfl rfl rfl) _ (by rfl) (by rfl) _ (by go_wp2_with fail; refine Mix.stays ?_; go_frame; rfl) ?_; go_frame))
          refine Mix.go_end ?_
          go_wp2_with fail
          (try simp only [Exit.inBlock, Exit.then])
          refine bodyPost_ret (results_r3 rfl _ _ w.heap.size _ rfl _ _ rfl rfl HZ2.out infoRR) rfl ⟨A7, C7, ?_, ?_, ?_, HFE.out⟩
          · rw [HZ.out]
            show Ending.returned (.tuple #[.agg #[.int .i64 (K : Int), .bool false, .int .u32 (S : Int), .slice A7 body.length C7], .int .i64 ((b.length : Int) - (b4.length : Int)), .int .i64 0]) = _
            rw [show (b.length : Int) - (b4.length : Int) = ((b.length - b4.length : Nat) : Int) by omega]
            rfl
          · rw [HZ.out]; exact HBB.out
          · rw [HZ.out]; exact fun q n c h _ => (HOFF.out q n c h).2.2
      · clear ke
        have HZ : Hid (getB b = ⟨zero, 0, e4⟩) := Lib.hid (HISF.out.1 he)
        have ze : (e4 != 0) = true := bne_iff_ne.2 he
        have ke := HN9.out.err
        go_wp2
        refine Mix.law (fun X => X.cell? ⟨w.heap.size + 1, 1, none⟩ = some (.int .i64 e4)) [(.sure, 0), (.sure, 1), (.sure, 2), (.sure, 3), (.sure, 4), (.turn, 5), (.sure, 6), (.sure, 7)] (by kernel_rfl) (by kernel_rfl) ke ?_
        simp only [List.map_cons, List.map_nil, Mix.nth_zero, Mix.nth_succ]
        have HND := Lib.hid (HN9.out.fr0 (Fr.refl _ _).drew)
        generalize W9.drew = wd at *
        clear ke
        repeat (first
          | (refine Mix.go_skipS (by first | exact Mix.wanted_no rfl rfl rfl rfl | exact Mix.wanted_void rfl rfl rfl) ?_; go_frame)
          | (refine Mix.go_skipL (by first | exact Mix.wanted_no rfl rfl rfl rfl | exact Mix.wanted_void rfl rfl rfl) ?_; go_frame)
          | (refine Mix.go_move (by first | exact Mix.wanted_none rfl | exact Mix.wanted_yes rfl rfl rfl) _ rfl _ (by first | (go_simp; done) | (go_simp; rfl)) ?_; go_frame)
          | (refine Mix.go_assign (by first | exact Mix.wanted_none rfl | exact Mix.wanted_yes rfl rfl rfl) _ rfl _ (by first | (go_simp; done) | (go_simp; rfl)) ?_; go_frame)
          | (refine Mix.go_sureW (by first | exact Mix.wanted_none rfl | exact Mix.wanted_yes rfl rfl rfl) _ (by rfl) (by rfl) _ (fun w' hC' => by go_wp2_with fail; refine Mix.stays ?_; go_frame; rfl) ?_; go_frame)
          | (refine Mix.go_lookW (by first | exact Mix.wanted_none rfl | exact Mix.wanted_yes rfl rfl rfl) _ (by rfl) (by rfl) _ (by go_wp2_with fail; refine Mix.stays ?_; go_frame; rfl) ?_; go_frame))
        refine Mix.go_turn ?_
        go_wp2_with (refine wpList_store_row rfl 38 _ _ rfl w.heap.size #[.int .i64 0, .bool false, .int .u32 0, .slice none 0 0] rfl rfl 38 _ HND.out.res.heap infoRR rfl (rp4_one (.slice none 0 0) zero rfl) ?_)
        have hz2 := setRow_heap wd w.heap.size _ #[.int .i64 0, .bool false, .int .u32 0, .slice none 0 0] _ _ HND.out.res.heap
        have hfe : Fr0 w (wd.setRow w.heap.size #[.int .i64 0, .bool false, .int .u32 0, .slice none 0 0]) := Fr.setRow HND.out.fr (fun h => absurd h (Nat.lt_irrefl _)) _
        have hrr := HND.out.rd.fr (Fr.setRow (S := fun j => j = w.heap.size) (Fr.refl _ wd) (fun _ => rfl) #[.int .i64 0, .bool false, .int .u32 0, .slice none 0 0]) HAP.out.n2 (fun j hj e => by have e' : j = w.heap.size := e; omega)
        have hce : (wd.setRow w.heap.size #[.int .i64 0, .bool false, .int .u32 0, .slice none 0 0]).cell? ⟨w.heap.size + 1, 1, none⟩ = some (.int .i64 e4) := by
          obtain ⟨s, hr, _⟩ := hrr
          exact hr.cell (i := 1) (by decide)
        have HZ2 := Lib.hid hz2
        have HFE := Lib.hid hfe
        clear hz2 hfe hrr
        generalize wd.setRow w.heap.size #[.int .i64 0, .bool false, .int .u32 0, .slice none 0 0] = we at *
        refine Mix.then_go hce ?_
        clear hce
        repeat (first
          | (refine Mix.go_skipS (by first | exact Mix.wanted_no rfl rfl rfl rfl | exact Mix.wanted_void rfl rfl rfl) ?_; go_frame)
          | (refine Mix.go_skipL (by first | exact Mix.wanted_no rfl rfl rfl rfl | exact Mix.wanted_void rfl rfl rfl) ?_; go_frame)
          | (refine Mix.go_move (by first | exact Mix.wanted_none rfl | exact Mix.wanted_yes rfl rfl rfl) _ rfl _ (by first | (go_simp; done) | (go_simp; rfl)) ?_; go_frame)
          | (refine Mix.go_assign (by first | exact Mix.wanted_none rfl | exact Mix.wanted_yes rfl rfl rfl) _ rfl _ (by first | (go_simp; done) | (go_simp; rfl)) ?_; go_frame)
          | (refine Mix.go_sureW (by first | exact Mix.wanted_none rfl | exact Mix.wanted_yes rfl rfl rfl) _ (by rfl) (by rfl) _ (fun w' hC' => by go_wp2_with fail; refine Mix.stays ?_; go_frame; rfl) ?_; go_frame)
          | (refine Mix.go_lookW (by first | exact Mix.wanted_none rfl | exact Mix.wanted_yes rfl rfl rfl) _ (by rfl) (by rfl) _ (by go_wp2_with fail; refine Mix.stays ?_; go_frame; rfl) ?_; go_frame))
        refine Mix.go_end ?_
        go_wp2_with fail
        (try simp only [Exit.inBlock, Exit.then])
        refine bodyPost_ret (results_r3 rfl _ _ w.heap.size _ rfl _ _ rfl rfl HZ2.out infoRR) rfl ⟨none, 0, ?_, ?_, ?_, HFE.out⟩
        · rw [HZ.out]; rfl
        · rw [HZ.out]; exact BytesIs.nil _
        · rw [HZ.out]; exact fun a n c h => by cases h
end Go.Proofs.Ytjefddliebokaaa.Reply
