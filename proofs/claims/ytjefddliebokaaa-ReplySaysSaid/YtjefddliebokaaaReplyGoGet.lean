/-
  The program's Get.
-/
import Derived.Test.YtjefddliebokaaaReplyNext
import Derived.Test.YtjefddliebokaaaMixS
import Derived.Test.YtjefddliebokaaaReplyRow
namespace Go.Proofs.Ytjefddliebokaaa.Reply
open Go.RowKit Base Pack

theorem results_n3 {fn : Func} {p u u2 : Tmp} (h : fn.results = #[.cell p 27, .tmp u, .tmp u2]) (tmps : Array Value) (w : World) (g : Nat) (cs : Array Value) (hp : tmps.getD p undef = .pointer (some ⟨g, 0, none⟩)) (v v2 : Value) (hu : tmps.getD u undef = v) (hu2 : tmps.getD u2 undef = v2) (hg : w.heap[g]? = some (.cells cs 27 (0, 0))) (hi : (Try.prog.info? 27).map (·.size) = some cs.size) :
    (results fn tmps).run Try.prog w = .ok (.tuple #[.agg cs, v, v2]) w := by
  have hp' : tmps[p]?.getD undef = .pointer (some ⟨g, 0, none⟩) := by simpa using hp
  have hq' : tmps[u]?.getD undef = v := by simpa using hu
  have hq2 : tmps[u2]?.getD undef = v2 := by simpa using hu2
  simp [results, h, hp', hq', hq2, asAddr, run_loadVar_row w g 27 27 cs (0, 0) _ hg Try.underlying27 rfl hi]
theorem front_get (b : List UInt8) (M : Nat) (h : M = b.length ∧ b.length ≤ 263 ∨ M = 263) : getB (b.take M) = getB b := by
  rcases h with ⟨rfl, _⟩ | rfl
  · rw [List.take_of_length_le (Nat.le_refl _)]
  · exact get_take b
theorem left_cell (g : Nat) (a : Option Addr) (n c : Nat) (hn : n ≤ 9223372036854775807) (w : World) (c0 : w.cell? ⟨g, 0, none⟩ = some (.slice a n c)) :
    Calls Try.prog 26 #[.pointer (some ⟨g, 0, none⟩)] w fun e w' => e = .returned (.int .i64 (n : Int)) ∧ w = w' := by
  go_enter Try.func26, Try.ntmps26
  go_wp2
  go_ret
  exact ⟨rfl, rfl⟩
set_option maxRecDepth 100000 in
set_option maxHeartbeats 8000000 in
theorem pget_any (v : Value) (b : List UInt8) (hb : b.length ≤ 140737488355328) (w : World) (hB : BytesIs w v b) :
    Calls Try.prog 13 #[v] w (GetPost b w) := by
  obtain ⟨va, vc, rfl⟩ := hB.form
  have hcap : b.length ≤ vc := by obtain ⟨_, _, _, _, he, h1, _⟩ := hB; simp only [Value.slice.injEq] at he; rw [he.2.2]; exact h1
  obtain ⟨M, hM⟩ : ∃ M, M = min b.length 263 := ⟨_, rfl⟩
  have hM1 : M ≤ b.length := by omega
  have hGE := front_get b M (by omega)
  have hMb : M ≤ 263 ∧ M ≤ b.length := by omega
  have hfl : (b.take M).length = M := by rw [List.length_take]; omega
  obtain ⟨W0, hW0⟩ : ∃ W0, W0 = w.alloc (.cells #[.int .i64 0, .bool false, .int .u32 0, .slice none 0 0] 27) := ⟨_, rfl⟩
  have hF0 : Fr0 w W0 := by rw [hW0]; exact (Fr.refl _ _).alloc _
  have hres : Bx 27 W0 w.heap.size (.slice none 0 0) zero := by rw [hW0]; exact Bx.new 27 w (.slice none 0 0) zero
  have hs0 : W0.heap.size = w.heap.size + 1 := by rw [hW0]; simp
  have hnew := new_any (.slice va M vc) (b.take M) (by omega) W0 (BytesIs.takeHi hM1 (hB.fr0 hF0))
  have hs1 := fun wx : World => cut_hi_at (P := Try.prog) 25 5 Try.underlying25 (by kernel_rfl) va b.length vc M (by omega) wx
  obtain ⟨F, hF⟩ : ∃ F, F = b.take M := ⟨_, rfl⟩
  rw [← hF] at hGE hfl hnew
  have hg8 : (getB F).e = 0 → 8 ≤ (getB F).n ∧ (getB F).n ≤ F.length := get_n
  rw [hGE] at hg8
  have hnx := fun (g : Nat) (W : World) (hB : RdP W.heap.size W g F 0) => next_any W.heap.size g F (by omega) W (Nat.le_refl _) hB
  unfold NextPost at hnx
  rw [hGE] at hnx
  have HER := Lib.hid (getB_err b)
  have HG8 := Lib.hid hg8
  have HNX := Lib.hid hnx
  have HRS := Lib.hid hres
  have HF0 := Lib.hid hF0
  have HW0 := Lib.hid hW0
  have HFL := Lib.hid hfl
  unfold GetPost
  generalize getB b = G at *
  obtain ⟨r, n, er⟩ := G
  simp only at HNX HG8 HER ⊢
  unfold rp4 at *
  have hML : M = 263 ∧ 263 < b.length ∨ M = b.length ∧ b.length ≤ 263 := by omega
  clear hg8 hnx hres hF0 hW0 hF hGE hfl hB hM1 hM hMb
  go_enter Try.func13, Try.ntmps13
  by_cases l1 : (263 : Int) < (b.length : Int)
  · obtain rfl : M = 263 := by omega
    go_wp2_with fail
    rw [← HW0.out]
    refine hnew.mono ?_
    clear hnew hs1
    rintro e W1 ⟨gr, rfl, hgr, hR1, hF1⟩
    have hgl := hR1.lt
    have hnx := HNX.out gr W1 (RdP.of hR1)
    have HRS1 := Lib.hid (HRS.out.fr0 hF1)
    have HF1 := Lib.hid (HF0.out.trans' hF1)
    have hs1 := hF1.size
    clear hR1 hF1 HNX
    go_wp2_with fail
    refine hnx.mono ?_
    clear hnx
    rintro e W2 ⟨A, C, b', e', rfl, hB2, hN2, hR2, hI2, hF2⟩
    have hs2 := hF2.size
    have HF2 : Hid (Fr0 w W2) := Lib.hid (HF1.out.trans hF2 (fun i hi e => by have e' : i = gr := e; omega))
    have HRS2 := Lib.hid (HRS1.out.fr hF2 (fun e => by have e' : w.heap.size = gr := e; omega))
    have hga := heap_alloc_new W2 (.cells #[.int .i64 0, .bool false, .int .u32 0, .slice none 0 0] 27)
    obtain ⟨W3, hW3⟩ : ∃ W3, W3 = (W2.alloc (.cells #[.int .i64 0, .bool false, .int .u32 0, .slice none 0 0] 27)).setRow W2.heap.size #[.int .i64 r.st, .bool r.hit, .int .u32 (r.slot : Int), .slice A r.body.length C] := ⟨_, rfl⟩
    have hf3 : Fr0 W2 W3 := by rw [hW3]; exact Fr.setRow ((Fr.refl _ _).alloc _) (fun h => absurd h (Nat.lt_irrefl _)) _
    have HBX : Hid (Bx 27 W3 W2.heap.size (.slice A r.body.length C) r) := Lib.hid (.of_heap (by rw [hW3]; exact setRow_heap _ _ _ _ _ _ hga))
    have HR3 := Lib.hid (hR2.fr0 hf3)
    have HB3 := Lib.hid (hB2.fr0 hf3)
    have HRS3 := Lib.hid (HRS2.out.fr0 hf3)
    have HF3 := Lib.hid (HF2.out.trans' hf3)
    have HN3 : Hid (∀ q m c, Value.slice A r.body.length C = .slice (some q) m c → 0 < r.body.length → ¬ q.block = w.heap.size ∧ w.heap.size ≤ q.block) := Lib.hid (fun q m c h hl => by have := hN2 q m c h hl; omega)
    have HI2 := Lib.hid hI2
    have HW3 := Lib.hid hW3
    have HGA := Lib.hid hga
    clear hB2 hN2 hR2 hI2 hF2 hga hf3 hW3 HRS1 HF1 HRS2 HF2
    by_cases he : er = 0
    · have HE0 := Lib.hid he
      obtain ⟨g8, gl⟩ := HG8.out he
      obtain ⟨hb', he'⟩ := HI2.out he
      have hbl : b'.length = 263 - n := by rw [hb', List.length_drop, HFL.out]
      rw [HFL.out] at gl
      have HBL := Lib.hid hbl
      clear he hb' hbl
      have hz0 : (er != 0) = false := by rw [HE0.out]; rfl
      go_wp2_with (refine wpList_store_row rfl 27 _ _ rfl W2.heap.size #[.int .i64 r.st, .bool r.hit, .int .u32 (r.slot : Int), .slice A r.body.length C] rfl rfl 27 _ HGA.out infoRG rfl (rp4_one (.slice A r.body.length C) r rfl) ?_; rw [← HW3.out])
      have HRD := Lib.hid (HR3.out.fr0 (Fr.refl _ _).drew)
      have HBD := Lib.hid (HB3.out.fr0 (Fr.refl _ _).drew)
      have HSD := Lib.hid (HRS3.out.fr0 (Fr.refl _ _).drew)
      have HXD := Lib.hid (HBX.out.fr0 (Fr.refl _ _).drew)
      have HFD := Lib.hid (HF3.out.trans' (Fr.refl _ _).drew)
      have hkh := HBX.out.heap
      obtain ⟨al, cl, kl⟩ : ∃ al cl, W3.cell? ⟨gr, 0, none⟩ = some (.slice al (263 - n) cl) := by
        obtain ⟨s, hr, hbs, _⟩ := HR3.out
        obtain ⟨al, cl, rfl⟩ := hbs.form
        rw [HBL.out] at hr
        exact ⟨al, cl, hr.cell (i := 0) (by decide)⟩
      have hrk := kl
      refine Mix.law (fun X => X.heap[W2.heap.size]? = some (.cells #[.int .i64 r.st, .bool r.hit, .int .u32 (r.slot : Int), .slice A r.body.length C] 27 (0, 0)) ∧ X.cell? ⟨gr, 0, none⟩ = some (.slice al (263 - n) cl)) [(.sure, 0), (.sure, 1), (.sure, 2), (.sure, 3), (.sure, 4), (.sure, 5), (.turn, 6), (.sure, 7), (.sure, 8)] (by kernel_rfl) (by kernel_rfl) ⟨hkh, hrk⟩ ?_
      have HKL : Hid (W3.drew.cell? ⟨gr, 0, none⟩ = some (.slice al (263 - n) cl)) := Lib.hid kl
      clear hkh hrk kl
      simp only [List.map_cons, List.map_nil, Mix.nth_zero, Mix.nth_succ]
      generalize W3.drew = wd at *
      refine Mix.go_sure_row (by first | exact Mix.wanted_none rfl | exact Mix.wanted_yes rfl rfl rfl) 27 _ rfl W2.heap.size rfl 27 _ (0, 0) _ (fun w1 hC1 => hC1.1) Try.underlying27 rfl (by kernel_rfl) ?_
      go_frame
      repeat (first
        | (refine Mix.go_skipS (by first | exact Mix.wanted_no rfl rfl rfl rfl | exact Mix.wanted_void rfl rfl rfl) ?_; go_frame)
        | (refine Mix.go_skipL (by first | exact Mix.wanted_no rfl rfl rfl rfl | exact Mix.wanted_void rfl rfl rfl) ?_; go_frame)
        | (refine Mix.go_move (by first | exact Mix.wanted_none rfl | exact Mix.wanted_yes rfl rfl rfl) _ rfl _ (by first | (go_simp; done) | (go_simp; rfl)) ?_; go_frame)
        | (refine Mix.go_assign (by first | exact Mix.wanted_none rfl | exact Mix.wanted_yes rfl rfl rfl) _ rfl _ (by first | (go_simp; done) | (go_simp; rfl)) ?_; go_frame)
        | (refine Mix.go_sureW (by first | exact Mix.wanted_none rfl | exact Mix.wanted_yes rfl rfl rfl) _ (by rfl) (by rfl) _ (fun w' ⟨hC1, hC2⟩ => by go_wp2_with fail; refine Mix.stays ?_; go_frame; rfl) ?_; go_frame)
        | (refine Mix.go_lookW (by first | exact Mix.wanted_none rfl | exact Mix.wanted_yes rfl rfl rfl) _ (by rfl) (by rfl) _ (by go_wp2_with fail; refine Mix.stays ?_; go_frame; rfl) ?_; go_frame))
      refine Mix.go_sureW (by first | exact Mix.wanted_none rfl | exact Mix.wanted_yes rfl rfl rfl) _ (by rfl) (by rfl) (.int .i64 ((263 - n : Nat) : Int)) (fun w' hC' => by
        have hlf := left_cell gr al (263 - n) cl (by omega) w' hC'.2
        go_wp2_with fail
        refine hlf.mono ?_
        rintro e wq ⟨rfl, rfl⟩
        go_wp2
        refine Mix.stays ?_
        go_frame) ?_
      go_frame
      have x1 : wrap64 ((263 : Int) - ((263 - n : Nat) : Int)) = (n : Int) := by simp only [wrap64]; omega
      repeat (first
        | (refine Mix.go_skipS (by first | exact Mix.wanted_no rfl rfl rfl rfl | exact Mix.wanted_void rfl rfl rfl) ?_; go_frame)
        | (refine Mix.go_skipL (by first | exact Mix.wanted_no rfl rfl rfl rfl | exact Mix.wanted_void rfl rfl rfl) ?_; go_frame)
        | (refine Mix.go_move (by first | exact Mix.wanted_none rfl | exact Mix.wanted_yes rfl rfl rfl) _ rfl _ (by first | (go_simp; done) | (go_simp; rfl)) ?_; go_frame)
        | (refine Mix.go_assign (by first | exact Mix.wanted_none rfl | exact Mix.wanted_yes rfl rfl rfl) _ rfl _ (by first | (go_simp; done) | (go_simp; rfl)) ?_; go_frame)
        | (refine Mix.go_sureW (by first | exact Mix.wanted_none rfl | exact Mix.wanted_yes rfl rfl rfl) _ (by rfl) (by rfl) _ (fun w' ⟨hC1, hC2⟩ => by go_wp2_with fail; refine Mix.stays ?_; go_frame; rfl) ?_; go_frame)
        | (refine Mix.go_lookW (by first | exact Mix.wanted_none rfl | exact Mix.wanted_yes rfl rfl rfl) _ (by rfl) (by rfl) _ (by go_wp2_with fail; refine Mix.stays ?_; go_frame; rfl) ?_; go_frame))
      refine Mix.go_turn ?_
      go_wp2_with (refine wpList_store_row rfl 27 _ _ rfl w.heap.size #[.int .i64 r.st, .bool r.hit, .int .u32 (r.slot : Int), .slice A r.body.length C] rfl rfl 27 _ HSD.out.heap infoRG rfl (rp4_one (.slice A r.body.length C) r rfl) ?_)
      have hz2 := setRow_heap wd w.heap.size _ #[.int .i64 r.st, .bool r.hit, .int .u32 (r.slot : Int), .slice A r.body.length C] _ _ HSD.out.heap
      have hfe : Fr0 w (wd.setRow w.heap.size #[.int .i64 r.st, .bool r.hit, .int .u32 (r.slot : Int), .slice A r.body.length C]) := Fr.setRow HFD.out (fun h => absurd h (Nat.lt_irrefl _)) _
      have hfs : Fr (fun j => j = w.heap.size) wd (wd.setRow w.heap.size #[.int .i64 r.st, .bool r.hit, .int .u32 (r.slot : Int), .slice A r.body.length C]) := Fr.setRow (S := fun j => j = w.heap.size) (Fr.refl _ wd) (fun _ => rfl) _
      have hbb := bytes_keep HBD.out hfs (fun q m c h hl => (HN3.out q m c h hl).1)
      have hch := hfs.heap HXD.out.heap (fun e => by have e' : W2.heap.size = w.heap.size := e; omega)
      have hcl := (hfs.cell (p := ⟨gr, 0, none⟩) (World.block_lt_of_cell? wd _ HKL.out) (fun e => by have e' : gr = w.heap.size := e; omega)).trans HKL.out
      have HZ2 := Lib.hid hz2
      have HFE := Lib.hid hfe
      have HBB := Lib.hid hbb
      clear hz2 hfe hfs hbb
      generalize wd.setRow w.heap.size #[.int .i64 r.st, .bool r.hit, .int .u32 (r.slot : Int), .slice A r.body.length C] = we at *
      refine Mix.then_go ⟨hch, hcl⟩ ?_
      clear hch hcl
      repeat (first
        | (refine Mix.go_skipS (by first | exact Mix.wanted_no rfl rfl rfl rfl | exact Mix.wanted_void rfl rfl rfl) ?_; go_frame)
        | (refine Mix.go_skipL (by first | exact Mix.wanted_no rfl rfl rfl rfl | exact Mix.wanted_void rfl rfl rfl) ?_; go_frame)
        | (refine Mix.go_move (by first | exact Mix.wanted_none rfl | exact Mix.wanted_yes rfl rfl rfl) _ rfl _ (by first | (go_simp; done) | (go_simp; rfl)) ?_; go_frame)
        | (refine Mix.go_assign (by first | exact Mix.wanted_none rfl | exact Mix.wanted_yes rfl rfl rfl) _ rfl _ (by first | (go_simp; done) | (go_simp; rfl)) ?_; go_frame)
        | (refine Mix.go_sureW (by first | exact Mix.wanted_none rfl | exact Mix.wanted_yes rfl rfl rfl) _ (by rfl) (by rfl) _ (fun w' ⟨hC1, hC2⟩ => by go_wp2_with fail; refine Mix.stays ?_; go_frame; rfl) ?_; go_frame)
        | (refine Mix.go_lookW (by first | exact Mix.wanted_none rfl | exact Mix.wanted_yes rfl rfl rfl) _ (by rfl) (by rfl) _ (by go_wp2_with fail; refine Mix.stays ?_; go_frame; rfl) ?_; go_frame))
      refine Mix.go_end ?_
      go_wp2_with fail
      (try simp only [Exit.inBlock, Exit.then])
      refine bodyPost_ret (results_n3 rfl _ _ w.heap.size _ rfl _ _ rfl rfl HZ2.out infoRG) rfl ⟨A, C, ?_, HBB.out, ?_, HFE.out⟩
      · rw [HE0.out]
        show Ending.returned (.tuple #[.agg #[.int .i64 r.st, .bool r.hit, .int .u32 (r.slot : Int), .slice A r.body.length C], .int .i64 ((263 : Int) - ((263 - n : Nat) : Int)), .int .i64 0]) = _
        rw [show (263 : Int) - ((263 - n : Nat) : Int) = (n : Int) by omega]
      · exact fun q m c h hl => (HN3.out q m c h hl).2
    · have hz1 : (er != 0) = true := bne_iff_ne.2 he
      go_wp2_with (first | (refine wpList_store_row rfl 27 _ _ rfl w.heap.size #[.int .i64 0, .bool false, .int .u32 0, .slice none 0 0] rfl rfl 27 _ HRS3.out.heap infoRG rfl (rp4_one (.slice none 0 0) zero rfl) ?_) | (refine wpList_store_row rfl 27 _ _ rfl W2.heap.size #[.int .i64 r.st, .bool r.hit, .int .u32 (r.slot : Int), .slice A r.body.length C] rfl rfl 27 _ HGA.out infoRG rfl (rp4_one (.slice A r.body.length C) r rfl) ?_; rw [← HW3.out]))
      have hz2 := setRow_heap W3 w.heap.size _ #[.int .i64 0, .bool false, .int .u32 0, .slice none 0 0] _ _ HRS3.out.heap
      have hfe : Fr0 w (W3.setRow w.heap.size #[.int .i64 0, .bool false, .int .u32 0, .slice none 0 0]) := Fr.setRow HF3.out (fun h => absurd h (Nat.lt_irrefl _)) _
      (try simp only [Exit.inBlock, Exit.then])
      obtain ⟨hr0, hn0⟩ := HER.out he
      subst hr0 hn0
      refine bodyPost_ret (results_n3 rfl _ _ w.heap.size _ rfl _ _ rfl rfl hz2 infoRG) rfl ⟨none, 0, rfl, BytesIs.nil _, (fun a n c h => by cases h), hfe⟩
  · obtain rfl : M = b.length := by omega
    go_wp2_with fail
    rw [← HW0.out]
    refine hnew.mono ?_
    clear hnew hs1
    rintro e W1 ⟨gr, rfl, hgr, hR1, hF1⟩
    have hgl := hR1.lt
    have hnx := HNX.out gr W1 (RdP.of hR1)
    have HRS1 := Lib.hid (HRS.out.fr0 hF1)
    have HF1 := Lib.hid (HF0.out.trans' hF1)
    have hs1 := hF1.size
    clear hR1 hF1 HNX
    go_wp2_with fail
    refine hnx.mono ?_
    clear hnx
    rintro e W2 ⟨A, C, b', e', rfl, hB2, hN2, hR2, hI2, hF2⟩
    have hs2 := hF2.size
    have HF2 : Hid (Fr0 w W2) := Lib.hid (HF1.out.trans hF2 (fun i hi e => by have e' : i = gr := e; omega))
    have HRS2 := Lib.hid (HRS1.out.fr hF2 (fun e => by have e' : w.heap.size = gr := e; omega))
    have hga := heap_alloc_new W2 (.cells #[.int .i64 0, .bool false, .int .u32 0, .slice none 0 0] 27)
    obtain ⟨W3, hW3⟩ : ∃ W3, W3 = (W2.alloc (.cells #[.int .i64 0, .bool false, .int .u32 0, .slice none 0 0] 27)).setRow W2.heap.size #[.int .i64 r.st, .bool r.hit, .int .u32 (r.slot : Int), .slice A r.body.length C] := ⟨_, rfl⟩
    have hf3 : Fr0 W2 W3 := by rw [hW3]; exact Fr.setRow ((Fr.refl _ _).alloc _) (fun h => absurd h (Nat.lt_irrefl _)) _
    have HBX : Hid (Bx 27 W3 W2.heap.size (.slice A r.body.length C) r) := Lib.hid (.of_heap (by rw [hW3]; exact setRow_heap _ _ _ _ _ _ hga))
    have HR3 := Lib.hid (hR2.fr0 hf3)
    have HB3 := Lib.hid (hB2.fr0 hf3)
    have HRS3 := Lib.hid (HRS2.out.fr0 hf3)
    have HF3 := Lib.hid (HF2.out.trans' hf3)
    have HN3 : Hid (∀ q m c, Value.slice A r.body.length C = .slice (some q) m c → 0 < r.body.length → ¬ q.block = w.heap.size ∧ w.heap.size ≤ q.block) := Lib.hid (fun q m c h hl => by have := hN2 q m c h hl; omega)
    have HI2 := Lib.hid hI2
    have HW3 := Lib.hid hW3
    have HGA := Lib.hid hga
    clear hB2 hN2 hR2 hI2 hF2 hga hf3 hW3 HRS1 HF1 HRS2 HF2
    by_cases he : er = 0
    · have HE0 := Lib.hid he
      obtain ⟨g8, gl⟩ := HG8.out he
      obtain ⟨hb', he'⟩ := HI2.out he
      have hbl : b'.length = b.length - n := by rw [hb', List.length_drop, HFL.out]
      rw [HFL.out] at gl
      have HBL := Lib.hid hbl
      clear he hb' hbl
      have hz0 : (er != 0) = false := by rw [HE0.out]; rfl
      go_wp2_with (refine wpList_store_row rfl 27 _ _ rfl W2.heap.size #[.int .i64 r.st, .bool r.hit, .int .u32 (r.slot : Int), .slice A r.body.length C] rfl rfl 27 _ HGA.out infoRG rfl (rp4_one (.slice A r.body.length C) r rfl) ?_; rw [← HW3.out])
      have HRD := Lib.hid (HR3.out.fr0 (Fr.refl _ _).drew)
      have HBD := Lib.hid (HB3.out.fr0 (Fr.refl _ _).drew)
      have HSD := Lib.hid (HRS3.out.fr0 (Fr.refl _ _).drew)
      have HXD := Lib.hid (HBX.out.fr0 (Fr.refl _ _).drew)
      have HFD := Lib.hid (HF3.out.trans' (Fr.refl _ _).drew)
      have hkh := HBX.out.heap
      obtain ⟨al, cl, kl⟩ : ∃ al cl, W3.cell? ⟨gr, 0, none⟩ = some (.slice al (b.length - n) cl) := by
        obtain ⟨s, hr, hbs, _⟩ := HR3.out
        obtain ⟨al, cl, rfl⟩ := hbs.form
        rw [HBL.out] at hr
        exact ⟨al, cl, hr.cell (i := 0) (by decide)⟩
      have hrk := kl
      refine Mix.law (fun X => X.heap[W2.heap.size]? = some (.cells #[.int .i64 r.st, .bool r.hit, .int .u32 (r.slot : Int), .slice A r.body.length C] 27 (0, 0)) ∧ X.cell? ⟨gr, 0, none⟩ = some (.slice al (b.length - n) cl)) [(.sure, 0), (.sure, 1), (.sure, 2), (.sure, 3), (.sure, 4), (.sure, 5), (.turn, 6), (.sure, 7), (.sure, 8)] (by kernel_rfl) (by kernel_rfl) ⟨hkh, hrk⟩ ?_
      have HKL : Hid (W3.drew.cell? ⟨gr, 0, none⟩ = some (.slice al (b.length - n) cl)) := Lib.hid kl
      clear hkh hrk kl
      simp only [List.map_cons, List.map_nil, Mix.nth_zero, Mix.nth_succ]
      generalize W3.drew = wd at *
      refine Mix.go_sure_row (by first | exact Mix.wanted_none rfl | exact Mix.wanted_yes rfl rfl rfl) 27 _ rfl W2.heap.size rfl 27 _ (0, 0) _ (fun w1 hC1 => hC1.1) Try.underlying27 rfl (by kernel_rfl) ?_
      go_frame
      repeat (first
        | (refine Mix.go_skipS (by first | exact Mix.wanted_no rfl rfl rfl rfl | exact Mix.wanted_void rfl rfl rfl) ?_; go_frame)
        | (refine Mix.go_skipL (by first | exact Mix.wanted_no rfl rfl rfl rfl | exact Mix.wanted_void rfl rfl rfl) ?_; go_frame)
        | (refine Mix.go_move (by first | exact Mix.wanted_none rfl | exact Mix.wanted_yes rfl rfl rfl) _ rfl _ (by first | (go_simp; done) | (go_simp; rfl)) ?_; go_frame)
        | (refine Mix.go_assign (by first | exact Mix.wanted_none rfl | exact Mix.wanted_yes rfl rfl rfl) _ rfl _ (by first | (go_simp; done) | (go_simp; rfl)) ?_; go_frame)
        | (refine Mix.go_sureW (by first | exact Mix.wanted_none rfl | exact Mix.wanted_yes rfl rfl rfl) _ (by rfl) (by rfl) _ (fun w' ⟨hC1, hC2⟩ => by go_wp2_with fail; refine Mix.stays ?_; go_frame; rfl) ?_; go_frame)
        | (refine Mix.go_lookW (by first | exact Mix.wanted_none rfl | exact Mix.wanted_yes rfl rfl rfl) _ (by rfl) (by rfl) _ (by go_wp2_with fail; refine Mix.stays ?_; go_frame; rfl) ?_; go_frame))
      refine Mix.go_sureW (by first | exact Mix.wanted_none rfl | exact Mix.wanted_yes rfl rfl rfl) _ (by rfl) (by rfl) (.int .i64 ((b.length - n : Nat) : Int)) (fun w' hC' => by
        have hlf := left_cell gr al (b.length - n) cl (by omega) w' hC'.2
        go_wp2_with fail
        refine hlf.mono ?_
        rintro e wq ⟨rfl, rfl⟩
        go_wp2
        refine Mix.stays ?_
        go_frame) ?_
      go_frame
      have x1 : wrap64 ((b.length : Int) - ((b.length - n : Nat) : Int)) = (n : Int) := by simp only [wrap64]; omega
      repeat (first
        | (refine Mix.go_skipS (by first | exact Mix.wanted_no rfl rfl rfl rfl | exact Mix.wanted_void rfl rfl rfl) ?_; go_frame)
        | (refine Mix.go_skipL (by first | exact Mix.wanted_no rfl rfl rfl rfl | exact Mix.wanted_void rfl rfl rfl) ?_; go_frame)
        | (refine Mix.go_move (by first | exact Mix.wanted_none rfl | exact Mix.wanted_yes rfl rfl rfl) _ rfl _ (by first | (go_simp; done) | (go_simp; rfl)) ?_; go_frame)
        | (refine Mix.go_assign (by first | exact Mix.wanted_none rfl | exact Mix.wanted_yes rfl rfl rfl) _ rfl _ (by first | (go_simp; done) | (go_simp; rfl)) ?_; go_frame)
        | (refine Mix.go_sureW (by first | exact Mix.wanted_none rfl | exact Mix.wanted_yes rfl rfl rfl) _ (by rfl) (by rfl) _ (fun w' ⟨hC1, hC2⟩ => by go_wp2_with fail; refine Mix.stays ?_; go_frame; rfl) ?_; go_frame)
        | (refine Mix.go_lookW (by first | exact Mix.wanted_none rfl | exact Mix.wanted_yes rfl rfl rfl) _ (by rfl) (by rfl) _ (by go_wp2_with fail; refine Mix.stays ?_; go_frame; rfl) ?_; go_frame))
      refine Mix.go_turn ?_
      go_wp2_with (refine wpList_store_row rfl 27 _ _ rfl w.heap.size #[.int .i64 r.st, .bool r.hit, .int .u32 (r.slot : Int), .slice A r.body.length C] rfl rfl 27 _ HSD.out.heap infoRG rfl (rp4_one (.slice A r.body.length C) r rfl) ?_)
      have hz2 := setRow_heap wd w.heap.size _ #[.int .i64 r.st, .bool r.hit, .int .u32 (r.slot : Int), .slice A r.body.length C] _ _ HSD.out.heap
      have hfe : Fr0 w (wd.setRow w.heap.size #[.int .i64 r.st, .bool r.hit, .int .u32 (r.slot : Int), .slice A r.body.length C]) := Fr.setRow HFD.out (fun h => absurd h (Nat.lt_irrefl _)) _
      have hfs : Fr (fun j => j = w.heap.size) wd (wd.setRow w.heap.size #[.int .i64 r.st, .bool r.hit, .int .u32 (r.slot : Int), .slice A r.body.length C]) := Fr.setRow (S := fun j => j = w.heap.size) (Fr.refl _ wd) (fun _ => rfl) _
      have hbb := bytes_keep HBD.out hfs (fun q m c h hl => (HN3.out q m c h hl).1)
      have hch := hfs.heap HXD.out.heap (fun e => by have e' : W2.heap.size = w.heap.size := e; omega)
      have hcl := (hfs.cell (p := ⟨gr, 0, none⟩) (World.block_lt_of_cell? wd _ HKL.out) (fun e => by have e' : gr = w.heap.size := e; omega)).trans HKL.out
      have HZ2 := Lib.hid hz2
      have HFE := Lib.hid hfe
      have HBB := Lib.hid hbb
      clear hz2 hfe hfs hbb
      generalize wd.setRow w.heap.size #[.int .i64 r.st, .bool r.hit, .int .u32 (r.slot : Int), .slice A r.body.length C] = we at *
      refine Mix.then_go ⟨hch, hcl⟩ ?_
      clear hch hcl
      repeat (first
        | (refine Mix.go_skipS (by first | exact Mix.wanted_no rfl rfl rfl rfl | exact Mix.wanted_void rfl rfl rfl) ?_; go_frame)
        | (refine Mix.go_skipL (by first | exact Mix.wanted_no rfl rfl rfl rfl | exact Mix.wanted_void rfl rfl rfl) ?_; go_frame)
        | (refine Mix.go_move (by first | exact Mix.wanted_none rfl | exact Mix.wanted_yes rfl rfl rfl) _ rfl _ (by first | (go_simp; done) | (go_simp; rfl)) ?_; go_frame)
        | (refine Mix.go_assign (by first | exact Mix.wanted_none rfl | exact Mix.wanted_yes rfl rfl rfl) _ rfl _ (by first | (go_simp; done) | (go_simp; rfl)) ?_; go_frame)
        | (refine Mix.go_sureW (by first | exact Mix.wanted_none rfl | exact Mix.wanted_yes rfl rfl rfl) _ (by rfl) (by rfl) _ (fun w' ⟨hC1, hC2⟩ => by go_wp2_with fail; refine Mix.stays ?_; go_frame; rfl) ?_; go_frame)
        | (refine Mix.go_lookW (by first | exact Mix.wanted_none rfl | exact Mix.wanted_yes rfl rfl rfl) _ (by rfl) (by rfl) _ (by go_wp2_with fail; refine Mix.stays ?_; go_frame; rfl) ?_; go_frame))
      refine Mix.go_end ?_
      go_wp2_with fail
      (try simp only [Exit.inBlock, Exit.then])
      refine bodyPost_ret (results_n3 rfl _ _ w.heap.size _ rfl _ _ rfl rfl HZ2.out infoRG) rfl ⟨A, C, ?_, HBB.out, ?_, HFE.out⟩
      · rw [HE0.out]
        show Ending.returned (.tuple #[.agg #[.int .i64 r.st, .bool r.hit, .int .u32 (r.slot : Int), .slice A r.body.length C], .int .i64 ((b.length : Int) - ((b.length - n : Nat) : Int)), .int .i64 0]) = _
        rw [show (b.length : Int) - ((b.length - n : Nat) : Int) = (n : Int) by omega]
      · exact fun q m c h hl => (HN3.out q m c h hl).2
    · have hz1 : (er != 0) = true := bne_iff_ne.2 he
      go_wp2_with (first | (refine wpList_store_row rfl 27 _ _ rfl w.heap.size #[.int .i64 0, .bool false, .int .u32 0, .slice none 0 0] rfl rfl 27 _ HRS3.out.heap infoRG rfl (rp4_one (.slice none 0 0) zero rfl) ?_) | (refine wpList_store_row rfl 27 _ _ rfl W2.heap.size #[.int .i64 r.st, .bool r.hit, .int .u32 (r.slot : Int), .slice A r.body.length C] rfl rfl 27 _ HGA.out infoRG rfl (rp4_one (.slice A r.body.length C) r rfl) ?_; rw [← HW3.out]))
      have hz2 := setRow_heap W3 w.heap.size _ #[.int .i64 0, .bool false, .int .u32 0, .slice none 0 0] _ _ HRS3.out.heap
      have hfe : Fr0 w (W3.setRow w.heap.size #[.int .i64 0, .bool false, .int .u32 0, .slice none 0 0]) := Fr.setRow HF3.out (fun h => absurd h (Nat.lt_irrefl _)) _
      (try simp only [Exit.inBlock, Exit.then])
      obtain ⟨hr0, hn0⟩ := HER.out he
      subst hr0 hn0
      refine bodyPost_ret (results_n3 rfl _ _ w.heap.size _ rfl _ _ rfl rfl hz2 infoRG) rfl ⟨none, 0, rfl, BytesIs.nil _, (fun a n c h => by cases h), hfe⟩
end Go.Proofs.Ytjefddliebokaaa.Reply
