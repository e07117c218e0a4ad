/-
  FrameKnown: what chapter 10 says of what is spoilt, too long, not whole: the walk.
-/
import Derived.Test.YtggdpmfghbnhcaaDoorFrameAwake
import Derived.Test.YtggdpmfghbnhcaaDoorAppendMake
import Derived.Test.YtggdpmfghbnhcaaDoorLaw
import Derived.Test.YtggdpmfghbnhcaaDoorMix
namespace Go.Proofs.YtggdpmfghbnhcaaDoor.Frame
open Go.RowKit Base Pack Crc

def xyz : List UInt8 := [0, 3, 120, 121, 122, 192, 88, 59, 134]
def spoiltX : List UInt8 := [0, 3, 120, 113, 122, 192, 88, 59, 134]
def none6 : List UInt8 := [0, 0, 65, 217, 18, 255]
theorem frame_xyz : frameOf [120, 121, 122] = xyz := by kernel_rfl
theorem frame_none : frameOf [] = none6 := by kernel_rfl
theorem feed_1 : feed [] false (none6 ++ spoiltX ++ [0, 3, 120, 121, 122]) = ⟨[⟨[], 0⟩, ⟨[], 4⟩], [0, 3, 120, 121, 122], false⟩ := by kernel_rfl
theorem feed_2 : feed [0, 3, 120, 121, 122] false [192, 88, 59, 134] = ⟨[⟨[120, 121, 122], 0⟩], [], false⟩ := by kernel_rfl
theorem feed_3 : feed [] false [2] = ⟨[], [2], false⟩ := by kernel_rfl
theorem feed_4 : feed [2] false [1] = ⟨[⟨[], 2⟩], [], true⟩ := by kernel_rfl
theorem feed_5 : feed [] true xyz = ⟨[], [], true⟩ := by kernel_rfl
theorem make_some (n : Nat) (hn : n ≤ 281474976710656) (x : Int) (hx : x = (n : Int)) (w : World) : (Instr.makeSlice 23 (.int .i64 x) (.int .i64 x)).run Tryd.prog w = .ok (.slice (some ⟨w.heap.size, 0, none⟩) n n) (w.alloc (.cells (bvals (List.replicate n 0)).toArray 5)) := by
  subst hx
  have := run_make_row' (P := Tryd.prog) 23 5 (.int .u8 0) 1 Tryd.underlying23 info8 rfl .i64 .i64 n (by omega) (by omega) w
  rw [this, ← zerosB]
  congr 2
  congr 1
  apply Array.ext
  · simp [madeCells]
  · intro j h1 h2
    simp [madeCells, Nat.mod_one]
theorem bytes_front {w : World} {a : Option Addr} {n cap : Nat} {l : List UInt8} (h : BytesIs w (.slice a n cap) l) (hi : Nat) (hh : hi ≤ l.length) : BytesIs w (.slice a hi cap) (l.take hi) := by
  obtain ⟨a', cap', pb, po, hv, hle, ha, hc⟩ := h
  simp only [Value.slice.injEq] at hv
  obtain ⟨rfl, rfl, rfl⟩ := hv
  have hl : (l.take hi).length = hi := by rw [List.length_take]; omega
  refine ⟨a, cap, pb, po, by rw [hl], by rw [hl]; omega, fun h0 => ha (by omega), fun j hj => ?_⟩
  rw [hl] at hj
  rw [hc j (by omega)]
  simp [hj]
set_option maxRecDepth 100000 in
set_option maxHeartbeats 4000000 in
theorem frameKnown_walk (w : World) (hR : Rests w) :
    Calls Tryd.prog 3 #[] w fun e w' => e = .returned (.bool true) ∧ Fr0 w w' := by
  have HR := Lib.hid hR
  have kc := fun (w : World) (C : Array Value) (n c : Nat) => Lib.run_convert_bytes_const (P := Tryd.prog) w 23 5 C n c Tryd.underlying23 Tryd.underlying5
  clear hR
  have hm1 := fun w => make_some 513 (by decide) 513 rfl w
  have hm2 := fun w => make_some 512 (by decide) 512 rfl w
  have HZ1 := Lib.hid (show (List.replicate 513 (0 : UInt8)).length = 513 from List.length_replicate)
  have HZ2 := Lib.hid (show (List.replicate 512 (0 : UInt8)).length = 512 from List.length_replicate)
  generalize List.replicate 513 (0 : UInt8) = z1 at *
  generalize List.replicate 512 (0 : UInt8) = z2 at *
  go_enter Tryd.func3, Tryd.ntmps3
  go_wp2_with fail
  refine (awake_any _ HR.out).mono ?_
  rintro e w1 ⟨rfl, hF1⟩
  have HF1 := Lib.hid hF1
  clear hF1
  have hput := put_any (.slice (some ⟨w1.heap.size, 0, none⟩) 513 513) z1 (by rw [HZ1.out]; decide) (w1.alloc (.cells (bvals z1).toArray 5)) (bytes_mark w1 z1 _ _ _ 513 HZ1.out.symm 513 (Nat.le_refl _) (by simp) _ rfl) (HR.out.fr (HF1.out.alloc _) (fun f => f))
  go_wp2_with fail
  refine hput.mono ?_
  clear hput
  rintro e w2 ⟨v2, rfl, hB2, hF2⟩
  rw [show putErr z1 = 9 by unfold putErr; rw [if_pos (by rw [HZ1.out]; decide)]]
  have HF2 : Hid (Fr0 w w2) := Lib.hid ((HF1.out.alloc _).trans' hF2)
  clear hB2 hF2 HF1 hm1
  have hput := put_any (.slice (some ⟨w2.heap.size, 0, none⟩) 512 512) z2 (by rw [HZ2.out]; decide) (w2.alloc (.cells (bvals z2).toArray 5)) (bytes_mark w2 z2 _ _ _ 512 HZ2.out.symm 512 (Nat.le_refl _) (by simp) _ rfl) (HR.out.fr (HF2.out.alloc _) (fun f => f))
  go_wp2_with fail
  refine hput.mono ?_
  clear hput
  rintro e w3 ⟨v3, rfl, hB3, hF3⟩
  rw [show putErr z2 = 0 by unfold putErr; rw [if_neg (by rw [HZ2.out]; decide)]]
  rw [show putOut z2 = frameOf z2 by unfold putOut; rw [if_neg (by rw [HZ2.out]; decide)]] at hB3
  obtain ⟨a3, c3, rfl⟩ := hB3.form
  rw [show (frameOf z2).length = 518 by rw [frameOf_length, HZ2.out]]
  have HF3 : Hid (Fr0 w w3) := Lib.hid ((HF2.out.alloc _).trans' hF3)
  clear hB3 hF3 HF2 hm2
  have hput := put_any (.slice none 0 0) [] (by decide) w3 (BytesIs.nil _) (HR.out.fr HF3.out (fun f => f))
  go_wp2_with fail
  refine hput.mono ?_
  clear hput
  rintro e w4 ⟨v4, rfl, hB4, hF4⟩
  rw [show putErr [] = 0 from rfl]
  rw [show putOut [] = none6 from frame_none] at hB4
  obtain ⟨a4, c4, rfl⟩ := hB4.form
  have HF4 : Hid (Fr0 w w4) := Lib.hid (HF3.out.trans' hF4)
  have HB4 := Lib.hid hB4
  clear hB4 hF4 HF3
  go_wp2_with fail
  refine (put_any _ [120, 121, 122] (by decide) _ (bytes_mark w4 [120, 121, 122] #[.int .u8 120, .int .u8 121, .int .u8 122] 5 (3, 4) 3 rfl 3 (Nat.le_refl _) rfl w4.heap.size rfl) (HR.out.fr (HF4.out.alloc _) (fun f => f))).mono ?_
  rintro e w5 ⟨v5, rfl, hB5, hF5⟩
  rw [show putErr [120, 121, 122] = 0 from rfl]
  rw [show putOut [120, 121, 122] = xyz from frame_xyz] at hB5
  obtain ⟨a5, c5, rfl⟩ := hB5.form
  rw [show xyz.length = 9 from rfl, show none6.length = 6 from rfl]
  have HF5 : Hid (Fr0 w w5) := Lib.hid ((HF4.out.alloc _).trans' hF5)
  have HN5 := Lib.hid ((HB4.out.fr0 ((Fr.refl _ _).alloc _)).fr0 hF5)
  have HX5 := Lib.hid hB5
  clear hB5 hF5 HF4 HB4 kc
  go_wp2_with (at_builtin; refine wpList_append_bytes rfl (.tmp 52) (.tmp 53) 23 rfl w5.heap.size 5 Tryd.underlying23 info8 _ _ 0 [] xyz rfl rfl (owns_empty w5 w5.heap.size 5 (Nat.le_refl _) w5.heap.size rfl) (HX5.out.fr0 ((Fr.refl _ _).alloc _)) (by decide) (by simp) ?_)
  intro v6 w6 hO6 hG6
  have hF6 : Fr0 w5 w6 := ((Fr.refl _ _).alloc _).grown hG6 (fun k hk e => by cases e; exact absurd hk (Nat.lt_irrefl _))
  have hO6' : w6.ownsRow w5.heap.size 5 1 v6 9 (bvals xyz) := hO6
  have hB6 := BytesIs.own hO6'
  obtain ⟨h0, ⟨rfl, h00⟩ | ⟨gz, cap, cur, rfl, hgb, hgc, _⟩⟩ := hO6'
  · exfalso; omega
  have hd6 : w6.frozen? ⟨gz, 3, none⟩ = false := by simp [World.frozen?, hgc]
  have hB7 : BytesIs (w6.setCell ⟨gz, 3, none⟩ (.int .u8 113)) (.slice (some ⟨gz, 0, none⟩) 9 cap) spoiltX := hB6.set 3 (by decide) 113 (.int .u8 113) rfl
  have hc6 : w6.cell? ⟨gz, 3, none⟩ = some (.int .u8 121) := by
    obtain ⟨a, c, pb, po, hv, _, ha, hcell⟩ := hB6
    have h := hcell 3 (by decide)
    have h2 := ha (by decide)
    subst h2
    simp only [Value.slice.injEq, Option.some.injEq, Addr.mk.injEq, and_true] at hv
    obtain ⟨⟨rfl, rfl⟩, _, _⟩ := hv
    rw [Nat.zero_add] at h
    exact h
  have hF7 : Fr0 w5 (w6.setCell ⟨gz, 3, none⟩ (.int .u8 113)) := hF6.setCell (p := ⟨gz, 3, none⟩) (fun h => by have h' : gz < w5.heap.size := h; omega) _
  have HF7 : Hid (Fr0 w (w6.setCell ⟨gz, 3, none⟩ (.int .u8 113))) := Lib.hid (HF5.out.trans' hF7)
  have HN7 := Lib.hid (HN5.out.fr0 hF7)
  have HX7 := Lib.hid (HX5.out.fr0 hF7)
  have HS7 := Lib.hid hB7
  have hgc' : ∃ x, w6.heap[gz]? = some x := ⟨_, hgc⟩
  clear hO6 hG6 hF6 hB6 hgc hB7 hF7 h0 HX5 HN5 HF5
  go_wp2_with fail
  generalize w6.setCell ⟨gz, 3, none⟩ (.int .u8 113) = w7 at *
  clear hc6 hd6 hgc'
  refine (made w7 w7 (Fr.refl _ _)).mono ?_
  rintro e w8 ⟨g, rfl, hg, hM, hF8⟩
  have HR7 : Hid (Rests w7) := Lib.hid (HR.out.fr HF7.out (fun f => f))
  have hc5 : 9 ≤ c5 := by
    obtain ⟨_, _, _, _, hv, hle, _, _⟩ := HX7.out
    simp only [Value.slice.injEq] at hv
    have : xyz.length = 9 := rfl
    omega
  have hgl : g < w8.heap.size := hM.at_.lt
  have hcx := fun wx => cut_hi_at (P := Tryd.prog) 23 5 Tryd.underlying23 (by kernel_rfl) a5 9 c5 5 (by omega) wx
  have HC5 : Hid (∀ W, Fr0 w7 W → BytesIs W (.slice a5 5 c5) (xyz.take 5)) := Lib.hid (fun W h => bytes_front (HX7.out.fr0 h) 5 (by decide))
  have HM8 := Lib.hid (hM.fr0 (Fr.refl _ _).drew)
  have HF8 : Hid (Fr0 w7 w8.drew) := Lib.hid hF8.drew
  have hsz : w8.drew.heap.size = w8.heap.size := rfl
  clear hM hF8 hg
  unfold ptr at *
  go_wp2
  refine Mix.law (fun _ => True) [(.sure, 0), (.sure, 2), (.sure, 4), (.sure, 6), (.sure, 7), (.turn, 1), (.turn, 3), (.turn, 5), (.turn, 8), (.turn, 9), (.sure, 10)] (by kernel_rfl) (by kernel_rfl) trivial ?_
  simp only [List.map_cons, List.map_nil, Mix.nth_zero, Mix.nth_succ]
  repeat (first
    | (refine Mix.go_skipS (by exact Mix.wanted_no rfl rfl rfl rfl) ?_; go_frame)
    | (refine Mix.go_skipL (by exact Mix.wanted_no rfl rfl rfl rfl) ?_; go_frame)
    | (refine Mix.go_move (by first | exact Mix.wanted_none rfl | exact Mix.wanted_yes rfl rfl rfl) _ rfl _ (by first | (go_simp; done) | (go_simp; rfl)) ?_; go_frame)
    | (refine Mix.go_assign (by first | exact Mix.wanted_none rfl | exact Mix.wanted_yes rfl rfl rfl) _ rfl _ (by first | (go_simp; done) | (go_simp; rfl)) ?_; go_frame)
    | (refine Mix.go_sureW (by first | exact Mix.wanted_none rfl | exact Mix.wanted_yes rfl rfl rfl) _ (by rfl) (by rfl) _ (fun w' hC' => by go_wp2_with fail; refine Mix.stays ?_; go_frame; rfl) ?_; go_frame)
    | (refine Mix.go_lookW (by first | exact Mix.wanted_none rfl | exact Mix.wanted_yes rfl rfl rfl) _ (by rfl) (by rfl) _ (by go_wp2_with fail; refine Mix.stays ?_; go_frame; rfl) ?_; go_frame))
  refine Mix.go_turn ?_
  go_wp2
  refine Mix.then_go trivial ?_
  refine Mix.go_turn ?_
  have hfa : Fr0 w8.drew (w8.drew.alloc (.cells #[] 5)) := (Fr.refl _ _).alloc _
  go_wp2_with (at_builtin; refine wpList_append_bytes rfl (.tmp 59) (.tmp 60) 23 rfl w8.heap.size 5 Tryd.underlying23 info8 _ _ 0 [] none6 rfl rfl (owns_empty w8.drew w8.heap.size 5 (Nat.le_refl _) w8.heap.size rfl) ((HN7.out.fr0 HF8.out).fr0 hfa) (by decide) (by simp) ?_)
  intro v9 w9 hO9 hG9
  have hF9 : Fr0 w8.drew w9 := hfa.grown hG9 (fun k hk e => by cases e; exact absurd hk (Nat.lt_irrefl _))
  have HF9 := Lib.hid hF9
  have HO9 : Hid (w9.ownsRow w8.heap.size 5 1 v9 6 (bvals none6)) := Lib.hid hO9
  clear hO9 hG9 hfa hF9
  refine Mix.then_go trivial ?_
  refine Mix.go_turn ?_
  go_wp2_with (at_builtin; refine wpList_append_bytes rfl (.tmp 61) (.tmp 62) 23 rfl w8.heap.size 5 Tryd.underlying23 info8 _ _ 6 none6 spoiltX rfl rfl HO9.out (HS7.out.fr0 (HF8.out.trans' HF9.out)) (by decide) HF9.out.size ?_)
  intro v10 w10 hO10 hG10
  have HF10 : Hid (Fr0 w8.drew w10) := Lib.hid (HF9.out.grown hG10 (fun k hk e => by have h := (HO9.out.lt k e).1; have h2 : k < w8.heap.size := hk; omega))
  have HO10 : Hid (w10.ownsRow w8.heap.size 5 1 v10 15 (bvals (none6 ++ spoiltX))) := Lib.hid hO10
  clear hO10 hG10 HO9 HF9
  refine Mix.then_go trivial ?_
  refine Mix.go_turn ?_
  go_wp2_with (at_builtin; refine wpList_append_bytes rfl (.tmp 63) (.tmp 65) 23 rfl w8.heap.size 5 Tryd.underlying23 info8 _ _ 15 (none6 ++ spoiltX) (xyz.take 5) rfl rfl HO10.out (HC5.out _ (HF8.out.trans' HF10.out)) (by decide) HF10.out.size ?_)
  intro v11 w11 hO11 hG11
  have HF11 : Hid (Fr0 w8.drew w11) := Lib.hid (HF10.out.grown hG11 (fun k hk e => by have h := (HO10.out.lt k e).1; have h2 : k < w8.heap.size := hk; omega))
  have HO11 : Hid (w11.ownsRow w8.heap.size 5 1 v11 20 (bvals (none6 ++ spoiltX ++ [0, 3, 120, 121, 122]))) := Lib.hid hO11
  clear hO11 hG11 HO10 HF10
  have HM11 := Lib.hid (HM8.out.fr0 HF11.out)
  have hfd := fed_any w7 w11 g none [] false (none6 ++ spoiltX ++ [0, 3, 120, 121, 122]) v11 HM11.out (HF8.out.trans' HF11.out) HR7.out (by decide) (BytesIs.own HO11.out) (fun a n c hv hl e => by
    have := (HO11.out.lt a.block (by rw [hv]; rfl)).1
    rcases e with e | e
    · omega
    · cases e)
  unfold ptr at hfd
  refine Mix.then_go trivial ?_
  refine Mix.go_turn ?_
  go_wp2_with fail
  refine hfd.mono ?_
  clear hfd
  rintro e w12 ⟨v12, q12, rfl, hM12, _, hP12, _, hF12⟩
  rw [feed_1] at hM12 hP12
  simp only at hM12 hP12
  obtain ⟨A12, C12, rfl⟩ := hP12.form
  have HM12 := Lib.hid hM12
  have HP12 : Hid (Pieces w12 (fun k => k < w11.heap.size ∨ q12 = some k) (.slice A12 2 C12) [⟨[], 0⟩, ⟨[], 4⟩]) := Lib.hid hP12
  have HF12 := Lib.hid hF12
  have HGL : Hid (g < w11.heap.size) := Lib.hid HM11.out.at_.lt
  clear hM12 hP12 hF12 HM11 HO11 HF11
  go_wp2
  refine Mix.then_go trivial ?_
  repeat (first
    | (refine Mix.go_skipS (by exact Mix.wanted_no rfl rfl rfl rfl) ?_; go_frame)
    | (refine Mix.go_skipL (by exact Mix.wanted_no rfl rfl rfl rfl) ?_; go_frame)
    | (refine Mix.go_move (by first | exact Mix.wanted_none rfl | exact Mix.wanted_yes rfl rfl rfl) _ rfl _ (by first | (go_simp; done) | (go_simp; rfl)) ?_; go_frame)
    | (refine Mix.go_assign (by first | exact Mix.wanted_none rfl | exact Mix.wanted_yes rfl rfl rfl) _ rfl _ (by first | (go_simp; done) | (go_simp; rfl)) ?_; go_frame)
    | (refine Mix.go_sureW (by first | exact Mix.wanted_none rfl | exact Mix.wanted_yes rfl rfl rfl) _ (by rfl) (by rfl) _ (fun w' hC' => by go_wp2_with fail; refine Mix.stays ?_; go_frame; rfl) ?_; go_frame)
    | (refine Mix.go_lookW (by first | exact Mix.wanted_none rfl | exact Mix.wanted_yes rfl rfl rfl) _ (by rfl) (by rfl) _ (by go_wp2_with fail; refine Mix.stays ?_; go_frame; rfl) ?_; go_frame))
  refine Mix.go_end ?_
  have hww := waits_any g q12 _ _ w12 HM12.out.at_
  unfold ptr at hww
  go_wp2_with fail
  refine hww.mono ?_
  clear hww
  rintro e w13 ⟨rfl, rfl⟩
  obtain ⟨a6, c6, b6, r6, _⟩ := cut_lo_b (P := Tryd.prog) 23 5 Tryd.underlying23 (by kernel_rfl) HX7.out 5 (by decide) 5 rfl
  have b6 : BytesIs w7 (.slice a6 4 c6) [192, 88, 59, 134] := b6
  have r6 : ∀ wx : World, (Instr.sliceAt 23 (.slice a5 9 c5) (some (.int .i64 5)) none none).run Tryd.prog wx = .ok (.slice a6 4 c6) wx := r6
  have F12 : Hid (Fr0 w7 w12) := HF12
  have hfd := fed_any w7 w12 g q12 [0, 3, 120, 121, 122] false [192, 88, 59, 134] _ HM12.out F12.out HR7.out (by decide) (b6.fr0 F12.out) (HM12.out.old b6)
  unfold ptr at hfd
  clear b6
  go_wp2_with fail
  refine hfd.mono ?_
  clear hfd
  rintro e w14 ⟨v14, q14, rfl, hM14, hQ14, hP14, hf14, hF14⟩
  rw [feed_2] at hM14 hP14
  simp only at hM14 hP14
  obtain ⟨A14, C14, rfl⟩ := hP14.form
  have HM14 := Lib.hid hM14
  have HP12' := Lib.hid (HP12.out.next HGL.out hf14 hQ14)
  have HP14 : Hid (Pieces w14 (fun k => k < w12.heap.size ∨ q14 = some k) (.slice A14 1 C14) [⟨[120, 121, 122], 0⟩]) := Lib.hid hP14
  have HGM : Hid (g < w12.heap.size) := Lib.hid HM12.out.at_.lt
  have HF14 := Lib.hid hF14
  clear hM14 hP14 hf14 hQ14 hF14 HM12 HP12 r6
  -- [2]
  have HMa := Lib.hid (HM14.out.fr0 (w' := w14.alloc (.cells #[.int .u8 2] 5)) ((Fr.refl _ _).alloc _))
  have HPa := Lib.hid (HP12'.out.fr0 (w' := w14.alloc (.cells #[.int .u8 2] 5)) ((Fr.refl _ _).alloc _))
  have HPb := Lib.hid (HP14.out.fr0 (w' := w14.alloc (.cells #[.int .u8 2] 5)) ((Fr.refl _ _).alloc _))
  have HFa : Hid (Fr0 w7 (w14.alloc (.cells #[.int .u8 2] 5))) := Lib.hid (HF14.out.alloc _)
  have hfd := fed_any w7 _ g q14 [] false [2] (.slice (some ⟨w14.heap.size, 0, none⟩) 1 1) HMa.out HFa.out HR7.out (by decide) (bytes_mark w14 [2] #[.int .u8 2] _ _ 1 rfl 1 (Nat.le_refl _) rfl _ rfl) (HM14.out.new (w := w7) (fun a n c hv => by cases hv; exact Nat.le_refl _))
  unfold ptr at hfd
  clear HM14 HP12' HP14 HF14 HMa
  go_wp2_with fail
  refine hfd.mono ?_
  clear hfd
  rintro e w15 ⟨v15, q15, rfl, hM15, hQ15, hP15, hf15, hF15⟩
  rw [feed_3] at hM15 hP15
  simp only at hM15 hP15
  obtain ⟨A15, C15, rfl⟩ := hP15.form
  have HM15 := Lib.hid hM15
  have HPa15 := Lib.hid (HPa.out.next HGL.out hf15 hQ15)
  have HPb15 := Lib.hid (HPb.out.next HGM.out hf15 hQ15)
  have HF15 := Lib.hid hF15
  clear hM15 hP15 hf15 hQ15 hF15 HPa HPb HFa
  -- [1]
  have HMa := Lib.hid (HM15.out.fr0 (w' := w15.alloc (.cells #[.int .u8 1] 5)) ((Fr.refl _ _).alloc _))
  have HPa := Lib.hid (HPa15.out.fr0 (w' := w15.alloc (.cells #[.int .u8 1] 5)) ((Fr.refl _ _).alloc _))
  have HPb := Lib.hid (HPb15.out.fr0 (w' := w15.alloc (.cells #[.int .u8 1] 5)) ((Fr.refl _ _).alloc _))
  have HFa : Hid (Fr0 w7 (w15.alloc (.cells #[.int .u8 1] 5))) := Lib.hid (HF15.out.alloc _)
  have hfd := fed_any w7 _ g q15 [2] false [1] (.slice (some ⟨w15.heap.size, 0, none⟩) 1 1) HMa.out HFa.out HR7.out (by decide) (bytes_mark w15 [1] #[.int .u8 1] _ _ 1 rfl 1 (Nat.le_refl _) rfl _ rfl) (HM15.out.new (w := w7) (fun a n c hv => by cases hv; exact Nat.le_refl _))
  unfold ptr at hfd
  have HGN : Hid (g < (w15.alloc (.cells #[.int .u8 1] 5)).heap.size) := Lib.hid HMa.out.at_.lt
  clear HM15 HPa15 HPb15 HF15 HMa
  go_wp2_with fail
  refine hfd.mono ?_
  clear hfd
  rintro e w16 ⟨v16, q16, rfl, hM16, hQ16, hP16, hf16, hF16⟩
  rw [feed_4] at hM16 hP16
  simp only at hM16 hP16
  obtain ⟨A16, C16, rfl⟩ := hP16.form
  have HM16 := Lib.hid hM16
  have HPa16 := Lib.hid (HPa.out.next HGL.out hf16 hQ16)
  have HPb16 := Lib.hid (HPb.out.next HGM.out hf16 hQ16)
  generalize w15.alloc (.cells #[.int .u8 1] 5) = w15a at *
  have HPc16 : Hid (Pieces w16 (fun k => k < w15a.heap.size ∨ q16 = some k) (.slice A16 1 C16) [⟨[], 2⟩]) := Lib.hid hP16
  have HF16 := Lib.hid hF16
  clear hM16 hP16 hf16 hQ16 hF16 HPa HPb HFa
  -- once more, dead
  have hfd := fed_any w7 w16 g q16 [] true xyz _ HM16.out HF16.out HR7.out (by decide) (HX7.out.fr0 HF16.out) (HM16.out.old HX7.out)
  unfold ptr at hfd
  go_wp2_with fail
  refine hfd.mono ?_
  clear hfd
  rintro e w17 ⟨v17, q17, rfl, hM17, hQ17, hP17, hf17, hF17⟩
  rw [feed_5] at hM17 hP17
  simp only at hM17 hP17
  obtain ⟨A17, C17, rfl⟩ := hP17.form
  have HM17 := Lib.hid hM17
  obtain ⟨pl, ol, rfl, hal⟩ := (HPa16.out.next HGL.out hf17 hQ17).at.2 (by decide)
  obtain ⟨pm, om, rfl, ham⟩ := (HPb16.out.next HGM.out hf17 hQ17).at.2 (by decide)
  obtain ⟨po, oo, rfl, hao⟩ := (HPc16.out.next HGN.out hf17 hQ17).at.2 (by decide)
  obtain ⟨s0, k0, k01, hb0, _⟩ := hal 0 (by decide)
  obtain ⟨s1, k1, k11, hb1, _⟩ := hal 1 (by decide)
  obtain ⟨s2, k2, k21, hb2, _⟩ := ham 0 (by decide)
  obtain ⟨s3, k3, k31, hb3, _⟩ := hao 0 (by decide)
  simp only [List.getElem_cons_zero, List.getElem_cons_succ, Nat.zero_mul, Nat.one_mul, Nat.add_zero, Nat.add_assoc, Nat.reduceAdd] at k0 k01 k1 k11 k2 k21 k3 k31 hb0 hb1 hb2
  obtain ⟨A0, C0, rfl⟩ := hb0.form
  obtain ⟨A1, C1, rfl⟩ := hb1.form
  simp only [List.length_nil] at k0 k1
  have hcv := hb2.convert (P := Tryd.prog) 23 9 5 Tryd.underlying23 Tryd.underlying5 Tryd.underlying9
  have HFE : Hid (Fr0 w w17) := Lib.hid (HF7.out.trans' hF17)
  have hdd := dead_any g q17 [] true w17 HM17.out.at_
  have hww := waits_any g q17 [] true w17 HM17.out.at_
  unfold ptr at hdd hww
  clear hM17 hP17 hf17 hQ17 hF17 hal ham hao hb0 hb1 hb2 hb3 HPa16 HPb16 HPc16 HF16 HM16 hcx
  go_wp2_with fail
  refine hdd.mono ?_
  clear hdd
  rintro e w18 ⟨rfl, rfl⟩
  go_wp2_with fail
  refine hww.mono ?_
  clear hww
  rintro e w18 ⟨rfl, rfl⟩
  go_wp2
  go_ret
  exact ⟨rfl, HFE.out⟩
end Go.Proofs.YtggdpmfghbnhcaaDoor.Frame
